import Derived.Test.YtighkdnooglfjaaGreatDoorPxKPr
import Derived.Test.YtighkdnooglfjaaGreatDoorPxPRs
namespace Go.Proofs.YtighkdnooglfjaaGreatDoor
open Tryz
set_option maxRecDepth 100000
set_option maxHeartbeats 2000000
open Go.RowKit

theorem Jmb (k:List UInt8) (i:Nat) (hi:i<8 * k.length) (hl:k.length<=1000000) (w:World):
  Calls prog 59 #[.string ⟨k.toArray⟩,.int .i64 (i:Int)] w λe w'=>e=.returned (.int .i64 (bt k i:Int))/\w'=w:=by
 have hsz:(⟨k.toArray⟩:BA).size=k.length:=JC k
 have hix:i / 8<(⟨k.toArray⟩:BA).size:=by omega
 have HB:Hid ((⟨k.toArray⟩:BA)[i / 8].toNat=(k.getD (i / 8) 0).toNat):=by
  show UInt8.toNat _=_
  congr 1
  simp [List.getD_eq_getElem?_getD,show i / 8<k.length by omega]
  rfl
 have hlt:=UInt8.toNat_lt (⟨k.toArray⟩:BA)[i / 8]
 have HBT:Hid (bt k i=(k.getD (i / 8) 0).toNat / 2 ^ (7 - i % 8) % 2):=rfl
 clear hsz
 generalize (⟨k.toArray⟩:BA)=tb at *
 have hq:((i:Int) / 8).toNat=i / 8:=by omega
 go_enter func59,ntmps59
 go_wp2
 go_ret
 refine ⟨Jcw ?_,rfl⟩
 have e1:((tb[i / 8].toNat:Int) / 2 ^ (7 - i % 8))=((tb[i / 8].toNat / 2 ^ (7 - i % 8):Nat):Int):=by simp
 have hle:tb[i / 8].toNat / 2 ^ (7 - i % 8)<=tb[i / 8].toNat:=Nat.div_le_self _ _
 rw [e1]
 have e2:wrap64 ((tb[i / 8].toNat / 2 ^ (7 - i % 8):Nat):Int)=((tb[i / 8].toNat / 2 ^ (7 - i % 8):Nat):Int):=by
  have h0:(0:Int)<=((tb[i / 8].toNat / 2 ^ (7 - i % 8):Nat):Int):=Int.natCast_nonneg _
  have h1:((tb[i / 8].toNat / 2 ^ (7 - i % 8):Nat):Int)<256:=by omega
  generalize ((tb[i / 8].toNat / 2 ^ (7 - i % 8):Nat):Int)=z at *
  unfold wrap64
  omega
 rw [e2,HBT.o,<-HB.o]
 rfl
def Xr (l:List Held) (b:Nat):Bool:=match l with
 | []=>true
 | h :: r=>r.all λx=>bt (Jd x.1) b == bt (Jd h.1) b
theorem Jld (xb wd b:Nat) (hb:b<8 * (wd+1)) (hw:wd<=32) (v:Value) (h0:Held) (r:List Held) (w:World) (hv:JP w v (h0 :: r)) (hco:∀h∈h0 :: r,Ji wd h.1) (hlen:(h0 :: r).length<=1000000000):
  Calls prog 58 #[.pointer (some ⟨xb,0,none⟩),v,.int .i64 (b:Int)] w λe w'=>e=.returned (.bool (Xr (h0 :: r) b))/\Tch NoB w w':=by
 rcases hv with ⟨_,e⟩ | ⟨g,o,c,rfl,hg,hcell⟩
 ·cases e
 have HKT:Hid (∀V (s:BA) (N:Int),Ji wd (s,N)->Calls prog 54 #[.agg #[.string s,.int .i64 N]] V λe w'=>e=.returned (.string ⟨(Jd (s,N)).toArray⟩)/\Tch NoB V w'):=λV s N hc=>JaE (s,N) V hc.2.1 (by have:=hc.2.2;omega) (by have:=hc.1;dsimp only at this;show s.size<=_;omega)
 have HBT:Hid (∀V (c:BA×Int),Ji wd c->Calls prog 59 #[.string ⟨(Jd c).toArray⟩,.int .i64 (b:Int)] V λe w'=>e=.returned (.int .i64 (bt (Jd c) b:Int))/\w'=V):=λV c hc=>by
  have hl:(Jd c).length=wd+1:=by unfold Jd;rw [Qe,Xo,Je,hc.1]
  exact Jmb (Jd c) b (by rw [hl];exact hb) (by rw [hl];omega) V
 have HC:Hid (∀(i:Nat) (h:i<(h0 :: r).length),Ji wd (h0 :: r)[i].1/\∀V,Tch NoB w V->V.cell? ⟨g,o+i * 4,none⟩=some (.string (h0 :: r)[i].1.1)/\V.cell? ⟨g,o+i * 4+1,none⟩=some (.int .i64 (h0 :: r)[i].1.2)):=λi h=>⟨hco _ (Qx h),λV hV=>⟨(hV.cell (p:=⟨g,o+i * 4,none⟩) hg (λe=>e)).trans (hcell i h).1,(hV.cell (p:=⟨g,o+i * 4+1,none⟩) hg (λe=>e)).trans (hcell i h).2.1⟩⟩
 have HAL:Hid (Xr (h0 :: r) b=r.all λx=>bt (Jd x.1) b == bt (Jd h0.1) b):=rfl
 generalize Xr (h0 :: r) b=al at *
 have hn:(h0 :: r).length=r.length+1:=rfl
 have hlen':r.length<=1000000000:=by omega
 rw [hn]
 clear hcell hco hlen hn hb
 go_enter func58,ntmps58
 go_upto_region 2 with fail
 go_loopw [7] (λi wr=>∃k:Nat,k<=r.length/\i=.int .i64 ((k:Int)+1)/\Hid ((r.take k).all (λx=>bt (Jd x.1) b == bt (Jd h0.1) b)=true)/\Hid (Tch NoB w wr)) (λi _=>r.length+1 - (intOf i).toNat)
 case atStart=>exact ⟨0,Nat.zero_le _,rfl,(by simp:((r.take 0).all (λx=>bt (Jd x.1) b == bt (Jd h0.1) b))=true),Tch.refl _ _⟩
 case round=>
  obtain ⟨k,hk,rfl,HA,HT⟩:=hrel
  by_cases hgo:k<r.length
  ·have hki:(k:Int)+1<((r.length+1:Nat):Int):=by omega
   obtain ⟨ok0,c0⟩:=HC.o 0 (by simp)
   obtain ⟨okk,ck⟩:=HC.o (k+1) (by simp;omega)
   have hxe:(h0 :: r)[k+1]'(by simp;omega)=r[k]:=rfl
   rw [hxe] at okk ck
   have hx0:(h0 :: r)[0]'(by simp)=h0:=rfl
   rw [hx0] at ok0 c0
   have HNX:Hid ((r.take (k+1)).all (λx=>bt (Jd x.1) b == bt (Jd h0.1) b)=(bt (Jd r[k].1) b == bt (Jd h0.1) b)):=by
    show List.all _ _=_
    rw [List.take_succ_eq_append_getElem hgo,List.all_append,HA.o]
    simp
   have HNO:Hid (¬bt (Jd r[k].1) b=bt (Jd h0.1) b->al=false):=λhne=>by
    rw [HAL.o,List.all_eq_false]
    exact ⟨r[k],Qx hgo,by simpa using hne⟩
   obtain ⟨⟨⟨s0,N0⟩,o0⟩,hh0⟩:∃x:Held,x=h0:=⟨_,rfl⟩
   obtain ⟨⟨⟨sk,Nk⟩,ok⟩,hhk⟩:∃x:Held,x=r[k]:=⟨_,rfl⟩
   rw [<-hh0] at ok0 c0 HNO
   rw [<-hhk] at okk ck HNO
   have HNX2:Hid (bt (Jd (sk,Nk)) b=bt (Jd (s0,N0)) b->(r.take (k+1)).all (λx=>bt (Jd x.1) b == bt (Jd h0.1) b)=true):=λe=>by rw [HNX.o,<-hh0,<-hhk];simpa using e
   clear HNX
   have HO:Hid (Ji wd (s0,N0)/\Ji wd (sk,Nk)):=⟨ok0,okk⟩
   have HCC:Hid (∀V,Tch NoB w V->V.cell? ⟨g,o,none⟩=some (.string s0)/\V.cell? ⟨g,o+1,none⟩=some (.int .i64 N0)/\V.cell? ⟨g,o+(k+1) * 4,none⟩=some (.string sk)/\V.cell? ⟨g,o+(k+1) * 4+1,none⟩=some (.int .i64 Nk)):=λV hV=>by
    have a0:=c0 V hV
    have ak:=ck V hV
    simp only [Nat.zero_mul,Nat.add_zero] at a0
    exact ⟨a0.1,a0.2,ak.1,ak.2⟩
   obtain ⟨x0,x1,xk,xl⟩:=HCC.o wr HT.o
   have hk0:(0:Int)<=(k:Int)+1:=by omega
   have HGO:Hid _:=hgo
   clear ok0 c0 okk ck hxe hx0 hgo hh0 hhk hk
   go_upto_region 4 with fail
   go_cut [29] (λv wx=>v=.bool (decide (¬bt (Jd (sk,Nk)) b=bt (Jd (s0,N0)) b))/\Hid (Tch NoB w wx))
   case first=>
    have hkt:((k:Int)+1).toNat=k+1:=by omega
    have HTd:Hid (Tch NoB w wr.drew):=HT.o.go (Tch.drewN _ wr 1)
    go_region_held3 (λV=>V.cell? ⟨g,o,none⟩=some (.string s0)/\V.cell? ⟨g,o+1,none⟩=some (.int .i64 N0)/\V.cell? ⟨g,o+(k+1) * 4,none⟩=some (.string sk)/\V.cell? ⟨g,o+(k+1) * 4+1,none⟩=some (.int .i64 Nk)) (go_keep) ((first | (go_at_call 54;refine (HKT.o _ _ _ (by first | exact HO.o.2 | exact HO.o.1)).mono ?_;rintro _ w5 ⟨rfl,ht5⟩;have HT5:Hid (Tch NoB w w5):=(by first | exact HTd.o.go ht5 | exact HT5.o.go ht5);obtain ⟨y0,y1,yk,yl⟩:=HCC.o w5 HT5.o;clear ht5) | (go_at_call 59;refine (HBT.o _ _ (by first | exact HO.o.2 | exact HO.o.1)).mono ?_;rintro _ _ ⟨rfl,rfl⟩)))
    all_goals
     go_wp2
     go_meet
     refine ⟨?_,by first | exact HT5⟩
     rw [Value.bool.injEq,Bool.eq_iff_iff]
     simp only [bne_iff_ne,ne_eq,decide_eq_true_eq]
     omega
   case rest=>
   obtain ⟨rfl,HT6⟩:=hcut
   obtain ⟨w6,hw6⟩:∃w6,w6=wc:=⟨wc,rfl⟩
   subst hw6
   clear HCC x0 x1 xk xl
   by_cases hne:bt (Jd (sk,Nk)) b=bt (Jd (s0,N0)) b
   ·have hd:(decide (¬bt (Jd (sk,Nk)) b=bt (Jd (s0,N0)) b))=false:=by simp [hne]
    rw [hd]
    have HN:Hid ((r.take (k+1)).all (λx=>bt (Jd x.1) b == bt (Jd h0.1) b)=true):=by
     exact HNX2.o hne
    go_wp2
    go_roundw
    case rel=>exact ⟨k+1,HGO.o,by have:=HGO.o;go_num,HN,HT6⟩
    case measure=>have:=HGO.o;simp [intOf];omega
   ·have hd:(decide (¬bt (Jd (sk,Nk)) b=bt (Jd (s0,N0)) b))=true:=by simp [hne]
    rw [hd]
    have HN:Hid (al=false):=HNO.o hne
    go_wp2
    go_ret
    rw [HN.o]
    exact ⟨rfl,HT6.o⟩
  ·have hki:¬(k:Int)+1<((r.length+1:Nat):Int):=by omega
   have HAL2:Hid (al=true):=by
    show al=true
    rw [HAL.o]
    have:=HA.o
    rw [List.take_of_length_le (by omega)] at this
    exact this
   go_wp2
   go_ret
   rw [HAL2.o]
   exact ⟨rfl,HT.o⟩

def koL (l:List Held):List KO:=l.map λh=>(Jd h.1,h.2)
theorem ZS (h0:Held) (r:List Held) (b:Nat):Xr (h0 :: r) b=true↔∀x∈h0 :: r,bt (Jd x.1) b=bt (Jd h0.1) b:=by
 unfold Xr
 simp only [List.all_eq_true,beq_iff_eq,List.mem_cons,forall_eq_or_imp,true_and]
theorem Jla (h0:Held) (r:List Held) (b:Nat) (hno:Xr (h0 :: r) b=false) (hyes:∀i,i<b->Xr (h0 :: r) i=true):Fork (koL (h0 :: r)) b:=by
 constructor
 ·intro x hx y hy i hi
  have h:=(ZS h0 r i).1 (hyes i hi)
  obtain ⟨u,hu,rfl⟩:=List.mem_map.1 hx
  obtain ⟨v,hv,rfl⟩:=List.mem_map.1 hy
  exact (h u hu).trans (h v hv).symm
 ·apply Classical.byContradiction
  intro hc
  have:Xr (h0 :: r) b=true:=(ZS h0 r b).2 λx hx=>by
   apply Classical.byContradiction
   intro hne
   exact hc ⟨_,List.mem_map.2 ⟨x,hx,rfl⟩,_,List.mem_map.2 ⟨h0,List.mem_cons_self,rfl⟩,hne⟩
  rw [hno] at this
  cases this
theorem Jk9 {wd:Nat} (h0 x:Held) (r:List Held) (hok:∀h∈h0 :: x :: r,Ji wd h.1) (hnd:((h0 :: x :: r).map (·.1)).Nodup):∃b,b<8 * (wd+1)/\Xr (h0 :: x :: r) b=false:=by
 have k0:=hok h0 (by simp)
 have kx:=hok x (by simp)
 have hne:Jd h0.1 ≠ Jd x.1:=λe=>by
  have:=JaB k0 kx e
  simp [this] at hnd
 obtain ⟨h1,h2,_⟩:=Jhl (Jd h0.1) (Jd x.1) (by rw [Xt k0,Xt kx]) hne
 rw [Xt k0] at h1
 refine ⟨_,h1,?_⟩
 cases ha:Xr (h0 :: x :: r) (fd (Jd h0.1) (Jd x.1)) with
 | false=>rfl
 | true=>exact absurd ((ZS h0 (x :: r) _).1 ha x (by simp)).symm h2
def JQ (l:List Held) (b v:Nat):List Held:=l.filter λh=>bt (Jd h.1) b=v
theorem JcL (l:List Held) (b v:Nat):koL (JQ l b v)=side (koL l) b v:=by
 unfold koL JQ side
 rw [List.filter_map]
 rfl
theorem Jac (l:List Held) (x:Held) (b v:Nat):JQ (l++[x]) b v=if bt (Jd x.1) b=v then JQ l b v++[x] else JQ l b v:=by
 unfold JQ
 rw [List.filter_append]
 by_cases h:bt (Jd x.1) b=v
 ·rw [if_pos h,List.filter_cons_of_pos (by simpa using h)];rfl
 ·rw [if_neg h,List.filter_cons_of_neg (by simpa using h)];simp
theorem Jd0 (l:List Held) (b:Nat):(JQ l b 0).length+(JQ l b 1).length=l.length:=by
 have:=JfF (koL l) b
 rw [<-JcL,<-JcL] at this
 simpa [koL] using this
theorem Jkx (h0:Held) (r:List Held) (b:Nat) (hno:Xr (h0 :: r) b=false):(JQ (h0 :: r) b 0).length<(h0 :: r).length/\(JQ (h0 :: r) b 1).length<(h0 :: r).length:=by
 have hl:=Jd0 (h0 :: r) b
 have hx:∃x∈h0 :: r,¬bt (Jd x.1) b=bt (Jd h0.1) b:=by
  apply Classical.byContradiction
  intro hc
  have:Xr (h0 :: r) b=true:=(ZS h0 r b).2 λx hx=>by
   apply Classical.byContradiction
   intro hne
   exact hc ⟨x,hx,hne⟩
  rw [hno] at this
  cases this
 obtain ⟨x,hx,hne⟩:=hx
 have b0:=XA (Jd h0.1) b
 have bx:=XA (Jd x.1) b
 have m0:h0∈JQ (h0 :: r) b (bt (Jd h0.1) b):=List.mem_filter.2 ⟨List.mem_cons_self,by simp⟩
 have mx:x∈JQ (h0 :: r) b (bt (Jd x.1) b):=List.mem_filter.2 ⟨hx,by simp⟩
 have p0:=List.length_pos_of_mem m0
 have px:=List.length_pos_of_mem mx
 have h2:(bt (Jd h0.1) b=0/\bt (Jd x.1) b=1)\/(bt (Jd h0.1) b=1/\bt (Jd x.1) b=0):=by omega
 rcases h2 with ⟨e1,e2⟩ | ⟨e1,e2⟩
 ·rw [e1] at p0;rw [e2] at px;omega
 ·rw [e1] at p0;rw [e2] at px;omega
theorem Jgi {wd:Nat} (h0 x:Held) (r:List Held) (hok:∀h∈h0 :: x :: r,Ji wd h.1) (hnd:((h0 :: x :: r).map (·.1)).Nodup):∃b,b<8 * (wd+1)/\Xr (h0 :: x :: r) b=false/\∀i,i<b->Xr (h0 :: x :: r) i=true:=by
 obtain ⟨b,hb,hf⟩:=Jk9 h0 x r hok hnd
 generalize 8 * (wd+1)=M at *
 generalize h0 :: x :: r=l at *
 clear hok hnd
 induction b using Nat.strongRecOn with
 | _ b ih=>
  by_cases hall:∀i,i<b->Xr l i=true
  ·exact ⟨b,hb,hf,hall⟩
  ·obtain ⟨i,hi⟩:=Classical.not_forall.1 hall
   obtain ⟨hib,hia⟩:=Classical.not_imp.1 hi
   exact ih i hib (by omega) (by simpa using hia)
theorem JiL {d:List UInt8->BA} (h0:Held) (r:List Held) (b:Nat) (hno:Xr (h0 :: r) b=false) (hyes:∀i,i<b->Xr (h0 :: r) i=true) {s t:List UInt8} {p q:List (List UInt8)} (hs:Xx d (koL (JQ (h0 :: r) b 0)) s p) (ht:Xx d (koL (JQ (h0 :: r) b 1)) t q):
  Xx d (koL (h0 :: r)) (78 :: (beL b 2 2++((d s).data.toList++(d t).data.toList))) (p++q++[78 :: (beL b 2 2++((d s).data.toList++(d t).data.toList))]):=by
 rw [JcL] at hs ht
 exact .two _ b s t p q (Jla h0 r b hno hyes) hs ht
theorem Jbr {P:Held->Prop} (l:List Held) (b v:Nat) (h:∀x∈l,P x):∀x∈JQ l b v,P x:=λx hx=>h x (List.mem_filter.1 hx).1
theorem Jcd (l:List Held) (b v:Nat) (h:(l.map (·.1)).Nodup):((JQ l b v).map (·.1)).Nodup:=h.sublist (List.Sublist.map _ List.filter_sublist)
theorem Xx.tlen {wd:Nat} (hw:wd<=32) {l:List Held} (hok:∀h∈l,Ji wd h.1) {s:List UInt8} {a:List (List UInt8)} (h:Xx (dgW wd) (koL l) s a):s.length<=1000:=by
 have hd:∀y,(dgW wd y).data.toList.length=wd:=λy=>by rw [Xo,Js wd hw]
 generalize hk:koL l=kl at h
 cases h with
 | none=>simp
 | one k o=>
  have hm:(k,o)∈koL l:=by rw [hk];simp
  obtain ⟨x,hx,e⟩:=List.mem_map.1 hm
  have hl:=Xt (hok x hx)
  have e1:Jd x.1=k:=congrArg Prod.fst e
  rw [e1] at hl
  simp only [Qp,Qe,hl,Jav]
  omega
 | two _ b x y p q hf _ _=>
  simp only [Qp,Qe,Je,hd]
  omega

def strB (l:List (List UInt8)):List BA:=l.map λx=>⟨x.toArray⟩
def SRow (base:Nat) (w:World) (j:Nat):Prop:=base<=j/\∃cs m,w.heap[j]? =some (.cells cs 9 m)
theorem SRow.not {base j:Nat} {w:World} {cs:Array Value} {T:TypeId} {m:Nat×Nat} (h:w.heap[j]? =some (.cells cs T m)) (hT:¬T=9):¬SRow base w j:=λe=>by
 obtain ⟨_,cs',m',h'⟩:=e
 rw [h] at h'
 simp only [Qh,Obj.cells.injEq] at h'
 exact hT h'.2.1
theorem SRow.back {base j:Nat} {w w':World} (k:Tch (SRow base w) w w') (h:SRow base w' j):SRow base w j\/w.heap.size<=j:=by
 by_cases hj:w.heap.size<=j
 ·exact .inr hj
 ·refine .inl ?_
  apply Classical.byContradiction
  intro hn
  obtain ⟨h1,cs,m,h2⟩:=h
  exact hn ⟨h1,cs,m,(k.block j (by omega) hn).symm.trans h2⟩
def ZR (wd base:Nat) (l:List Held) (w:World) (al:List BA) (e:Ending) (w':World):Prop:=
 ∃s a va',e=.returned (.tuple #[.string ⟨s.toArray⟩,va'])/\Xx (dgW wd) (koL l) s a/\NOwn base w' va' (al++strB a)/\Tch (SRow base w) w w'
theorem Jlh (wd base xb:Nat) (w:World) (v va:Value) (al:List BA) (hv:JP w v []) (ha:NOwn base w va al) (hb:base<=w.heap.size) (hl:al.length<=1000000000):
  Calls prog 30 #[.pointer (some ⟨xb,0,none⟩),v,va] w λe w'=>ZR wd base [] w al e w':=by
 obtain ⟨p,q,hvs⟩:∃p q,v=.slice p 0 q:=by
  rcases hv with ⟨rfl,_⟩ | ⟨g,o,c,rfl,_⟩
  ·exact ⟨_,_,rfl⟩
  ·exact ⟨_,_,rfl⟩
 subst hvs
 have tA:=Tch.alloc NoB w (.cells #[.string ⟨#[69]⟩] 9)
 have hrA:=Qf w (.cells #[.string ⟨#[69]⟩] 9)
 obtain ⟨v',w3,hrun,hown,hg⟩:=Yv (ha.tch tA (λ_ _ h=>h)) w.heap.size ⟨#[69]⟩ (Ja hrA) 58 (by omega) (Qm hb tA.size)
 obtain ⟨a1,c1,hva⟩:=ha.shape
 subst hva
 obtain ⟨a2,c2,hv2⟩:=hown.shape
 generalize (al++[(⟨#[69]⟩:BA)]).length=n2 at hv2
 subst hv2
 have HEND:Hid (ZR wd base [] w al (.returned (.tuple #[.string ⟨#[69]⟩,.slice a2 n2 c2])) w3):=⟨[69],[[69]],_,rfl,.none,hown,(tA.mono noE).trans (Tch.grown hg) (λj hj=>.inl (ha.own j hj.symm))⟩
 clear hv ha tA hrA hown hg hb hl
 go_enter func30,ntmps30
 go_wp2_with (at_builtin;refine XQ rfl _ _ 58 rfl rfl rfl hrun ?_)
 go_ret2
 exact HEND.o
theorem Jli (wd base xb:Nat) (hw:wd<=32) (w:World) (v va:Value) (x:Held) (al:List BA) (hv:JP w v [x]) (hx:Ji wd x.1/\Jy x.2) (ha:NOwn base w va al) (hb:base<=w.heap.size) (hl:al.length<=1000000000):
  Calls prog 30 #[.pointer (some ⟨xb,0,none⟩),v,va] w λe w'=>ZR wd base [x] w al e w':=by
 rcases hv with ⟨_,e⟩ | ⟨g,o,c,hvs,hg,hcell⟩
 ·cases e
 have hvs:v=.slice (some ⟨g,o,none⟩) 1 c:=hvs
 subst hvs
 obtain ⟨f0,f1,f2,f3⟩:=hcell 0 (by simp)
 simp only [Nat.zero_mul,Nat.add_zero,List.getElem_cons_zero] at f0 f1 f2 f3
 obtain ⟨⟨cs,cN⟩,oa,oo⟩:=x
 simp only at f0 f1 f2 f3
 obtain ⟨T,hT⟩:∃T:List UInt8,T=76 :: (Jd (cs,cN)++outB (oa,oo)):=⟨_,rfl⟩
 have HEND:Hid (∀V,Tch NoB w V->∃v' w3,(Builtin.append_ #[58,58] 58 #[va,.slice (some ⟨V.heap.size,0,none⟩) 1 1]).run prog (V.alloc (.cells #[.string ⟨T.toArray⟩] 9))=.ok v' w3/\ZR wd base [((cs,cN),(oa,oo))] w al (.returned (.tuple #[.string ⟨T.toArray⟩,v'])) w3):=λV hV=>by
  have tA:=Tch.alloc NoB V (.cells #[.string ⟨T.toArray⟩] 9)
  obtain ⟨v',w3,hrun,hown,hg⟩:=Yv (ha.tch (hV.go tA) (λ_ _ h=>h)) V.heap.size ⟨T.toArray⟩ (Ja (Qf V _)) 58 (by omega) (Qm hb (hV.go tA).size)
  exact ⟨v',w3,hrun,T,[T],v',rfl,by rw [hT];exact .one _ _,hown,((hV.go tA).mono noE).trans (Tch.grown hg) (λj hj=>.inl (ha.own j hj.symm))⟩
 have hcl:(Jd (cs,cN)).length=wd+1:=Xt hx.1
 have hT2:T=[76]++Jd (cs,cN)++outB (oa,oo):=by rw [hT];simp
 obtain ⟨kB,hkB⟩:∃kB:BA,kB=⟨(Jd (cs,cN)).toArray⟩:=⟨_,rfl⟩
 obtain ⟨oB,hoB⟩:∃oB:BA,oB=⟨(outB (oa,oo)).toArray⟩:=⟨_,rfl⟩
 obtain ⟨mB,hmB⟩:∃mB:BA,mB=⟨([76]++Jd (cs,cN)).toArray⟩:=⟨_,rfl⟩
 obtain ⟨tB,htB⟩:∃tB:BA,tB=⟨T.toArray⟩:=⟨_,rfl⟩
 have hadd1:∀W,(Op.stringOp .add (⟨#[76]⟩:BA) kB).run prog W=.ok (.string mB) W:=λW=>by rw [hkB,hmB];exact YN [76] (Jd (cs,cN)) (by rw [hcl];simp;omega) W
 have hadd2:∀W,(Op.stringOp .add mB oB).run prog W=.ok (.string tB) W:=λW=>by rw [hmB,hoB,htB,hT2];exact YN ([76]++Jd (cs,cN)) (outB (oa,oo)) (by rw [Qe,hcl,Jav];simp;omega) W
 have HKT:Hid (∀V,Calls prog 54 #[.agg #[.string cs,.int .i64 cN]] V λe w'=>e=.returned (.string kB)/\Tch NoB V w'):=λV=>by rw [hkB];exact JaE (cs,cN) V hx.1.2.1 (by have:=hx.1.2.2;dsimp only at this;show cN<256;omega) (by have:=hx.1.1;dsimp only at this;show cs.size<=_;omega)
 have HOT:Hid (∀V,Calls prog 38 #[.agg #[.int .u64 (oa:Int),.int .u8 (oo:Int)]] V λe w'=>e=.returned (.string oB)/\Tch NoB V w'):=λV=>by rw [hoB];exact JbG oa oo V hx.2.2
 have HCC:Hid (∀V,Tch NoB w V->V.cell? ⟨g,o,none⟩=some (.string cs)/\V.cell? ⟨g,o+1,none⟩=some (.int .i64 cN)/\V.cell? ⟨g,o+2,none⟩=some (.int .u64 (oa:Int))/\V.cell? ⟨g,o+3,none⟩=some (.int .u8 (oo:Int))):=λV hV=>⟨(hV.cell (p:=⟨g,o,none⟩) hg (λe=>e)).trans f0,(hV.cell (p:=⟨g,o+1,none⟩) hg (λe=>e)).trans f1,(hV.cell (p:=⟨g,o+2,none⟩) hg (λe=>e)).trans f2,(hV.cell (p:=⟨g,o+3,none⟩) hg (λe=>e)).trans f3⟩
 rw [<-htB] at HEND
 obtain ⟨a1,c1,hva⟩:=ha.shape
 subst hva
 clear hcell ha hb hl hT hT2 hkB hoB hmB htB hcl hx
 go_enter func30,ntmps30
 go_upto_region 3 with fail
 have HTd:Hid (Tch NoB w w.drew):=Tch.drewN _ w 1
 go_region_held3 (λV=>V.cell? ⟨g,o,none⟩=some (.string cs)/\V.cell? ⟨g,o+1,none⟩=some (.int .i64 cN)/\V.cell? ⟨g,o+2,none⟩=some (.int .u64 (oa:Int))/\V.cell? ⟨g,o+3,none⟩=some (.int .u8 (oo:Int))) (go_keep) ((first | (go_at_call 54;refine (HKT.o _).mono ?_;rintro _ w5 ⟨rfl,ht5⟩;have HT5:Hid (Tch NoB w w5):=HTd.o.go ht5;obtain ⟨y0,y1,yk,yl⟩:=HCC.o w5 HT5.o;clear ht5) | (go_at_call 38;refine (HOT.o _).mono ?_;rintro _ w6 ⟨rfl,ht6⟩;have HT6:Hid (Tch NoB w w6):=HT5.o.go ht6;obtain ⟨z0,z1,zk,zl⟩:=HCC.o w6 HT6.o;clear ht6)))
 all_goals
  clear HCC f0 f1 f2 f3
  obtain ⟨v',w3,hrun,hE⟩:=HEND.o _ HT6.o
  have HE:Hid _:=hE
  clear hE HEND
  go_wp2_with (at_builtin;refine XQ rfl _ _ 58 rfl rfl rfl hrun ?_)
  go_ret2
  exact HE.o

def XAt (wd xb:Nat) (V:World):Prop:=∃a b c,V.heap[xb]? =some (.cells #[a,.int .i64 (wd:Int),b,c] 35)
theorem XAt.cell {wd xb:Nat} {V:World} (h:XAt wd xb V):V.cell? ⟨xb,1,none⟩=some (.int .i64 (wd:Int)):=by
 obtain ⟨a,b,c,h⟩:=h
 exact Ja h
theorem XAt.tch {wd xb:Nat} {V V':World} {S:Nat->Prop} (h:XAt wd xb V) (k:Tch S V V') (hs:¬S xb):XAt wd xb V':=by
 obtain ⟨a,b,c,h⟩:=h
 exact ⟨a,b,c,(k.block xb (Jb h) hs).trans h⟩
structure Ja8 (n₀ sb:Nat) (W:World) (v0 v1:Value) (l0 l1:List Held):Prop where
 row:W.heap[sb]? =some (.cells #[v0,v1] 124)
 own0:HOwn n₀ W v0 l0
 own1:HOwn n₀ W v1 l1
 nil0:l0=[]->v0=.slice none 0 0
 nil1:l1=[]->v1=.slice none 0 0
theorem HOwn.first {n₀:Nat} {W:World} {v:Value} {l:List Held} (h:HOwn n₀ W v l) (hn:l=[]->v=.slice none 0 0) {j:Nat} (e:v.ownBlock=some j):∃x∈l,W.cell? ⟨j,0,none⟩=some (.string x.1.1)/\W.cell? ⟨j,1,none⟩=some (.int .i64 x.1.2):=by
 have hl:l ≠ []:=λh0=>by rw [hn h0] at e;cases e
 have hat:=h.at
 obtain ⟨_,⟨rfl,h0⟩ | ⟨g,cap,cur,rfl,hb,hrow,_⟩⟩:=h
 ·cases e
 ·have hg:g=j:=by cases e;rfl
  subst hg
  rcases hat with ⟨h1,_⟩ | ⟨g',o',c',h1,_,hc⟩
  ·cases h1
  ·simp only [Qy,Qh,Addr.mk.injEq] at h1
   obtain ⟨⟨rfl,rfl,_⟩,_⟩:=h1
   have hp:=List.length_pos_iff.2 hl
   have:=hc 0 hp
   simp only [Nat.zero_mul,Nat.zero_add,Nat.add_zero] at this
   exact ⟨l[0],Qx hp,this.1,this.2.1⟩
theorem Jc4 {n₀:Nat} {W:World} {v0 v1:Value} {l0 l1:List Held} (h0:HOwn n₀ W v0 l0) (h1:HOwn n₀ W v1 l1) (n0:l0=[]->v0=.slice none 0 0) (n1:l1=[]->v1=.slice none 0 0) (b:Nat) (b0:∀x∈l0,bt (Jd x.1) b=0) (b1:∀x∈l1,bt (Jd x.1) b=1) (j:Nat) (e0:v0.ownBlock=some j):¬v1.ownBlock=some j:=λe1=>by
 obtain ⟨x,hx,x1,x2⟩:=h0.first n0 e0
 obtain ⟨y,hy,y1,y2⟩:=h1.first n1 e1
 rw [x1] at y1
 rw [x2] at y2
 simp only [Qh,Value.string.injEq,Value.int.injEq,true_and] at y1 y2
 have e:x.1=y.1:=Prod.ext y1 y2
 have a:=b0 x hx
 have c:=b1 y hy
 rw [e] at a
 omega
theorem Jlj {E : Nat -> Addr} (wd base xb : Nat) (hw1 : 1 <= wd) (hw : wd <= 32) (w : World) (hE : Env E w) (hK : 18 <= base) (v va : Value) (h0 x : Held) (r : List Held) (al : List BA) (hv : JP w v (h0 :: x :: r)) (hok : ∀ h ∈ h0 :: x :: r, Ji wd h.1 /\ Jy h.2) (hnd : ((h0 :: x :: r).map (·.1)).Nodup) (ha : NOwn base w va al) (hb : base <= w.heap.size) (hl : al.length + 2 * (h0 :: x :: r).length <= 1000000000) (hxw : XAt wd xb w)
    (IH : ∀ (l' : List Held) (V : World) (v' va' : Value) (al' : List BA), l'.length < (h0 :: x :: r).length -> (∀ h ∈ l', Ji wd h.1 /\ Jy h.2) -> (l'.map (·.1)).Nodup -> Env E V -> JP V v' l' -> NOwn base V va' al' -> base <= V.heap.size -> al'.length + 2 * l'.length <= 1000000000 -> XAt wd xb V ->
      Calls prog 30 #[.pointer (some ⟨xb, 0, none⟩), v', va'] V λe w' => ZR wd base l' V al' e w') :
    Calls prog 30 #[.pointer (some ⟨xb, 0, none⟩), v, va] w λe w' => ZR wd base (h0 :: x :: r) w al e w' := by
  obtain ⟨B, hB, hBno, hByes⟩ := Jgi h0 x r (λh hh => (hok h hh).1) hnd
  obtain ⟨vp, vq, hvs⟩ := hv.shape
  subst hvs
  obtain ⟨a1, c1, hva⟩ := ha.shape
  subst hva
  obtain ⟨L, hL⟩ : ∃ L, L = h0 :: x :: r := ⟨_, rfl⟩
  have HAL : Hid (∀ V k, Tch (λ_ => False) w V -> k <= B -> Calls prog 58 #[.pointer (some ⟨xb, 0, none⟩), .slice vp L.length vq, .int .i64 (k : Int)] V λe w' => e = .returned (.bool (Xr L k)) /\ Tch (λ_ => False) V w') := λV k hV hk => by
    rw [hL]; exact Jld xb wd k (by omega) hw _ h0 (x :: r) V (hv.tch hV) (λh hh => (hok h hh).1) (by omega)
  rw [<- hL] at hBno hByes hl hok hnd hv IH ⊢
  have hn2 : 2 <= L.length := by rw [hL]; simp
  have HB : Hid (B < 8 * (wd + 1) /\ Xr L B = false /\ ∀ i, i < B -> Xr L i = true) := ⟨hB, hBno, hByes⟩
  have HL : Hid (L = h0 :: x :: r /\ 2 <= L.length) := ⟨hL, hn2⟩
  have hne1 : ¬ ((L.length : Int) = 1) := by omega
  have hgt1 : (1 : Int) < (L.length : Int) := by omega
  clear hL hB hBno hByes hn2
  go_enter func30, ntmps30
  go_upto_region 6 with fail
  go_loopw [9] (λb wr => ∃ k : Nat, k <= B /\ b = .int .i64 (k : Int) /\ Hid (Tch (λ_ => False) w wr)) (λb _ => B - (intOf b).toNat)
  case atStart => exact ⟨0, Nat.zero_le _, rfl, Tch.refl _ _⟩
  case round =>
    obtain ⟨k, hk, rfl, HT⟩ := hrel
    by_cases hkB : k < B
    · have e : Xr L k = true := HB.o.2.2 k hkB
      go_wp2_with fail
      refine (HAL.o wr k HT.o hk).mono ?_
      rintro _ w1 ⟨rfl, ht1⟩
      rw [e]
      have HT1 : Hid (Tch (λ_ => False) w w1) := HT.o.go ht1
      have HK : Hid (k < B /\ B < 8 * (wd + 1)) := ⟨hkB, HB.o.1⟩
      have HWR : Hid (wrap64 ((k : Int) + 1) = ((k + 1 : Nat) : Int)) := (by have := HB.o.1; unfold wrap64; omega : wrap64 ((k : Int) + 1) = ((k + 1 : Nat) : Int))
      clear ht1 hkB
      go_wp2
      go_roundw
      case rel => exact ⟨k + 1, by have := HK.o; omega, by rw [HWR.o], HT1⟩
      case measure => have := HK.o; rw [HWR.o]; simp [intOf]; omega
    · have hkB' : k = B := by omega
      subst hkB'
      have e : Xr L k = false := HB.o.2.1
      go_wp2_with fail
      refine (HAL.o wr k HT.o hk).mono ?_
      rintro _ w1 ⟨rfl, ht1⟩
      rw [e]
      have HT1 : Hid (Tch (λ_ => False) w w1) := HT.o.go ht1
      clear ht1
      go_upto_region 10 with fail
      obtain ⟨w2, hw2⟩ : ∃ (w2 : World), w2 = w1.alloc (.cells #[.slice none 0 0, .slice none 0 0] 124) := ⟨_, rfl⟩
      rw [<- hw2]
      have hr2 : w2.heap[w1.heap.size]? = some (.cells #[.slice none 0 0, .slice none 0 0] 124) := by rw [hw2]; exact Qf _ _
      have HT2 : Hid (Tch (λ_ => False) w w2) := HT1.o.go (by rw [hw2]; exact Tch.alloc _ _ _)
      have HS2 : Hid (Ja8 w.heap.size w1.heap.size w2 (.slice none 0 0) (.slice none 0 0) [] []) := ⟨hr2, HOwn.nil _ _, HOwn.nil _ _, λ_ => rfl, λ_ => rfl⟩
      have HSB : Hid (w.heap.size <= w1.heap.size) := HT1.o.size
      have HLT : Hid (((JQ L k 0).length < L.length /\ (JQ L k 1).length < L.length) /\ (JQ L k 0).length + (JQ L k 1).length = L.length) := ⟨by rw [HL.o.1] at e ⊢; exact Jkx h0 (x :: r) k e, Jd0 L k⟩
      clear hw2 hr2
      generalize w1.heap.size = sb at *
      go_loopw [11] (λi wr => ∃ (k2 : Nat) (v0 v1 : Value), k2 <= L.length /\ i = .int .i64 (k2 : Int) /\ Hid (Ja8 w.heap.size sb wr v0 v1 (JQ (L.take k2) k 0) (JQ (L.take k2) k 1)) /\ Hid (Tch (λ_ => False) w wr)) (λi _ => L.length - (intOf i).toNat)
      case atStart => exact ⟨0, _, _, Nat.zero_le _, rfl, HS2, HT2⟩
      case round =>
        obtain ⟨k2, v0, v1, hk2, rfl, HS, HT3⟩ := hrel
        by_cases hgo : k2 < L.length
        · have hki : (k2 : Int) < (L.length : Int) := by omega
          rcases hv with ⟨_, e0⟩ | ⟨g, o, c, hvp, hg, hcell⟩
          · have := HL.o.2; rw [e0] at this; simp at this
          simp only [Qy, true_and] at hvp
          obtain ⟨rfl, rfl⟩ := hvp
          obtain ⟨f0, f1, f2, f3⟩ := hcell k2 hgo
          obtain ⟨oky, _⟩ := hok _ (Qx hgo)
          have HTK : Hid (L.take (k2 + 1) = L.take k2 ++ [L[k2]]) := (List.take_succ_eq_append_getElem hgo : L.take (k2 + 1) = L.take k2 ++ [L[k2]])
          generalize L[k2] = y at *
          obtain ⟨⟨cs, cN⟩, oa, oo⟩ := y
          simp only at f0 f1 f2 f3 oky
          have HCC : Hid (∀ V, Tch (λ_ => False) w V -> V.cell? ⟨g, o + k2 * 4, none⟩ = some (.string cs) /\ V.cell? ⟨g, o + k2 * 4 + 1, none⟩ = some (.int .i64 cN) /\ V.cell? ⟨g, o + k2 * 4 + 2, none⟩ = some (.int .u64 (oa : Int)) /\ V.cell? ⟨g, o + k2 * 4 + 3, none⟩ = some (.int .u8 (oo : Int))) := λV hV => ⟨(hV.cell (p := ⟨g, o + k2 * 4, none⟩) hg (λe => e)).trans f0, (hV.cell (p := ⟨g, o + k2 * 4 + 1, none⟩) hg (λe => e)).trans f1, (hV.cell (p := ⟨g, o + k2 * 4 + 2, none⟩) hg (λe => e)).trans f2, (hV.cell (p := ⟨g, o + k2 * 4 + 3, none⟩) hg (λe => e)).trans f3⟩
          obtain ⟨x0, x1, x2, x3⟩ := HCC.o wr HT3.o
          have HKT : Hid (∀ V, Calls prog 54 #[.agg #[.string cs, .int .i64 cN]] V λe w' => e = .returned (.string ⟨(Jd (cs, cN)).toArray⟩) /\ Tch (λ_ => False) V w') := λV => JaE (cs, cN) V oky.2.1 (by have := oky.2.2; dsimp only at this; show cN < 256; omega) (by have := oky.1; dsimp only at this; show cs.size <= _; omega)
          have HBT : Hid (∀ V, Calls prog 59 #[.string ⟨(Jd (cs, cN)).toArray⟩, .int .i64 (k : Int)] V λe w' => e = .returned (.int .i64 (bt (Jd (cs, cN)) k : Int)) /\ w' = V) := λV => by
            have hcl := Xt oky
            exact Jmb (Jd (cs, cN)) k (by rw [hcl]; exact HB.o.1) (by rw [hcl]; omega) V
          have hb2 := XA (Jd (cs, cN)) k
          have hk0 : (0 : Int) <= (k2 : Int) := by omega
          have HGO : Hid (k2 < L.length /\ L.length <= 1000000000) := ⟨hgo, by omega⟩
          clear IH hcell f0 f1 f2 f3 oky hgo
          go_wp2_with fail
          refine (HKT.o _).mono ?_
          rintro _ w3 ⟨rfl, ht3⟩
          have HT4 : Hid (Tch (λ_ => False) w w3) := HT3.o.go ht3
          have HS3 : Hid (Ja8 w.heap.size sb w3 v0 v1 (JQ (L.take k2) k 0) (JQ (L.take k2) k 1)) := ⟨(ht3.block _ (Jb HS.o.row) (λe => e)).trans HS.o.row, HS.o.own0.tch ht3 (λ_ _ e => e), HS.o.own1.tch ht3 (λ_ _ e => e), HS.o.nil0, HS.o.nil1⟩
          clear ht3 x0 x1 x2 x3
          go_wp2_with fail
          refine (HBT.o _).mono ?_
          rintro _ w4 ⟨rfl, hw4⟩
          have hw5 := hw4.symm
          subst hw5
          obtain ⟨x0, x1, x2, x3⟩ := HCC.o w3 HT4.o
          have hb3 : (bt (Jd (cs, cN)) k : Int) = 0 \/ (bt (Jd (cs, cN)) k : Int) = 1 := by omega
          rcases hb3 with hbv | hbv
          · rw [hbv]
            obtain ⟨p0, q0, hv0⟩ := HS3.o.own0.shape
            generalize hn0 : (JQ (L.take k2) k 0).length = n0 at hv0
            subst hv0
            have s0 : w3.cell? ⟨sb, 0, none⟩ = some (.slice p0 n0 q0) := Ja HS3.o.row
            have hkt : ((k2 : Int)).toNat = k2 := by omega
            obtain ⟨WA, hWA⟩ : ∃ (WA : World), WA = w3.drew.alloc (.cells #[.string cs, .int .i64 cN, .int .u64 (oa : Int), .int .u8 (oo : Int)] 87) := ⟨_, rfl⟩
            have HWA2 : Hid ((w3.alloc (.cells #[.string cs, .int .i64 cN, .int .u64 (oa : Int), .int .u8 (oo : Int)] 87)).drew = WA) := (by rw [hWA]; rfl : (w3.alloc (.cells #[.string cs, .int .i64 cN, .int .u64 (oa : Int), .int .u8 (oo : Int)] 87)).drew = WA)
            have tWA : Tch (λ_ => False) w3 WA := by rw [hWA]; exact (Tch.drewN (λ_ => False) w3 1).go (Tch.alloc _ _ _)
            have hnA : WA.heap[w3.heap.size]? = some (.cells #[.string cs, .int .i64 cN, .int .u64 (oa : Int), .int .u8 (oo : Int)] 87) := by rw [hWA]; exact Qf w3.drew _
            have hhA : JP WA (.slice (some ⟨w3.heap.size, 0, none⟩) 1 1) [((cs, cN), (oa, oo))] := .inr ⟨_, 0, 1, rfl, (Jb hnA), λi hi => by
              obtain rfl : i = 0 := by simpa using hi
              exact ⟨Ja hnA, Ja hnA, Ja hnA, Ja hnA⟩⟩
            obtain ⟨v', w6, hrun, hown6, hg6⟩ := Yf (HS3.o.own0.tch tWA (λ_ _ e => e)) _ _ hhA 43 (by have := HGO.o; have hle : (JQ (L.take k2) k 0).length <= k2 := Qm (List.length_filter_le _ _) (by rw [QB]; omega); simp only [Qp, Qv]; omega) (Qm HT4.o.size tWA.size)
            have t6 := Tch.grown hg6
            have hlow : ∀ j, some j = (Value.slice p0 n0 q0).ownBlock -> w.heap.size <= j := λj hj => (HS3.o.own0.own j hj.symm).1
            have hrA := (tWA.block sb (Jb HS3.o.row) (λe => e)).trans HS3.o.row
            have hkA : ∀ j, some j = (Value.slice p0 n0 q0).ownBlock -> j ≠ sb := λj hj e => by
              obtain ⟨cu, m, hr⟩ := (HS3.o.own0.tch tWA (λ_ _ e => e)).t.2 j hj.symm
              rw [e, hrA] at hr
              simp only [Qh, Obj.cells.injEq] at hr
              exact absurd hr.2.1 (by decide)
            have hr6 := (t6.block sb (Jb hrA) (λe => hkA sb e rfl)).trans hrA
            obtain ⟨y0, y1, y2, y3⟩ := HCC.o WA (HT4.o.go tWA)
            have hgA : g < WA.heap.size := Qk hg (Qm HT4.o.size tWA.size)
            have hgn : ¬ some g = (Value.slice p0 n0 q0).ownBlock := λe => by have := hlow g e; omega
            have z0 := (t6.cell (p := ⟨g, o + k2 * 4, none⟩) hgA hgn).trans y0
            have z1 := (t6.cell (p := ⟨g, o + k2 * 4 + 1, none⟩) hgA hgn).trans y1
            have z2 := (t6.cell (p := ⟨g, o + k2 * 4 + 2, none⟩) hgA hgn).trans y2
            have z3 := (t6.cell (p := ⟨g, o + k2 * 4 + 3, none⟩) hgA hgn).trans y3
            have sA : WA.cell? ⟨sb, 0, none⟩ = some (.slice p0 n0 q0) := Ja hrA
            have s6 : w6.cell? ⟨sb, 0, none⟩ = some (.slice p0 n0 q0) := Ja hr6
            have f6 : w6.frozen? ⟨sb, 0, none⟩ = false := Qg _ _ _ _ _ hr6
            obtain ⟨p6, q6, hv6⟩ := hown6.shape
            generalize (JQ (L.take k2) k 0 ++ [((cs, cN), (oa, oo))]).length = n6 at hv6
            subst hv6
            have HEND : Hid (Ja8 w.heap.size sb (w6.setCell ⟨sb, 0, none⟩ (.slice p6 n6 q6)) (.slice p6 n6 q6) v1 (JQ (L.take (k2 + 1)) k 0) (JQ (L.take (k2 + 1)) k 1) /\ Tch (λ_ => False) w (w6.setCell ⟨sb, 0, none⟩ (.slice p6 n6 q6))) := by
              have e7 := Qj w6 sb 0 _ _ _ (.slice p6 n6 q6) hr6
              rw [e7, HTK.o, Jac, Jac, if_pos (by show bt (Jd (cs, cN)) k = 0; omega), if_neg (by show ¬ bt (Jd (cs, cN)) k = 1; omega)]
              have t7 := Tch.setRow w6 sb (#[.slice p0 n0 q0, v1].setIfInBounds 0 (.slice p6 n6 q6))
              have hns : ∀ (vv : Value) (ll : List Held), HOwn w.heap.size w6 vv ll -> ∀ j, vv.ownBlock = some j -> ¬ j = sb := λvv ll hh j hj e => by
                obtain ⟨cu, m, hr⟩ := hh.t.2 j hj
                rw [e, hr6] at hr
                simp only [Qh, Obj.cells.injEq] at hr
                exact absurd hr.2.1 (by decide)
              have hb0 : ∀ x ∈ JQ (L.take k2) k 0, bt (Jd x.1) k = 0 := λx hx => by simpa using (List.mem_filter.1 hx).2
              have hb1 : ∀ x ∈ JQ (L.take k2) k 1, bt (Jd x.1) k = 1 := λx hx => by simpa using (List.mem_filter.1 hx).2
              have ho1 := (HS3.o.own1.tch tWA (λ_ _ e => e)).tch t6 (λj hj e => Jc4 HS3.o.own0 HS3.o.own1 HS3.o.nil0 HS3.o.nil1 k hb0 hb1 j e.symm hj)
              refine ⟨⟨Qi _ _ _ _ _ _ hr6, hown6.tch t7 (λj hj => hns _ _ hown6 j hj), ho1.tch t7 (λj hj => hns _ _ ho1 j hj), λe => by simp at e, HS3.o.nil1⟩, ?_⟩
              exact (((HT4.o.go tWA).trans t6 (λj hj => .inr (hlow j hj))).trans t7 (λj hj => .inr (by rw [hj]; exact HSB.o)))
            clear hown6 hg6 t6 hr6 hrA hnA hhA hkA hlow hgn hgA hWA tWA
            go_upto_region 13 with fail
            go_wp2_with fail
            as_aux_lemma =>
              have d0 : w3.drew.cell? ⟨sb, 0, none⟩ = some (.slice p0 n0 q0) /\ w3.drew.cell? ⟨g, o + k2 * 4, none⟩ = some (.string cs) /\ w3.drew.cell? ⟨g, o + k2 * 4 + 1, none⟩ = some (.int .i64 cN) /\ w3.drew.cell? ⟨g, o + k2 * 4 + 2, none⟩ = some (.int .u64 (oa : Int)) /\ w3.drew.cell? ⟨g, o + k2 * 4 + 3, none⟩ = some (.int .u8 (oo : Int)) := ⟨s0, x0, x1, x2, x3⟩
              refine Xm (S := λW => W.cell? ⟨sb, 0, none⟩ = some (.slice p0 n0 q0) /\ W.cell? ⟨g, o + k2 * 4, none⟩ = some (.string cs) /\ W.cell? ⟨g, o + k2 * 4 + 1, none⟩ = some (.int .i64 cN) /\ W.cell? ⟨g, o + k2 * 4 + 2, none⟩ = some (.int .u64 (oa : Int)) /\ W.cell? ⟨g, o + k2 * 4 + 3, none⟩ = some (.int .u8 (oo : Int))) 12 (by simp) (by kernel_rfl) (by kernel_rfl) d0 ?_
              intro hHeld l o hl ho
              simp only [List.dropLast_cons_cons, List.dropLast_singleton] at hl
              simp only [List.getLast_cons_cons, List.getLast_singleton] at ho
              subst hl
              subst ho
              simp only [Qp, Qv, Nat.reduceAdd]
              refine Jk (i := 0) (v := ?v0) rfl (by kernel_rfl) (by kernel_rfl) (by kernel_rfl) (λ_ _ _ h => h) rfl ?h0 (by assumption) ?r0
              case h0 => (intro W hSW; (try dsimp only at hSW); go_simp; (try with_reducible rfl))
              simp only [Act.put, Qa, Qb, Qc]
              refine Jk (i := 1) (v := ?v1) rfl (by kernel_rfl) (by kernel_rfl) (by kernel_rfl) (λ_ _ _ h => h) rfl ?h1 (by assumption) ?r1
              case h1 => (intro W hSW; (try dsimp only at hSW); go_simp; (try with_reducible rfl))
              simp only [Act.put, Qa, Qb, Qc]
              refine Jk (i := 2) (v := ?v2) rfl (by kernel_rfl) (by kernel_rfl) (by kernel_rfl) (λ_ _ _ h => h) rfl ?h2 (by assumption) ?r2
              case h2 => (intro W hSW; (try dsimp only at hSW); go_simp; (try with_reducible rfl))
              simp only [Act.put, Qa, Qb, Qc]
              refine Jk (i := 3) (v := ?v3) rfl (by kernel_rfl) (by kernel_rfl) (by kernel_rfl) (λ_ _ _ h => h) rfl ?h3 (by assumption) ?r3
              case h3 => (intro W hSW; (try dsimp only at hSW); go_simp; (try with_reducible rfl))
              simp only [Act.put, Qa, Qb, Qc]
              refine Jk (i := 4) (v := ?v4) rfl (by kernel_rfl) (by kernel_rfl) (by kernel_rfl) (λ_ _ _ h => h) rfl ?h4 (by assumption) ?r4
              case h4 => (intro W hSW; (try dsimp only at hSW); go_simp; (try with_reducible rfl))
              simp only [Act.put, Qa, Qb, Qc]
              refine Jk (i := 5) (v := ?v5) rfl (by kernel_rfl) (by kernel_rfl) (by kernel_rfl) (λ_ _ _ h => h) rfl ?h5 (by assumption) ?r5
              case h5 => (intro W hSW; (try dsimp only at hSW); go_simp; (try with_reducible rfl))
              simp only [Act.put, Qa, Qb, Qc]
              refine Jk (i := 6) (v := ?v6) rfl (by kernel_rfl) (by kernel_rfl) (by kernel_rfl) (λ_ _ _ h => h) rfl ?h6 (by assumption) ?r6
              case h6 => (intro W hSW; (try dsimp only at hSW); go_simp; (try with_reducible rfl))
              simp only [Act.put, Qa, Qb, Qc]
              refine Jk (i := 7) (v := ?v7) rfl (by kernel_rfl) (by kernel_rfl) (by kernel_rfl) (λ_ _ _ h => h) rfl ?h7 (by assumption) ?r7
              case h7 => (intro W hSW; (try dsimp only at hSW); go_simp; (try with_reducible rfl))
              simp only [Act.put, Qa, Qb, Qc]
              refine YA (i := 8) rfl (by kernel_rfl) (λK hK => ?_)
              go_simp
              rw [HWA2.o]
              refine hK.out _ _ ⟨sA, y0, y1, y2, y3⟩ (λhHeld8 => ?_)
              clear hK K hHeld
              try simp only [Act.put, Qa, Qb, Qc]
              refine YA (i := 9) rfl (by kernel_rfl) (λK hK => ?_)
              refine YW rfl _ _ 43 rfl rfl rfl hrun ?_
              refine hK.out _ _ ⟨s6, z0, z1, z2, z3⟩ (λhHeld9 => ?_)
              clear hK K hHeld8
              try simp only [Act.put, Qa, Qb, Qc]
              refine Jk (i := 10) (v := ?v10) rfl (by kernel_rfl) (by kernel_rfl) (by kernel_rfl) (λ_ _ _ h => h) rfl ?h10 (by assumption) ?r10
              case h10 => (intro W hSW; (try dsimp only at hSW); go_simp; (try with_reducible rfl))
              simp only [Act.put, Qa, Qb, Qc]
              refine wpAnyH_done (by kernel_rfl) ?_ _
              show wpList _ _ _ [_] _ _
              go_wp2
              go_roundw
              case rel => exact ⟨k2 + 1, _, _, HGO.o.1, by have := HGO.o; go_num, HEND.o.1, HEND.o.2⟩
              case measure => have := HGO.o; simp [intOf]; omega
          · rw [hbv]
            obtain ⟨p0, q0, hv0⟩ := HS3.o.own1.shape
            generalize hn0 : (JQ (L.take k2) k 1).length = n0 at hv0
            subst hv0
            have s0 : w3.cell? ⟨sb, 1, none⟩ = some (.slice p0 n0 q0) := Ja HS3.o.row
            have hkt : ((k2 : Int)).toNat = k2 := by omega
            obtain ⟨WA, hWA⟩ : ∃ (WA : World), WA = w3.drew.alloc (.cells #[.string cs, .int .i64 cN, .int .u64 (oa : Int), .int .u8 (oo : Int)] 87) := ⟨_, rfl⟩
            have HWA2 : Hid ((w3.alloc (.cells #[.string cs, .int .i64 cN, .int .u64 (oa : Int), .int .u8 (oo : Int)] 87)).drew = WA) := (by rw [hWA]; rfl : (w3.alloc (.cells #[.string cs, .int .i64 cN, .int .u64 (oa : Int), .int .u8 (oo : Int)] 87)).drew = WA)
            have tWA : Tch (λ_ => False) w3 WA := by rw [hWA]; exact (Tch.drewN (λ_ => False) w3 1).go (Tch.alloc _ _ _)
            have hnA : WA.heap[w3.heap.size]? = some (.cells #[.string cs, .int .i64 cN, .int .u64 (oa : Int), .int .u8 (oo : Int)] 87) := by rw [hWA]; exact Qf w3.drew _
            have hhA : JP WA (.slice (some ⟨w3.heap.size, 0, none⟩) 1 1) [((cs, cN), (oa, oo))] := .inr ⟨_, 0, 1, rfl, (Jb hnA), λi hi => by
              obtain rfl : i = 0 := by simpa using hi
              exact ⟨Ja hnA, Ja hnA, Ja hnA, Ja hnA⟩⟩
            obtain ⟨v', w6, hrun, hown6, hg6⟩ := Yf (HS3.o.own1.tch tWA (λ_ _ e => e)) _ _ hhA 43 (by have := HGO.o; have hle : (JQ (L.take k2) k 1).length <= k2 := Qm (List.length_filter_le _ _) (by rw [QB]; omega); simp only [Qp, Qv]; omega) (Qm HT4.o.size tWA.size)
            have t6 := Tch.grown hg6
            have hlow : ∀ j, some j = (Value.slice p0 n0 q0).ownBlock -> w.heap.size <= j := λj hj => (HS3.o.own1.own j hj.symm).1
            have hrA := (tWA.block sb (Jb HS3.o.row) (λe => e)).trans HS3.o.row
            have hkA : ∀ j, some j = (Value.slice p0 n0 q0).ownBlock -> j ≠ sb := λj hj e => by
              obtain ⟨cu, m, hr⟩ := (HS3.o.own1.tch tWA (λ_ _ e => e)).t.2 j hj.symm
              rw [e, hrA] at hr
              simp only [Qh, Obj.cells.injEq] at hr
              exact absurd hr.2.1 (by decide)
            have hr6 := (t6.block sb (Jb hrA) (λe => hkA sb e rfl)).trans hrA
            obtain ⟨y0, y1, y2, y3⟩ := HCC.o WA (HT4.o.go tWA)
            have hgA : g < WA.heap.size := Qk hg (Qm HT4.o.size tWA.size)
            have hgn : ¬ some g = (Value.slice p0 n0 q0).ownBlock := λe => by have := hlow g e; omega
            have z0 := (t6.cell (p := ⟨g, o + k2 * 4, none⟩) hgA hgn).trans y0
            have z1 := (t6.cell (p := ⟨g, o + k2 * 4 + 1, none⟩) hgA hgn).trans y1
            have z2 := (t6.cell (p := ⟨g, o + k2 * 4 + 2, none⟩) hgA hgn).trans y2
            have z3 := (t6.cell (p := ⟨g, o + k2 * 4 + 3, none⟩) hgA hgn).trans y3
            have sA : WA.cell? ⟨sb, 1, none⟩ = some (.slice p0 n0 q0) := Ja hrA
            have s6 : w6.cell? ⟨sb, 1, none⟩ = some (.slice p0 n0 q0) := Ja hr6
            have f6 : w6.frozen? ⟨sb, 1, none⟩ = false := Qg _ _ _ _ _ hr6
            obtain ⟨p6, q6, hv6⟩ := hown6.shape
            generalize (JQ (L.take k2) k 1 ++ [((cs, cN), (oa, oo))]).length = n6 at hv6
            subst hv6
            have HEND : Hid (Ja8 w.heap.size sb (w6.setCell ⟨sb, 1, none⟩ (.slice p6 n6 q6)) v0 (.slice p6 n6 q6) (JQ (L.take (k2 + 1)) k 0) (JQ (L.take (k2 + 1)) k 1) /\ Tch (λ_ => False) w (w6.setCell ⟨sb, 1, none⟩ (.slice p6 n6 q6))) := by
              have e7 := Qj w6 sb 1 _ _ _ (.slice p6 n6 q6) hr6
              rw [e7, HTK.o, Jac, Jac, if_neg (by show ¬ bt (Jd (cs, cN)) k = 0; omega), if_pos (by show bt (Jd (cs, cN)) k = 1; omega)]
              have t7 := Tch.setRow w6 sb (#[v0, .slice p0 n0 q0].setIfInBounds 1 (.slice p6 n6 q6))
              have hns : ∀ (vv : Value) (ll : List Held), HOwn w.heap.size w6 vv ll -> ∀ j, vv.ownBlock = some j -> ¬ j = sb := λvv ll hh j hj e => by
                obtain ⟨cu, m, hr⟩ := hh.t.2 j hj
                rw [e, hr6] at hr
                simp only [Qh, Obj.cells.injEq] at hr
                exact absurd hr.2.1 (by decide)
              have hb0 : ∀ x ∈ JQ (L.take k2) k 0, bt (Jd x.1) k = 0 := λx hx => by simpa using (List.mem_filter.1 hx).2
              have hb1 : ∀ x ∈ JQ (L.take k2) k 1, bt (Jd x.1) k = 1 := λx hx => by simpa using (List.mem_filter.1 hx).2
              have ho1 := (HS3.o.own0.tch tWA (λ_ _ e => e)).tch t6 (λj hj e => Jc4 HS3.o.own0 HS3.o.own1 HS3.o.nil0 HS3.o.nil1 k hb0 hb1 j hj e.symm)
              refine ⟨⟨Qi _ _ _ _ _ _ hr6, ho1.tch t7 (λj hj => hns _ _ ho1 j hj), hown6.tch t7 (λj hj => hns _ _ hown6 j hj), HS3.o.nil0, λe => by simp at e⟩, ?_⟩
              exact (((HT4.o.go tWA).trans t6 (λj hj => .inr (hlow j hj))).trans t7 (λj hj => .inr (by rw [hj]; exact HSB.o)))
            clear hown6 hg6 t6 hr6 hrA hnA hhA hkA hlow hgn hgA hWA tWA
            go_upto_region 13 with fail
            go_wp2_with fail
            as_aux_lemma =>
              have d0 : w3.drew.cell? ⟨sb, 1, none⟩ = some (.slice p0 n0 q0) /\ w3.drew.cell? ⟨g, o + k2 * 4, none⟩ = some (.string cs) /\ w3.drew.cell? ⟨g, o + k2 * 4 + 1, none⟩ = some (.int .i64 cN) /\ w3.drew.cell? ⟨g, o + k2 * 4 + 2, none⟩ = some (.int .u64 (oa : Int)) /\ w3.drew.cell? ⟨g, o + k2 * 4 + 3, none⟩ = some (.int .u8 (oo : Int)) := ⟨s0, x0, x1, x2, x3⟩
              refine Xm (S := λW => W.cell? ⟨sb, 1, none⟩ = some (.slice p0 n0 q0) /\ W.cell? ⟨g, o + k2 * 4, none⟩ = some (.string cs) /\ W.cell? ⟨g, o + k2 * 4 + 1, none⟩ = some (.int .i64 cN) /\ W.cell? ⟨g, o + k2 * 4 + 2, none⟩ = some (.int .u64 (oa : Int)) /\ W.cell? ⟨g, o + k2 * 4 + 3, none⟩ = some (.int .u8 (oo : Int))) 12 (by simp) (by kernel_rfl) (by kernel_rfl) d0 ?_
              intro hHeld l o hl ho
              simp only [List.dropLast_cons_cons, List.dropLast_singleton] at hl
              simp only [List.getLast_cons_cons, List.getLast_singleton] at ho
              subst hl
              subst ho
              simp only [Qp, Qv, Nat.reduceAdd]
              refine Jk (i := 0) (v := ?vb0) rfl (by kernel_rfl) (by kernel_rfl) (by kernel_rfl) (λ_ _ _ h => h) rfl ?hb0 (by assumption) ?rb0
              case hb0 => (intro W hSW; (try dsimp only at hSW); go_simp; (try with_reducible rfl))
              simp only [Act.put, Qa, Qb, Qc]
              refine Jk (i := 1) (v := ?vb1) rfl (by kernel_rfl) (by kernel_rfl) (by kernel_rfl) (λ_ _ _ h => h) rfl ?hb1 (by assumption) ?rb1
              case hb1 => (intro W hSW; (try dsimp only at hSW); go_simp; (try with_reducible rfl))
              simp only [Act.put, Qa, Qb, Qc]
              refine Jk (i := 2) (v := ?vb2) rfl (by kernel_rfl) (by kernel_rfl) (by kernel_rfl) (λ_ _ _ h => h) rfl ?hb2 (by assumption) ?rb2
              case hb2 => (intro W hSW; (try dsimp only at hSW); go_simp; (try with_reducible rfl))
              simp only [Act.put, Qa, Qb, Qc]
              refine Jk (i := 3) (v := ?vb3) rfl (by kernel_rfl) (by kernel_rfl) (by kernel_rfl) (λ_ _ _ h => h) rfl ?hb3 (by assumption) ?rb3
              case hb3 => (intro W hSW; (try dsimp only at hSW); go_simp; (try with_reducible rfl))
              simp only [Act.put, Qa, Qb, Qc]
              refine Jk (i := 4) (v := ?vb4) rfl (by kernel_rfl) (by kernel_rfl) (by kernel_rfl) (λ_ _ _ h => h) rfl ?hb4 (by assumption) ?rb4
              case hb4 => (intro W hSW; (try dsimp only at hSW); go_simp; (try with_reducible rfl))
              simp only [Act.put, Qa, Qb, Qc]
              refine Jk (i := 5) (v := ?vb5) rfl (by kernel_rfl) (by kernel_rfl) (by kernel_rfl) (λ_ _ _ h => h) rfl ?hb5 (by assumption) ?rb5
              case hb5 => (intro W hSW; (try dsimp only at hSW); go_simp; (try with_reducible rfl))
              simp only [Act.put, Qa, Qb, Qc]
              refine Jk (i := 6) (v := ?vb6) rfl (by kernel_rfl) (by kernel_rfl) (by kernel_rfl) (λ_ _ _ h => h) rfl ?hb6 (by assumption) ?rb6
              case hb6 => (intro W hSW; (try dsimp only at hSW); go_simp; (try with_reducible rfl))
              simp only [Act.put, Qa, Qb, Qc]
              refine Jk (i := 7) (v := ?vb7) rfl (by kernel_rfl) (by kernel_rfl) (by kernel_rfl) (λ_ _ _ h => h) rfl ?hb7 (by assumption) ?rb7
              case hb7 => (intro W hSW; (try dsimp only at hSW); go_simp; (try with_reducible rfl))
              simp only [Act.put, Qa, Qb, Qc]
              refine YA (i := 8) rfl (by kernel_rfl) (λK hK => ?_)
              go_simp
              rw [HWA2.o]
              refine hK.out _ _ ⟨sA, y0, y1, y2, y3⟩ (λhHeld8 => ?_)
              clear hK K hHeld
              try simp only [Act.put, Qa, Qb, Qc]
              refine YA (i := 9) rfl (by kernel_rfl) (λK hK => ?_)
              refine YW rfl _ _ 43 rfl rfl rfl hrun ?_
              refine hK.out _ _ ⟨s6, z0, z1, z2, z3⟩ (λhHeld9 => ?_)
              clear hK K hHeld8
              try simp only [Act.put, Qa, Qb, Qc]
              refine Jk (i := 10) (v := ?vb10) rfl (by kernel_rfl) (by kernel_rfl) (by kernel_rfl) (λ_ _ _ h => h) rfl ?hb10 (by assumption) ?rb10
              case hb10 => (intro W hSW; (try dsimp only at hSW); go_simp; (try with_reducible rfl))
              simp only [Act.put, Qa, Qb, Qc]
              refine wpAnyH_done (by kernel_rfl) ?_ _
              show wpList _ _ _ [_] _ _
              go_wp2
              go_roundw
              case rel => exact ⟨k2 + 1, _, _, HGO.o.1, by have := HGO.o; go_num, HEND.o.1, HEND.o.2⟩
              case measure => have := HGO.o; simp [intOf]; omega
        · have hk2e : k2 = L.length := by omega
          subst hk2e
          have hnlt : ¬ (L.length : Int) < (L.length : Int) := by omega
          rw [List.take_length] at HS
          have hlt := HLT.o.1
          have hsum := HLT.o.2
          obtain ⟨p0, q0, hv0⟩ := HS.o.own0.shape
          obtain ⟨p1, q1, hv1⟩ := HS.o.own1.shape
          subst hv0
          subst hv1
          have ha3 := ha.tch HT3.o (λ_ _ h => h)
          have HR0 : Hid (Calls _ _ _ wr _) := IH (JQ L k 0) wr _ _ al hlt.1 (Jbr L k 0 hok) (Jcd L k 0 hnd) (hE.tch HT3.o noE) HS.o.own0.at ha3 (Qm hb HT3.o.size) (by omega) (hxw.tch HT3.o (λh => h))
          have s0 : wr.cell? ⟨sb, 0, none⟩ = some (.slice p0 (JQ L k 0).length q0) := Ja HS.o.row
          go_wp2_with fail
          refine HR0.o.mono ?_
          rintro _ w4 ⟨s, a, va4, rfl, hro4, hown4, ht4⟩
          have hal : a.length + 1 <= 2 * (JQ L k 0).length := by
            have := hro4.len (λe => by
             have : (koL (JQ L k 0)).length = 0 := by rw [e]; rfl
             rw [koL, List.length_map] at this; omega)
            rw [koL, List.length_map] at this
            omega
          have hE3 := hE.tch HT3.o noE
          have hE4 : Env E w4 := hE3.tch ht4 (λj hj => Qm hK hj.1)
          have hx4 : XAt wd xb w4 := by
            obtain ⟨xa, xb', xc, hx⟩ := hxw.tch HT3.o (λh => h)
            exact XAt.tch ⟨xa, xb', xc, hx⟩ ht4 (SRow.not hx (by decide))
          have hr4 := (ht4.block sb (Jb HS.o.row) (SRow.not HS.o.row (by decide))).trans HS.o.row
          have hh4 := HS.o.own1.tch ht4 (λj hj => by
            obtain ⟨cu, m, hr⟩ := HS.o.own1.t.2 j hj
            exact SRow.not hr (by decide))
          have s1 : w4.cell? ⟨sb, 1, none⟩ = some (.slice p1 (JQ L k 1).length q1) := Ja hr4
          have HR1 : Hid (Calls _ _ _ w4 _) := IH (JQ L k 1) w4 _ _ (al ++ strB a) hlt.2 (Jbr L k 1 hok) (Jcd L k 1 hnd) hE4 hh4.at hown4 (Qm (Qm hb HT3.o.size) ht4.size) (by rw [Qe, strB, List.length_map]; omega) hx4
          obtain ⟨a4, c4, hva4⟩ := hown4.shape
          generalize (al ++ strB a).length = n4 at hva4
          subst hva4
          have HX4 : Hid (XAt wd xb w4 /\ Env E w4) := ⟨hx4, hE4⟩
          have HO4 : Hid (NOwn base w4 (.slice a4 n4 c4) (al ++ strB a)) := hown4
          have HT4 : Hid (Tch (SRow base w) w w4) := (HT3.o.mono noE).trans ht4 (λj hj => SRow.back (HT3.o.mono noE) hj)
          have HRO4 : Hid (Xx (dgW wd) (koL (JQ L k 0)) s a) := hro4
          clear hro4 hown4 ht4 hal hE3 hE4 hx4 hr4 hh4 HR0 s0
          go_wp2_with fail
          refine HR1.o.mono ?_
          rintro _ w5 ⟨t, a', va5, rfl, hro5, hown5, ht5⟩
          obtain ⟨a5, c5, hva5⟩ := hown5.shape
          generalize (al ++ strB a ++ strB a').length = n5 at hva5
          subst hva5
          have hE5 : Env E w5 := HX4.o.2.tch ht5 (λj hj => Qm hK hj.1)
          have hx5 : XAt wd xb w5 := by
            obtain ⟨xa, xb', xc, hx⟩ := HX4.o.1
            exact XAt.tch ⟨xa, xb', xc, hx⟩ ht5 (SRow.not hx (by decide))
          have HT5 : Hid (Tch (SRow base w) w w5) := HT4.o.trans ht5 (λj hj => SRow.back HT4.o hj)
          have hsz5 : base <= w5.heap.size := Qm hb HT5.o.size
          obtain ⟨TX, hTX⟩ : ∃ TX : List UInt8, TX = 78 :: (beL k 2 2 ++ ((dgW wd s).data.toList ++ (dgW wd t).data.toList)) := ⟨_, rfl⟩
          have hd : ∀ y, (dgW wd y).data.toList.length = wd := λy => by rw [Xo, Js wd hw]
          have hsl := HRO4.o.tlen hw (λh hh => (Jbr L k 0 hok h hh).1)
          have htl := hro5.tlen hw (λh hh => (Jbr L k 1 hok h hh).1)
          have hroL : Xx (dgW wd) (koL L) TX (a ++ a' ++ [TX]) := by
            rw [hTX, HL.o.1]
            rw [HL.o.1] at e
            exact JiL h0 (x :: r) k e (λi hi => by have := HB.o.2.2 i hi; rw [HL.o.1] at this; exact this) (by rw [<- HL.o.1]; exact HRO4.o) (by rw [<- HL.o.1]; exact hro5)
          have HEND : Hid (∀ V, Tch (λ_ => False) w5 V -> ∃ v' w3, (Builtin.append_ #[58, 58] 58 #[.slice a5 n5 c5, .slice (some ⟨V.heap.size, 0, none⟩) 1 1]).run prog (V.alloc (.cells #[.string ⟨TX.toArray⟩] 9)) = .ok v' w3 /\ ZR wd base L w al (.returned (.tuple #[.string ⟨TX.toArray⟩, v'])) w3) := λV hV => by
            have tA := Tch.alloc (λ_ => False) V (.cells #[.string ⟨TX.toArray⟩] 9)
            have hN := hown5.tch (hV.go tA) (λ_ _ h => h)
            obtain ⟨v', w3, hrun, hown, hg⟩ := Yv hN V.heap.size ⟨TX.toArray⟩ (Ja (Qf V _)) 58 (by
              have h1 := hroL.len (λe => by
                have h2 : (koL L).length = 0 := by rw [e]; rfl
                rw [koL, List.length_map] at h2
                have := HL.o.2
                omega)
              simp only [koL, strB, Qe, List.length_map, Qp, Qv] at h1 ⊢
              omega) (Qm hsz5 (hV.go tA).size)
            refine ⟨v', w3, hrun, TX, a ++ a' ++ [TX], v', rfl, hroL, by rw [strB, List.map_append, List.map_append, <- Qs, <- Qs]; exact hown, ?_⟩
            have T2 : Tch (SRow base w) w (V.alloc (.cells #[.string ⟨TX.toArray⟩] 9)) := HT5.o.trans (hV.go tA) noE
            exact T2.trans (Tch.grown hg) (λj hj => SRow.back T2 (hN.own j hj.symm))
          obtain ⟨iB, hiB⟩ : ∃ iB : BA, iB = ⟨(beL k 2 2).toArray⟩ := ⟨_, rfl⟩
          obtain ⟨d0, hd0⟩ : ∃ d0 : BA, d0 = dgW wd s := ⟨_, rfl⟩
          obtain ⟨d1, hd1⟩ : ∃ d1 : BA, d1 = dgW wd t := ⟨_, rfl⟩
          obtain ⟨m1, hm1⟩ : ∃ m1 : BA, m1 = ⟨([78] ++ beL k 2 2).toArray⟩ := ⟨_, rfl⟩
          obtain ⟨m2, hm2⟩ : ∃ m2 : BA, m2 = ⟨([78] ++ beL k 2 2 ++ d0.data.toList).toArray⟩ := ⟨_, rfl⟩
          obtain ⟨tX, htX⟩ : ∃ tX : BA, tX = ⟨TX.toArray⟩ := ⟨_, rfl⟩
          have hl0 : d0.data.toList.length = wd := by rw [hd0]; exact hd s
          have hl1 : d1.data.toList.length = wd := by rw [hd1]; exact hd t
          have hadd1 : ∀ W, (Op.stringOp .add (⟨#[78]⟩ : BA) iB).run prog W = .ok (.string m1) W := λW => by rw [hiB, hm1]; exact YN [78] (beL k 2 2) (by rw [Je]; simp) W
          have hadd2 : ∀ W, (Op.stringOp .add m1 d0).run prog W = .ok (.string m2) W := λW => by
            rw [hm1, hm2]
            have := YN ([78] ++ beL k 2 2) d0.data.toList (by rw [Qe, Je, hl0]; simp; omega) W
            rw [strL] at this
            exact this
          have hadd3 : ∀ W, (Op.stringOp .add m2 d1).run prog W = .ok (.string tX) W := λW => by
            rw [hm2, htX, hTX, <- hd0, <- hd1]
            have := YN ([78] ++ beL k 2 2 ++ d0.data.toList) d1.data.toList (by rw [Qe, Qe, Je, hl0, hl1]; simp; omega) W
            rw [strL] at this
            rw [this]
            simp
          have HIB : Hid (∀ V, Calls prog 49 #[.int .u64 (k : Int), .int .i64 2] V λe w' => e = .returned (.string iB) /\ Tch (λ_ => False) V w') := λV => by rw [hiB]; exact JbF k 2 V (by omega)
          have HDG : Hid (∀ V y, y.length <= 1000 -> Tch (λ_ => False) w5 V -> Calls prog 39 #[.int .i64 (wd : Int), .string ⟨y.toArray⟩] V λe w' => e = .returned (.string (dgW wd y)) /\ Tch (λ_ => False) V w') := λV y hy hV => by
            have hEV := hE5.tch hV noE
            refine (Jap wd ⟨y.toArray⟩ V hw1 hw (by rw [JC]; omega) (Qk (by decide) hEV.size) hEV.table).mono ?_
            rintro _ w' ⟨rfl, ht⟩
            exact ⟨rfl, ht⟩
          have HXC : Hid (∀ V, Tch (λ_ => False) w5 V -> V.cell? ⟨xb, 1, none⟩ = some (.int .i64 (wd : Int))) := λV hV => (hx5.tch hV (λh => h)).cell
          have hkc : IntKind.u64.wrap (k : Int) = (k : Int) := Jr _ (by omega) (by have := HB.o.1; omega)
          rw [<- htX] at HEND
          subst hd0
          subst hd1
          have HSL : Hid (s.length <= 1000 /\ t.length <= 1000) := ⟨hsl, htl⟩
          have xw := HXC.o w5 (Tch.refl _ _)
          clear IH hroL hro5 hown5 ht5 hE5 hx5 hTX hiB hm1 hm2 htX hsl htl hl0 hl1 hd
          go_upto_region 17 with fail
          have HTd : Hid (Tch (λ_ => False) w5 w5.drew) := Tch.drewN _ w5 1
          go_region_held3 (λV => V.cell? ⟨xb, 1, none⟩ = some (.int .i64 (wd : Int))) (go_keep) ((first | (go_at_call 49; refine (HIB.o _).mono ?_; rintro _ w6 ⟨rfl, ht6⟩; have HT6 : Hid (Tch (λ_ => False) w5 w6) := HTd.o.go ht6; have y1 := HXC.o w6 HT6.o; clear ht6) | (go_at_call 39; refine (HDG.o _ _ (by first | exact HSL.o.1 | exact HSL.o.2) (by first | exact HT7.o | exact HT6.o)).mono ?_; rintro _ w7 ⟨rfl, ht7⟩; have HT7 : Hid (Tch (λ_ => False) w5 w7) := (by first | exact HT7.o.go ht7 | exact HT6.o.go ht7); have z1 := HXC.o w7 HT7.o; clear ht7)))
          all_goals
            obtain ⟨v', w8, hrun, hEn⟩ := HEND.o _ HT7.o
            have HEN : Hid (ZR _ _ _ _ _ _ _) := hEn
            clear hEn HEND
            go_wp2_with (at_builtin; refine XQ rfl _ _ 58 rfl rfl rfl hrun ?_)
            go_ret2
            exact HEN.o

theorem JjZ {E:Nat->Addr} (wd base xb:Nat) (hw1:1<=wd) (hw:wd<=32) (hK:18<=base):∀(n:Nat) (l:List Held) (V:World) (v va:Value) (al:List BA),l.length<=n->(∀h∈l,Ji wd h.1/\Jy h.2)->(l.map (·.1)).Nodup->Env E V->JP V v l->NOwn base V va al->base<=V.heap.size->al.length+2 * l.length<=1000000000->XAt wd xb V->
  Calls Tryz.prog 30 #[.pointer (some ⟨xb,0,none⟩),v,va] V λe w'=>ZR wd base l V al e w'
 | n,[],V,v,va,al,_,_,_,_,hv,ha,hb,hl,_=>Jlh wd base xb V v va al hv ha hb (by omega)
 | n,[x],V,v,va,al,_,hok,_,_,hv,ha,hb,hl,_=>Jli wd base xb hw V v va x al hv (hok x (by simp)) ha hb (by omega)
 | 0,h0 :: x :: r,V,v,va,al,hn,_,_,_,_,_,_,_,_=>by simp at hn
 | n+1,h0 :: x :: r,V,v,va,al,hn,hok,hnd,hE,hv,ha,hb,hl,hx=>Jlj wd base xb hw1 hw V hE hK v va h0 x r al hv hok hnd ha hb hl hx
   (λl' V' v' va' al' hlt hok' hnd' hE' hv' ha' hb' hl' hx'=>JjZ wd base xb hw1 hw hK n l' V' v' va' al' (by omega) hok' hnd' hE' hv' ha' hb' hl' hx')

theorem Jb0:∀(l acc:List (List UInt8)) (x:List UInt8),Xe acc (l++[x])=if x∈Xe acc l then Xe acc l else Xe acc l++[x]
 | [],acc,x=>by
  simp only [List.nil_append,Xe]
  by_cases h:x∈acc
  ·simp only [h,if_true]
  ·simp only [h,if_false]
 | y :: r,acc,x=>by simp only [List.cons_append,Xe];exact Jb0 r _ x
theorem Jb1 (l:List (List UInt8)) (i:Nat) (hi:i<l.length):(Xe [] (l.take (i+1))).length=(Xe [] (l.take i)).length+(if l[i]∈l.take i then 0 else 1):=by
 have hm:l[i]∈Xe [] (l.take i)↔l[i]∈l.take i:=by
  have:=(JaD (l.take i) [] List.nodup_nil).2 l[i]
  simp only [QD,false_or] at this
  exact this
 rw [List.take_succ_eq_append_getElem hi,Jb0]
 by_cases h:l[i]∈l.take i
 ·rw [if_pos (hm.2 h),if_pos h];rfl
 ·rw [if_neg (λe=>h (hm.1 e)),if_neg h];simp
theorem JbE (l:List (List UInt8)):∀i,i<=l.length->(Xe [] (l.take i)).length<=i
 | 0,_=>by simp [Xe]
 | i+1,h=>by
  have:=JbE l i (by omega)
  rw [Jb1 l i (by omega)]
  split <;> omega
theorem JdO {wd:Nat}:∀(l:List Held),(∀h∈l,Ji wd h.1)->(l.map (·.1)).Nodup->((koL l).map (·.1)).Nodup
 | [],_,_=>by simp [koL]
 | x :: r,hok,hn=>by
  rw [List.map_cons,List.nodup_cons] at hn
  have ih:=JdO r (λh hh=>hok h (List.mem_cons_of_mem _ hh)) hn.2
  unfold koL at ih ⊢
  rw [List.map_cons,List.map_cons,List.nodup_cons]
  refine ⟨λhm=>hn.1 ?_,ih⟩
  rw [List.map_map,List.mem_map] at hm
  obtain ⟨y,hy,e⟩:=hm
  have e2:y.1=x.1:=JaB (hok y (List.mem_cons_of_mem _ hy)) (hok x List.mem_cons_self) e
  exact List.mem_map.2 ⟨y,hy,e2⟩
theorem JgG {wd:Nat} {d:List UInt8->BA} {st:Option Tr} {l:List Held} (B:Book wd st l) {s:List UInt8} {a:List (List UInt8)} (h:Xx d (koL l) s a):a=JaM d st:=by
 refine Xx.of_state B.wf (λx=>?_) (JdO l (λh hh=>(B.ok h hh).1) B.nodup) h
 unfold koL
 rw [List.mem_map]
 obtain ⟨k,o⟩:=x
 rw [B.mem]
 constructor
 ·rintro ⟨h,h1,h2⟩
  simp only [Qw] at h2
  exact ⟨h,h1,h2⟩
 ·rintro ⟨h,h1,h2,h3⟩
  exact ⟨h,h1,by rw [h2,h3]⟩
theorem Xx.ne {d:List UInt8->BA} {l:List KO} {s:List UInt8} {a:List (List UInt8)} (h:Xx d l s a):a ≠ []:=by cases h <;> simp
theorem Jez {wd:Nat} (hw:wd<=32) {st:Option Tr} {l:List Held} (B:Book wd st l) (hok:StOk wd st) {s:List UInt8} {a:List (List UInt8)} (h:Xx (dgW wd) (koL l) s a):
  ((JH (dgW wd) st).foldl insN []).length=(Xe [] a).length/\(l=[]\/(Xe [] a).length<2 * l.length)/\a.length<=2 * l.length+1/\a ≠ []:=by
 have hl:(koL l).length=l.length:=by simp [koL]
 refine ⟨by rw [JjH hw st hok,<-JgG B h],?_,?_,h.ne⟩
 ·by_cases e:l=[]
  ·exact .inl e
  ·refine .inr ?_
   have h1:=h.len (λe2=>e (List.eq_nil_of_length_eq_zero (by rw [<-hl,e2];rfl)))
   have h2:=JbE a a.length (Ql _)
   rw [List.take_length] at h2
   omega
 ·by_cases e:l=[]
  ·subst e
   have:a=[[69]]:=by
    cases h with
    | none=>rfl
    | two _ b x y p q hf _ _=>exact absurd hf.two (by simp [koL])
   rw [this];simp
  ·have h1:=h.len (λe2=>e (List.eq_nil_of_length_eq_zero (by rw [<-hl,e2];rfl)))
   omega

theorem Jgx {E:Nat->Addr} {wd base:Nat} (L L':Led E wd base) (Q:LedQ L) (St:JeR L) (P:JbU L L') (hw1:1<=wd) (hw:wd<=32) {w:World} {xb lb:Nat} {F:Nat->Prop} {fl:Nat} {ch:Ch} {vst:Value} {sl:List Sl} {states:List (List Held)} (hF:JV E base w) (hS:JR L w xb lb F fl ch vst sl states) (hl:states.length<=1000000000/\∀l∈states,l.length<1000000000):
  (∀V (c:Int),Tch NoB w V-> -9223372036854775808<=c->c<9223372036854775808->Calls prog 23 #[.pointer (some ⟨xb,0,none⟩),.int .i64 c] V λe w'=>Tch NoB V w'/\∃(s:BA) (N:Int),Ji wd (s,N)/\e=.returned (.agg #[.string s,.int .i64 N]))/\
  (∀V (n:Nat) (s:BA) (N:Int),Tch NoB w V->fl<=n->n<states.length->Ji wd (s,N)->Calls prog 21 #[.pointer (some ⟨xb,0,none⟩),.int .i64 (n:Int),.agg #[.string s,.int .i64 N]] V λe w'=>e=.returned (.bool true)/\Tch NoB V w')/\
  (∀V (h:Int) (s:BA) (N:Int),Tch NoB w V->h<(fl:Int)->Calls prog 24 #[.pointer (some ⟨lb,0,none⟩),.int .i64 h,.agg #[.string s,.int .i64 N]] V λe w'=>e=.returned (.tuple #[.string ⟨#[]⟩,.int .i64 7])/\Tch NoB V w')/\
  (∀V (h k:Int),Tch NoB w V->h<(fl:Int)->Calls prog 27 #[.pointer (some ⟨lb,0,none⟩),.int .i64 h,.int .i64 k] V λe w'=>e=.returned (.tuple #[.string ⟨#[]⟩,.int .i64 7])/\Tch NoB V w')/\
  (∀V (r:Nat),Tch NoB w V->r<states.length->Calls prog 16 #[.pointer (some ⟨lb,0,none⟩),.int .i64 (r:Int)] V λe w'=>(∃s,e=.returned (.tuple #[.string s,.int .i64 0]))/\Tch NoB V w')/\
  (∀V (h:Int),Tch NoB w V->h<(fl:Int)->Calls prog 28 #[.pointer (some ⟨lb,0,none⟩),.int .i64 h] V λe w'=>e=.returned (.int .i64 7)/\Tch NoB V w'):=by
 have hc:=hS.len
 refine ⟨λV c hT h1 h2=>?_,λV n s N hT hf hn hco=>?_,λV h s N hT hh=>?_,λV h k hT hh=>?_,λV r hT hr=>?_,λV h hT hh=>?_⟩
 ·refine (JjX L hw1 hw xb lb F fl ch vst sl states c h1 h2 V (hF.tch hT (λ_ e=>e.elim)).env (hS.next hT) hS.coins hl.1 (λl h=>Nat.le_of_lt (hl.2 l h))).mono ?_
  rintro e w' ⟨ht,⟨s,N⟩,hc,he⟩
  exact ⟨ht,s,N,hc,he⟩
 ·exact Jlk L Q hw1 hw xb lb F fl ch vst sl states n hn hf (s,N) hco V (hF.tch hT (λ_ e=>e.elim)) (hS.next hT) hl.1 hl.2
 ·exact Q.qout h (s,N) (L.keep hS.led hT (λ_ e=>e.elim)) (hF.tch hT (λ_ e=>e.elim)) (by omega)
 ·exact St.dout h k (L.keep hS.led hT (λ_ e=>e.elim)) (hF.tch hT (λ_ e=>e.elim)) (by omega)
 ·have hl1:=hl.1
  refine (L.header (r:Int) (L.keep hS.led hT (λ_ e=>e.elim)) (hF.tch hT (λ_ e=>e.elim)) (by omega) (by omega)).mono ?_
  rintro e w' ⟨he,ht⟩
  rw [if_pos (by omega)] at he
  exact ⟨⟨_,he⟩,ht⟩
 ·exact P.pout h (L.keep hS.led hT (λ_ e=>e.elim)) (hF.tch hT (λ_ e=>e.elim)) (by omega)
theorem Jgy {E:Nat->Addr} {wd base:Nat} (L L':Led E wd base) (Q:LedQ L) (St:JeR L') (P:JbU L L') (hw1:1<=wd) (hw:wd<=32) {w:World} {xb lb:Nat} {F:Nat->Prop} {fl:Nat} {ch:Ch} {vst:Value} {sl:List Sl} {states:List (List Held)} (hF:JV E base w) (hbw:base<=w.heap.size) (hS:JR L w xb lb F fl ch vst sl states) (hl:states.length<=1000000000/\∀l∈states,l.length<100000000) (n:Nat) (hn:states.length=n+1):
  ∃(l:List Held) (x:Sl) (a:List (List UInt8)->Prop) (cnt:Nat),states[n]? =some l/\x.2.1=l.length/\(∃g cap,vst=.slice (some ⟨g,0,none⟩) (n+1) cap/\∀V V2,Tch F w V->Tch (SRow base V) V V2->V2.cell? ⟨xb,0,none⟩=some (.pointer (some ⟨lb,0,none⟩))/\V2.cell? ⟨xb,2,none⟩=some (.slice (some ⟨g,0,none⟩) (n+1) cap)/\V2.cell? ⟨g,n,none⟩=some (.slice x.1 x.2.1 x.2.2))/\
   (∀t,a t->cnt=(Xe [] t).length/\(l=[]\/(Xe [] t).length<2 * l.length)/\t.length<=2 * l.length+1/\t ≠ [])/\
   (∀V,Tch NoB w V->Calls prog 28 #[.pointer (some ⟨lb,0,none⟩),.int .i64 (n:Int)] V λe w'=>e=.returned (.int .i64 0)/\Tch F V w'/\
    (∀V',Tch NoB w' V'->Calls prog 29 #[.pointer (some ⟨lb,0,none⟩)] V' λe w'=>e=.returned (.int .i64 (cnt:Int))/\Tch NoB V' w'))/\
   (∀V,Tch F w V->Calls prog 30 #[.pointer (some ⟨xb,0,none⟩),.slice x.1 x.2.1 x.2.2,.slice none 0 0] V λe w'=>∃s t va',e=.returned (.tuple #[.string s,va'])/\a t/\NOwn base w' va' (strB t)/\Tch (SRow base V) V w'):=by
 have hlen:=hS.len
 have hsl:n<sl.length:=by omega
 have hst:n<states.length:=by omega
 have hcn:n<ch.length:=by omega
 obtain ⟨g,cap,hv,hcells⟩:=hS.st.at (λe=>by rw [e] at hsl;simp at hsl)
 have hgo:=hS.st.own g (by rw [hv];rfl)
 obtain ⟨gcs,gm,hgr⟩:=hS.st.kind g (by rw [hv];rfl)
 have hgF:¬F g:=λh=>(L.kinds hS.led g h gcs _ gm hgr).2.1 rfl
 have B:=hS.book n ch[n] states[n] (Nat.zero_le _) (Qd hcn) (Qd hst)
 have hfl:=hS.floor
 have hok:=Q.oks hS.led n ch[n] (Qd hcn) (by omega)
 have hH:=hS.held n sl[n] states[n] (Qd hsl) (Qd hst)
 have hxn:sl[n].2.1=states[n].length:=by
  rcases hH.1 with ⟨e,e2⟩ | ⟨_,_,_,e,_⟩
  ·simp only [Qy] at e;rw [e.2.1,e2];rfl
  ·simp only [Qy] at e;exact e.2.1
 have hvn:vst=.slice (some ⟨g,0,none⟩) (n+1) cap:=by rw [hv,show sl.length=n+1 by omega]
 have hxF:¬F xb:=λh=>(L.kinds hS.led xb h _ _ _ hS.row).1 rfl
 refine ⟨states[n],sl[n],λt=>∃s,Xx (dgW wd) (koL states[n]) s t,((JH (dgW wd) ch[n].2).foldl insN []).length,Qd hst,hxn,⟨g,cap,hvn,λV V2 hT hT2=>?_⟩,?_,?_,?_⟩
 ·have r1:=(hT.block xb (Jb hS.row) hxF).trans hS.row
  have r2:=(hT2.block xb (Jb r1) (SRow.not r1 (by decide))).trans r1
  have q1:=(hT.block g hgo.2 hgF).trans hgr
  have q2:=hT2.cell (p:=⟨g,n,none⟩) (Jb q1) (SRow.not q1 (by decide))
  exact ⟨Ja r2,(Ja r2).trans (by rw [hvn];rfl),q2.trans ((hT.cell (p:=⟨g,n,none⟩) hgo.2 hgF).trans (hcells n hsl))⟩
 ·rintro t ⟨s,hs⟩
  exact Jez hw B hok hs
 ·intro V hT
  refine (P.pin n (L.keep hS.led hT (λ_ e=>e.elim)) (hF.tch hT (λ_ e=>e.elim)) (by omega) hcn).mono ?_
  rintro e w' ⟨he,ht,F',hF',hA⟩
  refine ⟨he,ht,λV' hT'=>?_⟩
  refine St.stored ch[n] (L'.keep hA hT' (λ_ e=>e.elim)) (((hF.tch hT (λ_ e=>e.elim)).tch ht (λj hj=>(L.own hS.led j hj).1)).tch hT' (λ_ e=>e.elim)) (by omega) (Qd hcn) B.wf
 ·intro V hT
  have hx:XAt wd xb V:=⟨_,_,_,(hT.block xb (Jb hS.row) hxF).trans hS.row⟩
  have hHV:JP V (.slice sl[n].1 sl[n].2.1 sl[n].2.2) states[n]:=by
   refine (hH.tch hT (λj hj h=>?_)).1
   obtain ⟨cur,m,hr⟩:=hH.2 j hj
   exact (L.kinds hS.led j h cur _ m hr).2.2 rfl
  have hlb:=hl.2 states[n] (Qx hst)
  refine (JjZ (E:=E) wd base xb hw1 hw hF.vars states[n].length states[n] V _ (.slice none 0 0) [] (Ql _) B.ok B.nodup (hF.tch hT (λj hj=>(L.own hS.led j hj).1)).env hHV (NOwn.nil _ _) (Qm hbw hT.size) (by simp only [Qv];omega) hx).mono ?_
  rintro e w' ⟨s,t,va',he,hr,hown,ht⟩
  exact ⟨_,t,va',he,⟨s,hr⟩,by simpa using hown,ht⟩
