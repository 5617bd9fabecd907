import Derived.Test.YtighkdnooglfjaaGreatDoorOcChO
namespace Go.Proofs.YtighkdnooglfjaaGreatDoor
open Go.Proofs.Tryz
set_option maxRecDepth 100000
set_option maxHeartbeats 2000000
open Go.RowKit

def Prn (fl f:Nat) (bs bs':List BV):Prop:=∀k:Nat,bs'[k]? =if fl<=k/\k<f then (bs[k]?).map (λb=>(b.1,0,none)) else bs[k]?
theorem Prn.length {fl f:Nat} {bs bs':List BV} (h:Prn fl f bs bs'):bs'.length=bs.length:=by
 have h1:∀k,bs'[k]? =none↔bs[k]? =none:=λk=>by
  rw [h k];cases bs[k]? <;> split <;> simp
 have a:=h1 bs.length
 have b:=h1 bs'.length
 simp only [List.getElem?_eq_none_iff] at a b
 omega
theorem Prn.start (fl:Nat) (bs:List BV):Prn fl fl bs bs:=λk=>by rw [if_neg (by omega)]
theorem Prn.step {fl f:Nat} {bs bs':List BV} (h:Prn fl f bs bs') (hf:fl<=f) (b:BV) (hb:bs'[f]? =some b):Prn fl (f+1) bs (bs'.set f (b.1,0,none)):=λk=>by
 have hl:=(Qo.1 hb).1
 by_cases e:k=f
 ·subst e
  have:=h k
  rw [if_neg (by omega),hb] at this
  rw [List.getElem?_set_self hl,if_pos (by omega),<-this]
  rfl
 ·rw [List.getElem?_set_ne (λx=>e x.symm),h k]
  by_cases c:fl<=k/\k<f
  ·rw [if_pos c,if_pos (by omega)]
  ·rw [if_neg c,if_neg (by omega)]
theorem Jt.set {w w':World} {cb wd fl r:Nat} {bs:List BV} {v:Value} (h:Jt w cb wd fl r bs v) (bs':List BV) (hw:w'=w.setBlocks r bs'):Jt w' cb wd fl r bs' v:=by
 subst hw
 have hne:¬cb=r:=λe=>by have:=h.row;rw [e,h.map] at this;cases this
 exact ⟨((Tch.setBlocks w r bs').block cb (Jb h.row) hne).trans h.row,Ze h.map _⟩
theorem Jt.up {w:World} {cb wd fl r:Nat} {bs:List BV} {v:Value} (h:Jt w cb wd fl r bs v) (f:Nat):Jt (w.setCell ⟨cb,1,none⟩ (.int .i64 (f:Int))) cb wd f r bs v/\Tch (λk=>k=cb) w (w.setCell ⟨cb,1,none⟩ (.int .i64 (f:Int))):=by
 have hne:¬r=cb:=λe=>by have:=h.row;rw [<-e,h.map] at this;cases this
 have e:=Qj w cb 1 _ _ _ (.int .i64 (f:Int)) h.row
 rw [e]
 have t:=Ts w cb (#[.int .i64 (wd:Int),.int .i64 (fl:Int),.map (some r),v].setIfInBounds 1 (.int .i64 (f:Int)))
 exact ⟨⟨Qi _ _ _ _ _ _ h.row,(t.block r (Jb h.map) hne).trans h.map⟩,t⟩
theorem Jcs (E:Nat->Addr) {w:World} (hE:Env E w) {cb wd fl r:Nat} {bs:List BV} {lv:Value} (h:Jt w cb wd fl r bs lv) (base:Nat) (hbase:base<=w.heap.size) (lg:List UInt8) (hl:JU base w lv lg) (hll:lg.length<=140737488000000) (n:Nat) (hf:fl<=n) (hn:n<bs.length) (hb:bs.length<2 ^ 31):
  Calls prog 56 #[.pointer (some ⟨cb,0,none⟩),.int .i64 (n:Int)] w λe w'=>e=.returned .nilIface/\∃lv' bs',Prn fl n bs bs'/\Jt w' cb wd n r bs' lv'/\JU base w' lv' (lg++recB [80] (beL n 4 4))/\Tch (λk=>k=cb\/k=r\/some k=lv.ownBlock) w w'/\Jm w lv.ownBlock lv'.ownBlock:=by
 obtain ⟨b0,hb0⟩:∃b0,bs[n]? =some b0:=⟨_,Qd hn⟩
 have HSA:Hid (Calls prog 92 #[.pointer (some ⟨cb,0,none⟩),.int .i64 (n:Int)] w λe w'=>e=.returned (.tuple #[Jw b0.2.1 b0.2.2,.nilIface])/\Tch NoB w w'):=Jc1 h n b0 hb0 hf
 obtain ⟨tn,rv,hrv⟩:∃(tn:Int) (rv:Option Addr),Jw b0.2.1 b0.2.2=.agg #[.int .i64 tn,.pointer rv]:=⟨_,_,rfl⟩
 rw [hrv] at HSA
 have HRF:Hid (∀W,Tch NoB w W->Calls prog 97 #[.pointer (some ⟨cb,0,none⟩),.int .i64 (n:Int)] W λe w'=>e=.returned .nilIface/\∃lv',Jt w' cb wd fl r bs lv'/\JU base w' lv' (lg++recB [80] (beL n 4 4))/\Tch (λk=>k=cb\/some k=lv.ownBlock) W w'/\Jm W lv.ownBlock lv'.ownBlock):=λW hT=>Jcb E (hE.tch hT noE) (h.next hT) base (Qm hbase hT.size) lg (hl.next hT) hll n (by omega)
 have HB:Hid (fl<=n/\n<bs.length/\bs.length<2 ^ 31):=⟨hf,hn,hb⟩
 clear hE h hbase hl hll hb0 hrv hf hn hb
 go_enter func56,ntmps56
 go_wp2_with fail
 refine HSA.o.mono ?_
 rintro _ w1 ⟨rfl,ht1⟩
 have HT1:Hid _:=ht1
 clear ht1 HSA
 go_wp2_with fail
 refine (HRF.o _ (HT1.o.go (Ta _ _ _))).mono ?_
 rintro _ w2 ⟨rfl,lv',k1,k2,k3,k4⟩
 have HT2:Hid (Tch (λk=>k=cb\/some k=lv.ownBlock) w w2):=((HT1.o.go (Ta NoB w1 _)).mono noE).trans k3 (λj hj=>.inl hj)
 have HM2:Hid (Jm w lv.ownBlock lv'.ownBlock):=by
  rcases k4 with h | ⟨k,h,hk⟩
  ·exact .inl h
  ·exact .inr ⟨k,h,Qm (HT1.o.go (Ta NoB w1 _)).size hk⟩
 have HL2:Hid _:=k2
 have HR2:Hid _:=k1
 clear k1 k2 k3 k4 HT1 HRF
 go_upto_region 7 with fail
 go_loopw [] (λwr=>∃(f:Nat) (bs':List BV),fl<=f/\f<=n/\Hid (Prn fl f bs bs')/\Hid (Jt wr cb wd f r bs' lv')/\Hid (Tch (λk=>k=cb\/k=r) w2 wr)) (λwr=>n - (match wr.cell? ⟨cb,1,none⟩ with | some v=>(intOf v).toNat | none=>0))
 case atStart=>exact ⟨fl,bs,Ql _,HB.o.1,Prn.start _ _,HR2.o,Te _ _⟩
 case round=>
  obtain ⟨f,bs',hlf,hfn,HP,HR,HT⟩:=hrel
  have c1:wr.cell? ⟨cb,1,none⟩=some (.int .i64 (f:Int)):=Ja HR.o.row
  by_cases hgo:f<n
  ·have hgi:(f:Int)<(n:Int):=by omega
   have hfl:f<bs'.length:=by have:=HB.o;rw [HP.o.length];omega
   obtain ⟨b,hbf⟩:∃b,bs'[f]? =some b:=⟨_,Qd hfl⟩
   have hD:Tch NoB wr wr.drew:=Td _ wr 1
   have hRd:=HR.o.next hD
   have d1:wr.drew.cell? ⟨cb,1,none⟩=some (.int .i64 (f:Int)):=Ja hRd.row
   have d2:wr.drew.cell? ⟨cb,2,none⟩=some (.map (some r)):=Ja hRd.row
   have hlk:=Jes hRd.map f b hbf false
   have hpu:=Jis hRd.map f hfl (b.1,0,none)
   have hRs:Jt (wr.drew.setBlocks r (bs'.set f (b.1,0,none))) cb wd f r (bs'.set f (b.1,0,none)) lv':=hRd.set _ rfl
   have s1:(wr.drew.setBlocks r (bs'.set f (b.1,0,none))).cell? ⟨cb,1,none⟩=some (.int .i64 (f:Int)):=Ja hRs.row
   have s2:(wr.drew.setBlocks r (bs'.set f (b.1,0,none))).cell? ⟨cb,2,none⟩=some (.map (some r)):=Ja hRs.row
   have sf:(wr.drew.setBlocks r (bs'.set f (b.1,0,none))).frozen? ⟨cb,1,none⟩=false:=Qg _ _ _ _ _ hRs.row
   have HTs:Hid (Tch (λk=>k=cb\/k=r) w2 (wr.drew.setBlocks r (bs'.set f (b.1,0,none)))):=(HT.o.trans hD noE).trans (Tch.setBlocks _ _ _) (λj hj=>.inl (.inr hj))
   have HPs:Hid (Prn fl (f+1) bs (bs'.set f (b.1,0,none))):=HP.o.step hlf b hbf
   have HRs:Hid _:=hRs
   clear hD hRd hRs hbf hfl
   obtain ⟨bh,bu,bq⟩:=b
   obtain ⟨rv,hrv⟩:∃rv,Ji bq=.pointer rv:=⟨_,rfl⟩
   have hpu:(Instr.mapUpdate 141 (.map (some r)) (.int .i64 (f:Int)) (.agg #[.string bh,.int .i64 0,.pointer none])).run prog wr.drew=.ok () (wr.drew.setBlocks r (bs'.set f (bh,0,none))):=hpu
   simp only [bV,hrv] at hlk
   clear hrv
   generalize bs'.set f (bh,0,none)=bs2 at *
   have hfd:∀W,(Instr.field 148 (.agg #[.string bh,.int .i64 (bu:Int),.pointer rv]) 0).run prog W=.ok (.string bh) W:=λW=>by kernel_rfl
   go_upto_region 9 with fail
   go_region_held3 (λW=>W.cell? ⟨cb,1,none⟩=some (.int .i64 (f:Int))/\W.cell? ⟨cb,2,none⟩=some (.map (some r))) (go_keep) (fail)
   all_goals
    go_wp2
    have hwr:wrap64 ((f:Int)+1)=((f+1:Nat):Int):=by have:=HB.o;unfold wrap64;omega
    obtain ⟨hR3,hT3⟩:=HRs.o.up (f+1)
    rw [<-hwr] at hR3 hT3
    have c3:World.cell? _ ⟨cb,1,none⟩=some (.int .i64 ((f+1:Nat):Int)):=cell_of_row _ _ 1 _ _ _ hR3.row
    rw [c3,c1]
    refine ⟨⟨f+1,bs2,by omega,by omega,HPs.o,hR3,HTs.o.trans hT3 (λj hj=>.inl (.inl hj))⟩,?_⟩
    simp only [intOf,Int.toNat_natCast]
    omega
  ·have hge:¬(f:Int)<(n:Int):=by omega
   have hfe:f=n:=by omega
   subst hfe
   go_wp2
   go_ret
   have hne:=HL2.o.ne_row HR2.o
   have tm:Tch (λk=>k=cb\/k=r\/some k=lv.ownBlock) w w2:=HT2.o.mono (λj hj=>.inl (hj.elim .inl (λh=>.inr (.inr h))))
   exact ⟨rfl,lv',bs',HP.o,HR.o,HL2.o.tch HT.o (λj hj hS=>hS.elim (λh=>hne.1 (by rw [<-h];exact hj.symm)) (λh=>hne.2 (by rw [<-h];exact hj.symm))),tm.trans HT.o (λj hj=>.inl (hj.elim .inl (λh=>.inr (.inl h)))),HM2.o⟩
theorem Je8 (E:Nat->Addr) {w:World} (hE:Env E w) {cb wd fl r:Nat} {bs:List BV} {lv:Value} (h:Jt w cb wd fl r bs lv) (k:Int) (hk:¬((fl:Int)<=k/\k<bs.length)):
  Calls prog 56 #[.pointer (some ⟨cb,0,none⟩),.int .i64 k] w λe w'=>NoTo E 5 w e w':=by
 have HS:Hid (Calls prog 92 #[.pointer (some ⟨cb,0,none⟩),.int .i64 k] w λe w'=>∃t u,e=.returned (.tuple #[.agg #[.int .i64 0,.pointer none],.iface t u])/\Jl E 5 w' (.iface t u)/\Tch NoB w w'):=Jb6 E hE h k hk
 clear hE h hk
 go_enter func56,ntmps56
 go_wp2_with fail
 refine HS.o.mono ?_
 rintro _ w1 ⟨t,u,rfl,he,ht⟩
 have HT:Hid _:=ht
 have HE:Hid _:=he
 clear he ht HS
 go_wp2_with fail
 refine (Xy _ _ _ _).mono ?_
 rintro _ _ ⟨rfl,rfl⟩
 go_wp2
 go_ret
 have tA:=Ta NoB w1 (.cells #[.int .i64 0,.pointer none] 146)
 have tB:=Ta NoB (w1.alloc (.cells #[.int .i64 0,.pointer none] 146)) (.cells #[.string ⟨#[102,108,111,111,114]⟩,.iface t u] 237)
 have hp:=Qf (w1.alloc (.cells #[.int .i64 0,.pointer none] 146)) (.cells #[.string ⟨#[102,108,111,111,114]⟩,.iface t u] 237)
 rw [World.size_alloc] at hp
 exact ⟨(HT.o.go tA).go tB,_,_,rfl,.wrap _ ⟨#[102,108,111,111,114]⟩ (.iface t u) hp ((HE.o.tch tA (λ_ _ _ _ h=>h)).tch tB (λ_ _ _ _ h=>h))⟩

theorem Jdn (a:Addr) (w:World):(method 641 170 (.pointer (some a)) "trove/wire.place").run prog w=.ok (383,.pointer (some a)) w:=by kernel_rfl
theorem Jdo (a:Addr) (w:World):(method 641 170 (.pointer (some a)) "trove/wire.since").run prog w=.ok (384,.pointer (some a)) w:=by kernel_rfl
theorem JlP {a b:BA} (h:¬a=b):(a.toList == b.toList)=false:=by
 have h2:¬a.data.toList=b.data.toList:=λe=>h (by cases a;cases b;simp only at e;rw [Array.toList_inj] at e;rw [e])
 rw [ByteArray.toList_eq,ByteArray.toList_eq]
 simp only [beq_eq_false_iff_ne,ne_eq]
 exact h2
abbrev RS:=List UInt8×List UInt8×Bool
def RS.len (s:RS):Nat:=s.1.length+s.2.1.length
def RA (E:Nat->Addr) (w:World) (b:Nat) (wd:Int) (s:RS):Prop:=
 if s.2.2=true then Jc w b none wd .nilIface (.rd s.1 s.2.1) else ∃t u,Jc w b none wd (.iface t u) (.rd s.1 s.2.1)/\Jl E 7 w (.iface t u)
def raN (n:Nat) (s:RS):Nat×RS:=if s.2.2=true/\n<=s.2.1.length then (numL (s.2.1.take n),(s.1++s.2.1.take n,s.2.1.drop n,true)) else (0,(s.1,s.2.1,false))
def raT (n:Nat) (s:RS):List UInt8×RS:=if s.2.2=true/\n<=s.2.1.length then (s.2.1.take n,(s.1++s.2.1.take n,s.2.1.drop n,true)) else ([],(s.1,s.2.1,false))
theorem Jhm (n:Nat) (s:RS):(raN n s).2.len=s.len:=by
 unfold raN RS.len
 split
 ·simp only [Qe,QB,List.length_drop];omega
 ·rfl
theorem JeC (n:Nat) (s:RS):(raT n s).2.len=s.len:=by
 unfold raT RS.len
 split
 ·simp only [Qe,QB,List.length_drop];omega
 ·rfl
theorem RA.port {E:Nat->Addr} {w:World} {b:Nat} {wd:Int} {s:RS} (h:RA E w b wd s):∃e,Jc w b none wd e (.rd s.1 s.2.1):=by
 unfold RA at h
 split at h
 ·exact ⟨_,h⟩
 ·obtain ⟨t,u,h,_⟩:=h;exact ⟨_,h⟩
theorem RA.tch {E:Nat->Addr} {S:Nat->Prop} {w w':World} {b:Nat} {wd:Int} {s:RS} (h:RA E w b wd s) (k:Tch S w w') (hb:¬S b) (hs:∀p s u,w.heap[p]? =some (.cells #[.string s,u] 237)->¬S p):RA E w' b wd s:=by
 unfold RA at h ⊢
 split at h
 ·rename_i e;rw [if_pos e];exact h.tch k hb (λ_ h=>by cases h)
 ·rename_i e;rw [if_neg e];obtain ⟨t,u,h,h2⟩:=h;exact ⟨t,u,h.tch k hb (λ_ h=>by cases h),h2.tch k hs⟩
theorem RA.next {E:Nat->Addr} {w w':World} {b:Nat} {wd:Int} {s:RS} (h:RA E w b wd s) (k:Tch NoB w w'):RA E w' b wd s:=h.tch k (λh=>h) (λ_ _ _ _ h=>h)
theorem Jih (E:Nat->Addr) (b:Nat) (wd:Int) (x:Nat) (n:Nat) (s:RS) (w:World) (hE:Env E w) (hp:RA E w b wd s) (h8:n<=8) (hd:s.len<=10000000000000):
  Calls prog 138 #[.pointer (some ⟨b,0,none⟩),.int .u64 (x:Int),.int .i64 (n:Int)] w λe w'=>e=.returned (.int .u64 ((raN n s).1:Int))/\RA E w' b wd (raN n s).2/\Tch (λk=>k=b) w w':=by
 obtain ⟨q,r,ok⟩:=s
 cases ok with
 | false=>
  obtain ⟨t,u,h1,h2⟩:=hp
  refine (Zb b none wd _ _ _ t u w h1).mono ?_
  rintro e w' ⟨rfl,rfl⟩
  refine ⟨by simp [raN],?_,Te _ _⟩
  have e:(raN n (q,r,false)).2=(q,r,false):=by simp [raN]
  rw [e]
  exact ⟨t,u,h1,h2⟩
 | true=>
  have hp':Jc w b none wd .nilIface (.rd q r):=hp
  by_cases hn:n<=r.length
  ·have e:raN n (q,r,true)=(numL (r.take n),(q++r.take n,r.drop n,true)):=by simp [raN,hn]
   rw [e]
   exact YS b wd x q r n w hp' hd hn h8
  ·have e:raN n (q,r,true)=(0,(q,r,false)):=by simp [raN,hn]
   rw [e]
   exact (Jbd E b wd x q r n w hE hp' hd (by omega)).mono λe w' ⟨k1,k2,k3⟩=>⟨k1,⟨_,_,k2,.base⟩,k3⟩
theorem JeN (E:Nat->Addr) (b:Nat) (wd:Int) (x:Value) (n:Nat) (s:RS) (w:World) (hE:Env E w) (hp:RA E w b wd s) (hd:s.len<=10000000000000):
  Calls prog 209 #[.pointer (some ⟨b,0,none⟩),x,.int .i64 (n:Int)] w λe w'=>e=.returned (.string ⟨(raT n s).1.toArray⟩)/\RA E w' b wd (raT n s).2/\Tch (λk=>k=b) w w':=by
 obtain ⟨q,r,ok⟩:=s
 cases ok with
 | false=>
  obtain ⟨t,u,h1,h2⟩:=hp
  refine (Jc6 b none wd _ _ _ t u w h1).mono ?_
  rintro e w' ⟨rfl,rfl⟩
  refine ⟨by simp [raT],?_,Te _ _⟩
  have e:(raT n (q,r,false)).2=(q,r,false):=by simp [raT]
  rw [e]
  exact ⟨t,u,h1,h2⟩
 | true=>
  have hp':Jc w b none wd .nilIface (.rd q r):=hp
  by_cases hn:n<=r.length
  ·have e:raT n (q,r,true)=(r.take n,(q++r.take n,r.drop n,true)):=by simp [raT,hn]
   rw [e]
   exact Jc8 b wd x q r n w hp' hd hn
  ·have e:raT n (q,r,true)=([],(q,r,false)):=by simp [raT,hn]
   rw [e]
   exact (Jc7 E b wd x q r n w hE hp' hd (by omega)).mono λe w' ⟨k1,k2,k3⟩=>⟨k1,⟨_,_,k2,.base⟩,k3⟩
def raS (s:RS):List UInt8×RS:=raT (raN 2 s).1 (raN 2 s).2
theorem Jhl (s:RS):(raN 2 s).1<65536:=by
 unfold raN
 split
 ·have:=Jbc (s.2.1.take 2)
  rename_i h
  rw [QB,Nat.min_eq_left h.2] at this
  exact this
 ·show (0:Nat)<65536;omega
theorem Jku (E:Nat->Addr) (b:Nat) (hK:18<=b) (wd:Int) (s:RS) (w:World) (hE:Env E w) (hp:RA E w b wd s) (hd:s.len<=10000000000000):
  Calls prog 210 #[.pointer (some ⟨b,0,none⟩),.string ⟨#[]⟩] w λe w'=>e=.returned (.string ⟨(raS s).1.toArray⟩)/\RA E w' b wd (raS s).2/\Tch (λk=>k=b) w w':=by
 have HN:Hid (Calls prog 138 #[.pointer (some ⟨b,0,none⟩),.int .u64 0,.int .i64 2] w λe w'=>e=.returned (.int .u64 ((raN 2 s).1:Int))/\RA E w' b wd (raN 2 s).2/\Tch (λk=>k=b) w w'):=Jih E b wd 0 2 s w hE hp (by omega) hd
 have HT:Hid (∀w1,Tch (λk=>k=b) w w1->RA E w1 b wd (raN 2 s).2->Calls prog 209 #[.pointer (some ⟨b,0,none⟩),.string ⟨#[]⟩,.int .i64 ((raN 2 s).1:Int)] w1 λe w'=>e=.returned (.string ⟨(raS s).1.toArray⟩)/\RA E w' b wd (raS s).2/\Tch (λk=>k=b) w1 w'):=λw1 h1 h2=>
  JeN E b wd _ _ _ w1 (hE.tch h1 (λj hj=>by rw [hj];exact hK)) h2 (by rw [Jhm];exact hd)
 have h2:IntKind.i64.wrap ((raN 2 s).1:Int)=((raN 2 s).1:Int):=JC _ (by omega) (by have:=Jhl s;omega)
 clear hp hE hd
 generalize (raN 2 s).1=n at *
 generalize (raN 2 s).2=s1 at *
 generalize (⟨(raS s).1.toArray⟩:BA)=z at *
 generalize (raS s).2=s2 at *
 go_enter func210,ntmps210
 go_wp2_with fail
 refine HN.o.mono ?_
 rintro _ w1 ⟨rfl,hr1,ht1⟩
 have HR1:Hid (RA _ _ _ _ _):=hr1
 have HT1:Hid (Tch _ w w1):=ht1
 clear hr1 ht1 HN
 go_wp2_with fail
 refine (HT.o w1 HT1.o HR1.o).mono ?_
 rintro _ w2 ⟨rfl,hr2,ht2⟩
 have HR2:Hid (RA _ _ _ _ _):=hr2
 have HT2:Hid (Tch (λk=>k=b) w w2):=HT1.o.trans ht2 (λ_ h=>.inl h)
 clear hr2 ht2 HT HR1
 go_wp2
 go_ret
 exact ⟨rfl,HR2.o,HT2.o⟩
theorem Jkn (b:Nat) (wd:Int) (e:Value) (q r:List UInt8) (w:World) (hp:Jc w b none wd e (.rd q r)):
  Calls prog 383 #[.pointer (some ⟨b,0,none⟩)] w λe w'=>e=.returned (.int .i64 (q.length:Int))/\w=w':=by
 have c4:w.cell? ⟨b,4,none⟩=some (.int .i64 (q.length:Int)):=Ja hp.2
 clear hp
 go_enter func383,ntmps383
 go_wp2
 go_ret
 exact ⟨rfl,rfl⟩
def raM (k:Nat) (s:RS):RS:=if (raT 4 s).1=(dgW 4 (s.1.drop k)).data.toList then (raT 4 s).2 else ((raT 4 s).2.1,(raT 4 s).2.2.1,false)
theorem RA.refused (E:Nat->Addr) (b:Nat) (wd:Int) (s:RS) (x:BA) (w:World) (hE:Env E w) (hp:RA E w b wd s):
  Calls prog 200 #[.pointer (some ⟨b,0,none⟩),.string x] w λe w'=>e=.returned (.tuple #[])/\RA E w' b wd (s.1,s.2.1,false)/\Tch (λk=>k=b) w w':=by
 obtain ⟨q,r,ok⟩:=s
 cases ok with
 | false=>
  obtain ⟨t,u,h1,h2⟩:=hp
  refine (ZU b none wd _ _ t u w h1).mono ?_
  rintro e w' ⟨rfl,rfl⟩
  exact ⟨rfl,⟨t,u,h1,h2⟩,Te _ _⟩
 | true=>
  refine (JaR E b none wd x (.rd q r) w hE hp).mono ?_
  rintro e w' ⟨rfl,h1,h2,h3⟩
  exact ⟨rfl,⟨_,_,h1,h2⟩,h3⟩
theorem JmN (E:Nat->Addr) (b:Nat) (hK:18<=b) (wd:Int) (k:Nat) (s:RS) (hk:k<=s.1.length) (hl:(s.1.drop k).length<=1000000) (w:World) (hE:Env E w) (hp:RA E w b wd s) (hd:s.len<=10000000000000):
  Calls prog 211 #[.pointer (some ⟨b,0,none⟩),.int .i64 (k:Int)] w λe w'=>e=.returned (.tuple #[])/\RA E w' b wd (raM k s)/\Tch (λk=>k=b) w w':=by
 obtain ⟨er,hpo⟩:=hp.port
 have c0:w.cell? ⟨b,0,none⟩=some (.iface 170 (.pointer (some ⟨b,0,none⟩))):=Ja hpo.2
 have hm:=Jdo ⟨b,0,none⟩
 obtain ⟨dz,hdz⟩:∃dz:BA,dz=⟨(s.1.drop k).toArray⟩:=⟨_,rfl⟩
 obtain ⟨sm,hsm⟩:∃sm:BA,sm=dgW 4 (s.1.drop k):=⟨_,rfl⟩
 have HSI:Hid (Calls prog 384 #[.pointer (some ⟨b,0,none⟩),.int .i64 (k:Int)] w λe w'=>e=.returned (.string dz)/\Tch NoB w w'):=by
  rw [hdz]
  exact (JfF b wd er s.1 s.2.1 k w hpo hk).mono λe w' ⟨h1,n,h2⟩=>⟨h1,by rw [h2];exact Td _ _ _⟩
 have HOF:Hid (∀w1,Tch NoB w w1->Calls prog 130 #[.int .i64 4,.string dz] w1 λe w'=>e=.returned (.string sm)/\Tch NoB w1 w'):=λw1 hT=>by
  rw [hdz,hsm]
  exact ZQ E 4 ⟨(s.1.drop k).toArray⟩ w1 (hE.tch hT noE) (by omega) (by omega) (by rw [Ju];omega)
 have HT:Hid (∀w1,Tch NoB w w1->Calls prog 209 #[.pointer (some ⟨b,0,none⟩),.string sm,.int .i64 4] w1 λe w'=>e=.returned (.string ⟨(raT 4 s).1.toArray⟩)/\RA E w' b wd (raT 4 s).2/\Tch (λk=>k=b) w w'):=λw1 hT=>
  (JeN E b wd _ 4 s w1 (hE.tch hT noE) (hp.next hT) hd).mono λe w' ⟨k1,k2,k3⟩=>⟨k1,k2,(hT.mono noE).trans k3 (λ_ h=>.inl h)⟩
 have HRF:Hid (∀w1,Tch (λk=>k=b) w w1->RA E w1 b wd (raT 4 s).2->∀x,Calls prog 200 #[.pointer (some ⟨b,0,none⟩),.string x] w1 λe w'=>e=.returned (.tuple #[])/\RA E w' b wd ((raT 4 s).2.1,(raT 4 s).2.2.1,false)/\Tch (λk=>k=b) w1 w'):=λw1 h1 h2 x=>
  RA.refused E b wd _ x w1 (hE.tch h1 (λj hj=>by rw [hj];exact hK)) h2
 have HM:Hid (((⟨(raT 4 s).1.toArray⟩:BA)=sm->raM k s=(raT 4 s).2)/\(¬(⟨(raT 4 s).1.toArray⟩:BA)=sm->raM k s=((raT 4 s).2.1,(raT 4 s).2.2.1,false))):=by
  have hx:(⟨(raT 4 s).1.toArray⟩:BA)=sm↔(raT 4 s).1=(dgW 4 (s.1.drop k)).data.toList:=by
   rw [hsm]
   constructor
   ·intro h;rw [<-h]
   ·intro h;rw [h]
  exact ⟨λh=>by unfold raM;rw [if_pos (hx.1 h)],λh=>by unfold raM;rw [if_neg (λe=>h (hx.2 e))]⟩
 clear hE hp hpo hsm hdz hd hl hk
 generalize (⟨(raT 4 s).1.toArray⟩:BA)=tx at *
 go_enter func211,ntmps211
 go_wp2_with fail
 refine HSI.o.mono ?_
 rintro _ w1 ⟨rfl,ht1⟩
 have HT1:Hid (Tch _ w w1):=ht1
 clear ht1 HSI
 go_wp2_with fail
 refine (HOF.o w1 HT1.o).mono ?_
 rintro _ w2 ⟨rfl,ht2⟩
 have HT2:Hid (Tch NoB w w2):=HT1.o.go ht2
 clear ht2 HOF HT1
 go_wp2_with fail
 refine (HT.o w2 HT2.o).mono ?_
 rintro _ w3 ⟨rfl,hr3,ht3⟩
 have HR3:Hid (RA _ _ _ _ _):=hr3
 have HT3:Hid (Tch (λk=>k=b) w w3):=ht3
 clear hr3 ht3 HT HT2
 by_cases hE:tx=sm
 ·have HE:Hid (raM k s=_):=HM.o.1 hE
  subst hE
  clear HM
  go_wp2
  refine bodyPost_end (v:=.tuple #[]) (results_none results211 _ _ _) rfl ⟨rfl,by rw [HE.o];exact HR3.o,HT3.o⟩
 ·have HE:Hid (raM k s=_):=HM.o.2 hE
  have hE2:(tx.toList == sm.toList)=false:=JlP hE
  clear HM
  go_wp2_with fail
  refine (HRF.o w3 HT3.o HR3.o _).mono ?_
  rintro _ w4 ⟨rfl,hr4,ht4⟩
  have HR4:Hid (RA _ _ _ _ _):=hr4
  have HT4:Hid (Tch (λk=>k=b) w w4):=HT3.o.trans ht4 (λ_ h=>.inl h)
  clear hr4 ht4 HRF HR3 HT3
  go_wp2
  refine bodyPost_end (v:=.tuple #[]) (results_none results211 _ _ _) rfl ⟨rfl,by rw [HE.o];exact HR4.o,HT4.o⟩

theorem Jl5 {w:World} {cb wd fl r base:Nat} {bs:List BV} {lv:Value} (h:Jt w cb wd fl r bs lv) (lg:List UInt8) (hl:JU base w lv lg):
  Calls prog 60 #[.pointer (some ⟨cb,0,none⟩)] w λe w'=>e=.returned (.string ⟨lg.toArray⟩)/\Tch NoB w w':=by
 have c3:w.cell? ⟨cb,3,none⟩=some lv:=Ja h.row
 have hst0:=Xu (P:=prog) (w:=w) (l:=lg) hl.bs 52 9 5 underlying52 underlying5 underlying9
 obtain ⟨a,c,rfl⟩:=hl.bs.shape
 clear hl h
 generalize (⟨lg.toArray⟩:BA)=r at *
 generalize (bc lg).length=n at *
 go_enter func60,ntmps60
 go_wp2
 go_ret
 exact ⟨rfl,Te _ _⟩
theorem fLog {w:World} {lb cb:Nat} (hl:w.cell? ⟨lb,0,none⟩=some (.pointer (some ⟨cb,0,none⟩))) (s:BA) (h:Calls prog 60 #[.pointer (some ⟨cb,0,none⟩)] w λe w'=>e=.returned (.string s)/\Tch NoB w w'):
  Calls prog 31 #[.pointer (some ⟨lb,0,none⟩)] w λe w'=>e=.returned (.string s)/\Tch NoB w w':=by
 have H:Hid (Calls _ _ _ _ _):=h
 clear h
 go_enter func31,ntmps31
 go_wp2_with fail
 refine H.out.mono ?_
 rintro _ w1 ⟨rfl,ht⟩
 have HT:Hid (Tch _ w w1):=ht
 clear ht H
 go_wp2
 go_ret
 exact ⟨rfl,HT.o⟩
theorem Je3 (n k:Nat) (h:n<2 ^ (8 * k)):numL (beL n k k)=n:=by rw [Jas n k h k (Ql _),Nat.sub_self];simp
theorem JjH (b:Nat) (wd:Int) (n:Nat) (hn:n<2 ^ 31) (w:World) (hp:Jc w b none wd .nilIface (.rd [] (beL n 4 4))):
  Calls prog 157 #[.pointer (some ⟨b,0,none⟩),.int .i64 0] w λe w'=>e=.returned (.int .i64 (n:Int))/\Jc w' b none wd .nilIface (.rd (beL n 4 4) [])/\Tch (λk=>k=b) w w':=by
 have hb:(beL n 4 4).length=4:=Je _ _ _
 have HN:Hid (Calls prog 138 #[.pointer (some ⟨b,0,none⟩),.int .u64 0,.int .i64 4] w λe w'=>e=.returned (.int .u64 (n:Int))/\Jc w' b none wd .nilIface (.rd (beL n 4 4) [])/\Tch (λk=>k=b) w w'):=by
  have:=YS b wd 0 [] (beL n 4 4) 4 w hp (by rw [hb];simp) (by omega) (by omega)
  rw [QQ (by omega),List.drop_eq_nil_of_le (by omega),Je3 n 4 (by omega),List.nil_append] at this
  exact this
 have hu:IntKind.u64.wrap (0:Int)=0:=rfl
 have hi:IntKind.i64.wrap (n:Int)=(n:Int):=by simp [IntKind.wrap,IntKind.bits,IntKind.signed];omega
 clear hp hb
 go_enter func157,ntmps157
 go_wp2_with fail
 refine HN.o.mono ?_
 rintro _ w1 ⟨rfl,h⟩
 have H:Hid (Jc _ _ _ _ _ _/\Tch _ _ _):=h
 clear h HN
 go_wp2
 go_ret
 exact ⟨rfl,H.out⟩
theorem Jdr {w:World} {cb wd:Nat} (hc:w.cell? ⟨cb,0,none⟩=some (.int .i64 (wd:Int))) (n:Nat) (hn:n<2 ^ 31) (Q:World->World->Prop) (h:∀W,Tch NoB w W->Calls prog 56 #[.pointer (some ⟨cb,0,none⟩),.int .i64 (n:Int)] W λe w'=>e=.returned .nilIface/\Q W w'):
  Calls prog 161 #[.pointer (some ⟨cb,0,none⟩),.string ⟨(beL n 4 4).toArray⟩] w λe w'=>e=.returned .nilIface/\∃W,Tch NoB w W/\Q W w':=by
 have HNR:Hid (Calls prog 85 #[.int .i64 (wd:Int),.string ⟨(beL n 4 4).toArray⟩] w λe w'=>e=.returned (.pointer (some ⟨w.heap.size,0,none⟩))/\Jc w' w.heap.size none (wd:Int) .nilIface (.rd [] (beL n 4 4))/\Tch NoB w w'):=Xj wd ⟨(beL n 4 4).toArray⟩ w
 have HFL:Hid (∀W,Jc W w.heap.size none (wd:Int) .nilIface (.rd [] (beL n 4 4))->Calls prog 157 #[.pointer (some ⟨w.heap.size,0,none⟩),.int .i64 0] W λe w'=>e=.returned (.int .i64 (n:Int))/\Jc w' w.heap.size none (wd:Int) .nilIface (.rd (beL n 4 4) [])/\Tch (λk=>k=w.heap.size) W w'):=λW hp=>JjH w.heap.size wd n hn W hp
 have HDN:Hid (∀W,Jc W w.heap.size none (wd:Int) .nilIface (.rd (beL n 4 4) [])->Calls prog 88 #[.pointer (some ⟨w.heap.size,0,none⟩)] W λe w'=>e=.returned .nilIface/\Tch NoB W w'):=λW hp=>Jan w.heap.size wd (beL n 4 4) W hp
 have HP:Hid (∀W,Tch NoB w W->Calls prog 56 #[.pointer (some ⟨cb,0,none⟩),.int .i64 (n:Int)] W λe w'=>e=.returned .nilIface/\Q W w'):=h
 clear h hn
 generalize (⟨(beL n 4 4).toArray⟩:BA)=s at *
 generalize beL n 4 4=bl at *
 go_enter func161,ntmps161
 go_wp2_with fail
 refine HNR.o.mono ?_
 rintro _ w1 ⟨rfl,hp1,ht1⟩
 have HP1:Hid (Jc _ _ _ _ _ _):=hp1
 have HT1:Hid (Tch NoB w w1):=ht1
 clear hp1 ht1 HNR hc
 go_wp2_with fail
 refine (HFL.o w1 HP1.o).mono ?_
 rintro _ w2 ⟨rfl,hp2,ht2⟩
 have HP2:Hid (Jc _ _ _ _ _ _):=hp2
 have HT2:Hid (Tch NoB w w2):=HT1.o.trans ht2 (λj hj=>.inr (by omega))
 clear hp2 ht2 HFL HP1 HT1
 go_wp2_with fail
 refine (HDN.o w2 HP2.o).mono ?_
 rintro _ w3 ⟨rfl,ht3⟩
 have HT3:Hid (Tch NoB w w3):=HT2.o.go ht3
 clear ht3 HDN HP2 HT2
 go_wp2_with fail
 refine (HP.o w3 HT3.o).mono ?_
 rintro _ w4 ⟨rfl,hq⟩
 have HQ:Hid (Q w3 w4):=hq
 clear hq HP
 go_wp2
 go_ret
 exact ⟨rfl,w3,HT3.o,HQ.o⟩

def raR (s:RS):List UInt8×List UInt8×RS:=((raT 1 s).1,(raS (raT 1 s).2).1,raM s.1.length (raS (raT 1 s).2).2)
theorem Jhn (n:Nat) (s:RS):∃x,(raT n s).2.1=s.1++x/\x.length<=n:=by
 unfold raT
 split
 ·exact ⟨_,rfl,by rw [QB];omega⟩
 ·exact ⟨[],by simp,by simp⟩
theorem Jly (n:Nat) (s:RS):∃x,(raN n s).2.1=s.1++x/\x.length<=n:=by
 unfold raN
 split
 ·exact ⟨_,rfl,by rw [QB];omega⟩
 ·exact ⟨[],by simp,by simp⟩
theorem JlB (s:RS):∃x,(raS s).2.1=s.1++x/\x.length<=65538:=by
 obtain ⟨x,h1,h2⟩:=Jly 2 s
 obtain ⟨y,h3,h4⟩:=Jhn (raN 2 s).1 (raN 2 s).2
 have:=Jhl s
 exact ⟨x++y,by unfold raS;rw [h3,h1,Qs],by rw [Qe];omega⟩
theorem JlA (s:RS):(raS s).2.len=s.len:=by unfold raS;rw [JeC,Jhm]
theorem Jix (E:Nat->Addr) (b:Nat) (hK:18<=b) (wd:Int) (s:RS) (w:World) (hE:Env E w) (hp:RA E w b wd s) (hd:s.len<=10000000000000):
  Calls prog 141 #[.pointer (some ⟨b,0,none⟩),.agg #[.string ⟨#[]⟩,.string ⟨#[]⟩]] w λe w'=>e=.returned (.agg #[.string ⟨(raR s).1.toArray⟩,.string ⟨(raR s).2.1.toArray⟩])/\RA E w' b wd (raR s).2.2/\Tch (λk=>k=b) w w':=by
 obtain ⟨W,hW⟩:∃(W:World),W=(w.alloc (.cells #[.string ⟨#[]⟩,.string ⟨#[]⟩] 195)).alloc (.cells #[.string ⟨#[]⟩,.string ⟨#[]⟩] 195):=⟨_,rfl⟩
 have tW:Tch NoB w W:=by rw [hW];exact Tch.allocs _ _ _ _
 have hbx0:W.heap[w.heap.size]? =some (.cells #[.string ⟨#[]⟩,.string ⟨#[]⟩] 195):=by rw [hW];exact heap_alloc2_old _ _ _
 have hbx1:W.heap[w.heap.size+1]? =some (.cells #[.string ⟨#[]⟩,.string ⟨#[]⟩] 195):=by rw [hW];exact heap_alloc2_new _ _ _
 obtain ⟨er,hpo⟩:=(hp.next tW).port
 have hbl:b<w.heap.size:=by obtain ⟨_,h⟩:=hp.port;exact h.lt
 have c0:W.cell? ⟨b,0,none⟩=some (.iface 170 (.pointer (some ⟨b,0,none⟩))):=Ja hpo.2
 have hm:=Jdn ⟨b,0,none⟩
 have hEW:=hE.tch tW noE
 have HEN:Hid (∀V,Tch (λk=>k=b) W V->Env E V):=λV hT=>hEW.tch hT (λj hj=>by rw [hj];exact hK)
 have HPL:Hid (Calls prog 383 #[.pointer (some ⟨b,0,none⟩)] W λe w'=>e=.returned (.int .i64 (s.1.length:Int))/\W=w'):=Jkn b wd er s.1 s.2.1 W hpo
 have HTX:Hid (Calls prog 209 #[.pointer (some ⟨b,0,none⟩),.string ⟨#[]⟩,.int .i64 1] W λe w'=>e=.returned (.string ⟨(raT 1 s).1.toArray⟩)/\RA E w' b wd (raT 1 s).2/\Tch (λk=>k=b) W w'):=JeN E b wd _ 1 s W hEW (hp.next tW) hd
 have HSZ:Hid (∀V,Tch (λk=>k=b) W V->RA E V b wd (raT 1 s).2->Calls prog 210 #[.pointer (some ⟨b,0,none⟩),.string ⟨#[]⟩] V λe w'=>e=.returned (.string ⟨(raS (raT 1 s).2).1.toArray⟩)/\RA E w' b wd (raS (raT 1 s).2).2/\Tch (λk=>k=b) V w'):=λV hT hr=>Jku E b hK wd _ V (HEN.o V hT) hr (by rw [JeC];exact hd)
 have HSM:Hid (∀V,Tch (λk=>k=b) W V->RA E V b wd (raS (raT 1 s).2).2->Calls prog 211 #[.pointer (some ⟨b,0,none⟩),.int .i64 (s.1.length:Int)] V λe w'=>e=.returned (.tuple #[])/\RA E w' b wd (raR s).2.2/\Tch (λk=>k=b) V w'):=λV hT hr=>by
  obtain ⟨x,h1,h2⟩:=Jhn 1 s
  obtain ⟨y,h3,h4⟩:=JlB (raT 1 s).2
  have e:(raS (raT 1 s).2).2.1=s.1++(x++y):=by rw [h3,h1,Qs]
  exact JmN E b hK wd s.1.length _ (by rw [e,Qe];omega) (by rw [e,List.drop_left,Qe];omega) V (HEN.o V hT) hr (by rw [JlA,JeC];exact hd)
 have HBX:Hid (∀V,Tch (λk=>k=b) W V->V.heap[w.heap.size]? =some (.cells #[.string ⟨#[]⟩,.string ⟨#[]⟩] 195)/\V.heap[w.heap.size+1]? =some (.cells #[.string ⟨#[]⟩,.string ⟨#[]⟩] 195)):=λV hT=>⟨(hT.block _ (Jb hbx0) (by omega)).trans hbx0,(hT.block _ (Jb hbx1) (by omega)).trans hbx1⟩
 have e1:((raR s).1,(raR s).2.1)=((raT 1 s).1,(raS (raT 1 s).2).1):=rfl
 have HE1:Hid ((raR s).1=(raT 1 s).1/\(raR s).2.1=(raS (raT 1 s).2).1):=⟨rfl,rfl⟩
 have HTW:Hid (Tch NoB w W):=tW
 have HW:Hid (W=_):=hW
 have b0:W.cell? ⟨w.heap.size,0,none⟩=some (.string ⟨#[]⟩):=Ja hbx0
 rw [HE1.o.1,HE1.o.2]
 clear hE hEW hp hpo hd tW hbx0 hbx1 hW e1 HE1
 generalize (⟨(raT 1 s).1.toArray⟩:BA)=lt at *
 generalize (⟨(raS (raT 1 s).2).1.toArray⟩:BA)=ct at *
 generalize (raT 1 s).2=s1 at *
 generalize (raS s1).2=s2 at *
 generalize (raR s).2.2=s3 at *
 generalize s.1.length=pl at *
 go_enter func141,ntmps141
 go_upto_region 1 with fail
 rw [<-HW.o]
 go_wp2_with fail
 refine HPL.o.mono ?_
 rintro _ _ ⟨rfl,rfl⟩
 go_wp2_with fail
 refine HTX.o.mono ?_
 rintro _ w1 ⟨rfl,hr1,ht1⟩
 have HR1:Hid (RA _ _ _ _ _):=hr1
 have HT1:Hid (Tch (λk=>k=b) W w1):=ht1
 have c1:w1.cell? ⟨w.heap.size,1,none⟩=some (.string ⟨#[]⟩):=Ja (HBX.o w1 ht1).1
 clear hr1 ht1 HTX HPL c0 b0
 go_wp2_with fail
 refine (HSZ.o w1 HT1.o HR1.o).mono ?_
 rintro _ w2 ⟨rfl,hr2,ht2⟩
 have HR2:Hid (RA _ _ _ _ _):=hr2
 have HT2:Hid (Tch (λk=>k=b) W w2):=HT1.o.trans ht2 (λ_ h=>.inl h)
 clear hr2 ht2 HSZ HR1 HT1 c1
 go_wp2_with fail
 refine (HSM.o w2 HT2.o HR2.o).mono ?_
 rintro _ w4 ⟨rfl,hr4,ht4⟩
 have HR4:Hid (RA _ _ _ _ _):=hr4
 have HT4:Hid (Tch (λk=>k=b) W w4):=HT2.o.trans ht4 (λ_ h=>.inl h)
 have rR:=(HBX.o w4 HT4.o).2
 have e0:w4.cell? ⟨w.heap.size+1,0,none⟩=some (.string ⟨#[]⟩):=Ja rR
 have e1:w4.cell? ⟨w.heap.size+1,1,none⟩=some (.string ⟨#[]⟩):=Ja rR
 have fR:∀j,w4.frozen? ⟨w.heap.size+1,j,none⟩=false:=λj=>Qg _ _ _ _ _ rR
 have RR:Hid (_=_):=rR
 clear hr4 ht4 HSM HR2 HT2 rR
 go_wp2
 rw [Jhr _ _ _ _ _ _ _ RR.out]
 have hne:¬w.heap.size+1=b:=by omega
 have tS:=Ts w4 (w.heap.size+1) #[.string lt,.string ct]
 refine QJ (v:=.agg #[.string lt,.string ct]) (Qq results141 _ _ (w.heap.size+1) _ _ (0,0) _ rfl (Qi _ _ _ _ _ _ RR.out) underlying195 rfl (by kernel_rfl)) rfl ⟨rfl,HR4.o.tch tS (λe=>hne e.symm) (λp s u hpl e=>?_),((HTW.o.mono noE).trans HT4.o (λ_ h=>.inl h)).trans tS (λj hj=>.inr (by omega))⟩
 rw [e,RR.out] at hpl
 simp at hpl
theorem Jiu (q lt ct rest:List UInt8) (hl:lt.length=1) (hc:ct.length<65536):raR (q,recB lt ct++rest,true)=(lt,ct,(q++recB lt ct,rest,true)):=by
 obtain ⟨g,hg⟩:∃g,(dgW 4 (recA lt ct)).data.toList=g:=⟨_,rfl⟩
 have hB:recB lt ct=recA lt ct++g:=by unfold recB;rw [hg]
 have hs:g.length=4:=by rw [<-hg,QA];exact Jq 4 (by omega) (recA lt ct)
 have hb:(beL ct.length 2 2).length=2:=Je _ _ _
 have hn:numL (beL ct.length 2 2)=ct.length:=by rw [Jas ct.length 2 (by omega) 2 (Ql _)];simp
 have e0:recB lt ct++rest=lt++(beL ct.length 2 2++(ct++(g++rest))):=by rw [hB];simp only [recA,Qs]
 have t1:raT 1 (q,recB lt ct++rest,true)=(lt,(q++lt,beL ct.length 2 2++(ct++(g++rest)),true)):=by
  rw [e0]
  unfold raT
  dsimp only
  rw [if_pos ⟨rfl,by rw [Qe];omega⟩,<-hl,List.take_left,List.drop_left]
 have t2:raN 2 (q++lt,beL ct.length 2 2++(ct++(g++rest)),true)=(ct.length,(q++lt++beL ct.length 2 2,ct++(g++rest),true)):=by
  unfold raN
  dsimp only
  have ht:(beL ct.length 2 2++(ct++(g++rest))).take 2=beL ct.length 2 2:=List.take_left' hb
  have hd:(beL ct.length 2 2++(ct++(g++rest))).drop 2=ct++(g++rest):=List.drop_left' hb
  rw [if_pos ⟨rfl,by rw [Qe];omega⟩,ht,hd,hn]
 have t3:raS (q++lt,beL ct.length 2 2++(ct++(g++rest)),true)=(ct,(q++lt++beL ct.length 2 2++ct,g++rest,true)):=by
  unfold raS
  rw [t2]
  unfold raT
  dsimp only
  rw [if_pos ⟨rfl,by rw [Qe];omega⟩,List.take_left,List.drop_left]
 have t4:raT 4 (q++lt++beL ct.length 2 2++ct,g++rest,true)=(g,(q++lt++beL ct.length 2 2++ct++g,rest,true)):=by
  unfold raT
  dsimp only
  have ht:(g++rest).take 4=g:=List.take_left' hs
  have hd:(g++rest).drop 4=rest:=List.drop_left' hs
  rw [if_pos ⟨rfl,by rw [Qe];omega⟩,ht,hd]
 have e:(q++lt++beL ct.length 2 2++ct).drop q.length=recA lt ct:=by
  rw [show q++lt++beL ct.length 2 2++ct=q++recA lt ct by simp only [recA,Qs],List.drop_left]
 have hQ:q++lt++beL ct.length 2 2++ct++g=q++recB lt ct:=by rw [hB];simp only [recA,Qs]
 have t5:raM q.length (q++lt++beL ct.length 2 2++ct,g++rest,true)=(q++recB lt ct,rest,true):=by
  unfold raM
  rw [t4]
  refine (if_pos ?_).trans ?_
  ·rw [e,hg]
  ·rw [hQ]
 have e1:(raR (q,recB lt ct++rest,true))=((raT 1 (q,recB lt ct++rest,true)).1,(raS (raT 1 (q,recB lt ct++rest,true)).2).1,raM q.length (raS (raT 1 (q,recB lt ct++rest,true)).2).2):=rfl
 rw [e1,t1]
 show (lt,(raS (q++lt,beL ct.length 2 2++(ct++(g++rest)),true)).1,raM q.length (raS (q++lt,beL ct.length 2 2++(ct++(g++rest)),true)).2)=_
 rw [t3]
 show (lt,ct,raM q.length (q++lt++beL ct.length 2 2++ct,g++rest,true))=_
 rw [t5]
theorem Jbh (n:Nat) (q r:List UInt8):raT n (q,r,false)=([],(q,r,false)):=by simp [raT]
theorem Jlx (n:Nat) (q r:List UInt8):raN n (q,r,false)=(0,(q,r,false)):=by simp [raN]
theorem JeB (k:Nat) (s:RS) (h:(raT 4 s).2.2.2=false):(raM k s).2.2=false:=by
 unfold raM
 split
 ·exact h
 ·rfl
theorem Jlz (q r:List UInt8):(raS (q,r,false)).2=(q,r,false):=by unfold raS;rw [Jlx,Jbh]
theorem JcL (q r lt ct:List UInt8) (hl:lt.length=1) (hc:ct.length<65536) (hp:r <+:recB lt ct) (hne:r.length<(recB lt ct).length):(raR (q,r,true)).2.2.2.2=false:=by
 obtain ⟨g,hg⟩:∃g,(dgW 4 (recA lt ct)).data.toList=g:=⟨_,rfl⟩
 have hB:recB lt ct=recA lt ct++g:=by unfold recB;rw [hg]
 have hs:g.length=4:=by rw [<-hg,QA];exact Jq 4 (by omega) (recA lt ct)
 have hb:(beL ct.length 2 2).length=2:=Je _ _ _
 have hn:numL (beL ct.length 2 2)=ct.length:=by rw [Jas ct.length 2 (by omega) 2 (Ql _)];simp
 obtain ⟨z,hz⟩:=hp
 have hR:recB lt ct=lt++(beL ct.length 2 2++(ct++g)):=by rw [hB];simp only [recA,Qs]
 have hlen:(recB lt ct).length=7+ct.length:=by rw [hR];simp only [Qe];omega
 show (raM q.length (raS (raT 1 (q,r,true)).2).2).2.2=false
 by_cases h1:1<=r.length
 ·obtain ⟨r1,hr1⟩:∃r1,r=lt++r1:=⟨r.drop 1,by
   have:r.take 1=lt:=by
    have h:=congrArg (List.take 1) hz
    rw [List.take_append_of_le_length h1,hR,List.take_left' hl] at h
    exact h
   rw [<-this,List.take_append_drop]⟩
  subst hr1
  rw [Qs,hR,List.append_cancel_left_eq] at hz
  have t1:raT 1 (q,lt++r1,true)=(lt,(q++lt,r1,true)):=by
   unfold raT;dsimp only
   rw [if_pos ⟨rfl,h1⟩,<-hl,List.take_left,List.drop_left]
  rw [t1]
  dsimp only
  rw [Qe] at hne h1
  by_cases h2:2<=r1.length
  ·obtain ⟨r2,hr2⟩:∃r2,r1=beL ct.length 2 2++r2:=⟨r1.drop 2,by
    have:r1.take 2=beL ct.length 2 2:=by
     have h:=congrArg (List.take 2) hz
     rw [List.take_append_of_le_length h2,List.take_left' hb] at h
     exact h
    rw [<-this,List.take_append_drop]⟩
   subst hr2
   rw [Qs,List.append_cancel_left_eq] at hz
   have t2:raN 2 (q++lt,beL ct.length 2 2++r2,true)=(ct.length,(q++lt++beL ct.length 2 2,r2,true)):=by
    unfold raN;dsimp only
    have ht:(beL ct.length 2 2++r2).take 2=beL ct.length 2 2:=List.take_left' hb
    have hd:(beL ct.length 2 2++r2).drop 2=r2:=List.drop_left' hb
    rw [if_pos ⟨rfl,h2⟩,ht,hd,hn]
   unfold raS
   rw [t2]
   dsimp only
   rw [Qe] at hne h2
   by_cases h3:ct.length<=r2.length
   ·have t3:raT ct.length (q++lt++beL ct.length 2 2,r2,true)=(r2.take ct.length,(q++lt++beL ct.length 2 2++r2.take ct.length,r2.drop ct.length,true)):=by
     unfold raT;dsimp only
     rw [if_pos ⟨rfl,h3⟩]
    rw [t3]
    dsimp only
    have t4:raT 4 (q++lt++beL ct.length 2 2++r2.take ct.length,r2.drop ct.length,true)=([],(q++lt++beL ct.length 2 2++r2.take ct.length,r2.drop ct.length,false)):=by
     unfold raT;dsimp only
     rw [if_neg (λe=>by have:=e.2;rw [List.length_drop] at this;omega)]
    exact JeB _ _ (by rw [t4])
   ·have t3:raT ct.length (q++lt++beL ct.length 2 2,r2,true)=([],(q++lt++beL ct.length 2 2,r2,false)):=by
     unfold raT;dsimp only
     rw [if_neg (λe=>h3 e.2)]
    rw [t3]
    exact JeB _ _ (by simp only [Jbh])
  ·have t2:raN 2 (q++lt,r1,true)=(0,(q++lt,r1,false)):=by
    unfold raN;dsimp only
    rw [if_neg (λe=>h2 e.2)]
   unfold raS
   rw [t2,Jbh]
   exact JeB _ _ (by simp only [Jbh])
 ·have t1:raT 1 (q,r,true)=([],(q,r,false)):=by
   unfold raT;dsimp only
   rw [if_neg (λe=>h1 e.2)]
  rw [t1,Jlz]
  exact JeB _ _ (by simp only [Jbh])

attribute [local go_sem] Oper.semAt_some

def Ya:Nat->List (List UInt8×List UInt8)->List (List UInt8×List UInt8×Nat)
 | _,[]=>[]
 | p,x :: r=>(x.1,x.2,p+(recB x.1 x.2).length) :: Ya (p+(recB x.1 x.2).length) r
abbrev JH (rs:List (List UInt8×List UInt8)):List UInt8:=rs.flatMap λx=>recB x.1 x.2
def JaP (x:List UInt8×List UInt8×Nat):Array Value:= #[.agg #[.string ⟨x.1.toArray⟩,.string ⟨x.2.1.toArray⟩],.int .i64 (x.2.2:Int)]
theorem YT:∀(rs:List (List UInt8×List UInt8)) (p:Nat),(Ya p rs).length=rs.length
 | [],_=>rfl
 | x :: r,p=>by rw [Ya,Qp,YT r];rfl
theorem JbE:∀(rs:List (List UInt8×List UInt8)) (p k:Nat) (hk:k<rs.length),(Ya p rs)[k]? =some (rs[k].1,rs[k].2,p+(JH (rs.take (k+1))).length)
 | [],_,k,hk=>by simp at hk
 | x :: r,p,0,_=>by simp [Ya]
 | x :: r,p,k+1,hk=>by
  rw [Ya,List.getElem?_cons_succ,JbE r _ k (by simpa using hk)]
  simp only [List.getElem_cons_succ,List.take_succ_cons,QG,Qe,Nat.add_assoc]
def atR (b:Nat) (w:World):Nat:=match w.cell? ⟨b,4,none⟩ with
 | some (.int _ z)=>z.toNat
 | _=>0
theorem Jjn {w:World} {b:Nat} {e:Value} {q r:List UInt8} {wd:Int} (h:Jc w b none wd e (.rd q r)):atR b w=q.length:=by
 have c4:w.cell? ⟨b,4,none⟩=some (.int .i64 (q.length:Int)):=Ja h.2
 unfold atR
 rw [c4]
 exact Int.toNat_natCast _
theorem Jb3 (s:BA) (w:World):Calls prog 99 #[.string s] w λe w'=>e=.returned (.func (.func 159) #[] #[.pointer (some ⟨w.heap.size,0,none⟩)])/\w'=w.alloc (.cells #[.string s] 9):=by
 have hmf:∀(fn:Fn) (first cap:Array Value) (w:World),(Instr.makeFunc fn first cap).run prog w=.ok (.func fn first cap) w:=λ_ _ _ _=>rfl
 go_enter func99,ntmps99
 go_wp2
 go_ret
 exact ⟨rfl,rfl⟩
theorem Jb2 (E : Nat -> Addr) (n : Nat) (hn : 2 <= n) (l Bl : Nat) (rs : List (List UInt8 × List UInt8)) (part : List UInt8) (hrs : ∀ x ∈ rs, x.1.length = 1 /\ x.2.length < 65536) (hpart : ∀ q, (raR (q, part, true)).2.2.2.2 = false) (hlen : (JH rs ++ part).length <= 10000000000000) (W : World) (hE : Env E W) (hb : W.cell? ⟨Bl, 0, none⟩ = some (.string ⟨(JH rs ++ part).toArray⟩))
    (S : Nat -> Prop) (hS : ∀ k, S k -> 18 <= k /\ k ≠ W.heap.size) (J : List (List UInt8 × List UInt8 × Nat) -> World -> Prop) (hJ : ∀ pre A B, J pre A -> Tch (λk => k = W.heap.size) A B -> J pre B)
    (hY : ∀ pre x V, pre ++ [x] <+: Ya 0 rs -> W.heap.size < V.heap.size -> J pre V -> YieldAt Fence.wide (n - 1) prog l (JaP x) V λe V' => e = .returned (.bool true) /\ J (pre ++ [x]) V' /\ Tch S V V') (h0 : J [] W) :
    CallsIn Fence.wide n prog 159 #[.func (.yield l) #[] #[], .pointer (some ⟨Bl, 0, none⟩)] W λe W' => (∃ v, e = .returned v) /\ J (Ya 0 rs) W' := by
  have hK : 18 <= W.heap.size := hE.size
  have HNR : Hid (Calls prog 85 #[.int .i64 4, .string ⟨(JH rs ++ part).toArray⟩] W λe w' => e = .returned (.pointer (some ⟨W.heap.size, 0, none⟩)) /\ Jc w' W.heap.size none 4 .nilIface (.rd [] (JH rs ++ part)) /\ Tch (λ_ => False) W w') := Xj 4 ⟨(JH rs ++ part).toArray⟩ W
  have HRC : Hid (∀ V q r, Env E V -> q.length + r.length <= 10000000000000 -> Jc V W.heap.size none 4 .nilIface (.rd q r) -> Calls prog 141 #[.pointer (some ⟨W.heap.size, 0, none⟩), .agg #[.string ⟨#[]⟩, .string ⟨#[]⟩]] V λe w' => e = .returned (.agg #[.string ⟨(raR (q, r, true)).1.toArray⟩, .string ⟨(raR (q, r, true)).2.1.toArray⟩]) /\ RA E w' W.heap.size 4 (raR (q, r, true)).2.2 /\ Tch (λk => k = W.heap.size) V w') := λV q r hEV hl hp => Jix E W.heap.size hK 4 (q, r, true) V hEV hp hl
  have HE : Hid (Env E W /\ 18 <= W.heap.size) := ⟨hE, hK⟩
  have HRS : Hid (∀ x ∈ rs, x.1.length = 1 /\ x.2.length < 65536) := hrs
  have HPA : Hid (∀ q, (raR (q, part, true)).2.2.2.2 = false) := hpart
  have HLE : Hid ((JH rs ++ part).length <= 10000000000000) := hlen
  have HS : Hid (∀ k, S k -> 18 <= k /\ k ≠ W.heap.size) := hS
  have HJ : Hid (∀ pre A B, J pre A -> Tch (λk => k = W.heap.size) A B -> J pre B) := hJ
  have HY : Hid (∀ pre x V, pre ++ [x] <+: Ya 0 rs -> W.heap.size < V.heap.size -> J pre V -> YieldAt Fence.wide (n - 1) prog l (JaP x) V λe V' => e = .returned (.bool true) /\ J (pre ++ [x]) V' /\ Tch S V V') := hY
  have HJ0 : Hid (J [] W) := h0
  clear hE hrs hpart hlen hS hJ hY h0 hK
  refine callsIn_of_wp func159 rfl trivial ?_ rfl
  simp only [ntmps159, List.size_toArray, Qp, Qv, Nat.reduceAdd, Nat.reduceSub, Array.replicate_succ, Array.replicate_zero, List.push_toArray, List.append_toArray, List.nil_append, List.cons_append]
  gi_wp2
  refine ⟨trivial, λ_ => by omega, (callsIn_wide.2 HNR.o).mono ?_⟩
  rintro _ W1 ⟨rfl, hp1, ht1⟩
  have HP1 : Hid (Jc W1 W.heap.size none 4 .nilIface (.rd [] (JH rs ++ part))) := hp1
  have HE1 : Hid (Env E W1) := HE.o.1.tch ht1 noE
  have HJ1 : Hid (J [] W1) := HJ.o _ _ _ HJ0.o (ht1.mono noE)
  clear hp1 ht1 HNR hb HJ0
  gi_wp2
  gi_loopw [] (λwr => ∃ p, p <= rs.length /\ Hid (Jc wr W.heap.size none 4 .nilIface (.rd (JH (rs.take p)) (JH (rs.drop p) ++ part))) /\ Hid (Env E wr) /\ Hid (J ((Ya 0 rs).take p) wr)) (λwr => (JH rs ++ part).length - atR W.heap.size wr)
  case atStart => exact ⟨0, Nat.zero_le _, HP1, HE1, HJ1⟩
  case round =>
    obtain ⟨p, hp, HPr, HEr, HJr⟩ := hrel
    have hlp : (JH (rs.take p)).length + (JH (rs.drop p) ++ part).length <= 10000000000000 := by
      have := HLE.o
      rw [Qe] at this ⊢
      have e : JH rs = JH (rs.take p) ++ JH (rs.drop p) := by unfold JH; rw [<- List.flatMap_append, List.take_append_drop]
      rw [e, Qe] at this
      omega
    have HRP : Hid (Calls prog 141 _ wr _) := HRC.o wr _ _ HEr.o hlp HPr.o
    by_cases hlt : p < rs.length
    · obtain ⟨lt, ct, hxe⟩ : ∃ lt ct, rs[p] = (lt, ct) := ⟨_, _, rfl⟩
      have hx := HRS.o rs[p] (Qx hlt)
      rw [hxe] at hx
      dsimp only at hx
      have hd : JH (rs.drop p) ++ part = recB lt ct ++ (JH (rs.drop (p + 1)) ++ part) := by
        rw [List.drop_eq_getElem_cons hlt, hxe]
        unfold JH
        rw [QG, Qs]
      have ht : JH (rs.take (p + 1)) = JH (rs.take p) ++ recB lt ct := by
        rw [QP hlt, hxe]
        unfold JH
        rw [List.flatMap_append]
        simp
      have hR : raR (JH (rs.take p), JH (rs.drop p) ++ part, true) = (lt, ct, (JH (rs.take (p + 1)), JH (rs.drop (p + 1)) ++ part, true)) := by
        rw [hd, Jiu _ _ _ _ hx.1 hx.2, ht]
      rw [hR] at HRP
      have HPX : Hid ((Ya 0 rs)[p]? = some (lt, ct, (JH (rs.take (p + 1))).length)) := by
        have := JbE rs 0 p hlt
        rw [Nat.zero_add, hxe] at this
        exact this
      have HGR : Hid ((JH (rs.take p)).length < (JH (rs.take (p + 1))).length) := by
        show (JH (rs.take p)).length < (JH (rs.take (p + 1))).length
        rw [ht, Qe, Yg]
        omega
      have HLT : Hid (p < rs.length) := hlt
      dsimp only at HRP
      clear hd ht hR hx hlp hxe hlt
      obtain ⟨z, hz⟩ : ∃ z, (JH (rs.take (p + 1))).length = z := ⟨_, rfl⟩
      rw [hz] at HPX HGR
      have HZ : Hid ((JH (rs.take (p + 1))).length = z) := hz
      have HEN : Hid (JaP (lt, ct, z) = #[.agg #[.string ⟨lt.toArray⟩, .string ⟨ct.toArray⟩], .int .i64 (z : Int)]) := rfl
      clear hz
      generalize (⟨lt.toArray⟩ : BA) = ls at *
      generalize (⟨ct.toArray⟩ : BA) = cs at *
      gi_wp2
      refine ⟨trivial, λ_ => by omega, (callsIn_wide.2 HRP.o).mono ?_⟩
      rintro _ W2 ⟨rfl, hra, ht2⟩
      have hp2 : Jc W2 W.heap.size none 4 .nilIface (.rd (JH (rs.take (p + 1))) (JH (rs.drop (p + 1)) ++ part)) := hra
      obtain ⟨W3, hW3⟩ : ∃ (W3 : World), W3 = W2.alloc (.cells #[.string ls, .string cs] 195) := ⟨_, rfl⟩
      have t3 : Tch (λ_ => False) W2 W3 := by rw [hW3]; exact Ta _ _ _
      have hr3 : W3.heap[W2.heap.size]? = some (.cells #[.string ls, .string cs] 195) := by rw [hW3]; exact Qf _ _
      have hp3 := hp2.tch t3 (λh => h) (λ_ h => by cases h)
      have tr3 : Tch (λk => k = W.heap.size) wr W3 := ht2.trans t3 noE
      have c2 : W3.cell? ⟨W.heap.size, 2, none⟩ = some .nilIface := Ja hp3.2
      have c4 : W3.cell? ⟨W.heap.size, 4, none⟩ = some (.int .i64 (z : Int)) := by rw [<- HZ.o]; exact Ja hp3.2
      have d0 : W3.cell? ⟨W2.heap.size, 0, none⟩ = some (.string ls) := Ja hr3
      have d1 : W3.cell? ⟨W2.heap.size, 1, none⟩ = some (.string cs) := Ja hr3
      have htk : (Ya 0 rs).take p ++ [(lt, ct, z)] = (Ya 0 rs).take (p + 1) := (by rw [List.take_add_one (l := Ya 0 rs), HPX.o]; rfl)
      have hYY := HY.o _ (lt, ct, z) W3.drew (by rw [htk]; exact List.take_prefix _ _) (hp3.lt) (HJ.o _ _ _ HJr.o (tr3.trans (Td (λk => k = W.heap.size) W3 1) (λ_ h => .inl h)))
      rw [HEN.o, htk] at hYY
      obtain ⟨fn, tmps, assign, body, hy, hR⟩ := hYY
      have HR : Hid (RoundIn _ _ _ _ _ _ _ _ _ _) := hR
      have HW3 : Hid (W3 = _) := hW3
      have HP3 : Hid (Jc W3 _ _ _ _ _) := hp3
      have HE3 : Hid (Env E W3) := HEr.o.tch tr3 (λj hj => by rw [hj]; exact HE.o.2)
      clear hW3 t3 hr3 hp3 tr3 hra hp2 ht2 htk hR HRP HJr HEr HRC
      gi_wp2
      rw [<- HW3.o]
      gi_region_with (refine ⟨λ_ => by omega, HR.o.mono ?_⟩; rintro _ W4 ⟨rfl, hJ4, hT4⟩; have HJ4 : Hid (J _ W4) := hJ4; have HT4 : Hid (Tch S W3.drew W4) := hT4; clear hJ4 hT4)
      all_goals simp only [Act.put, List.getElem_toArray, List.getElem_cons_succ, List.getElem_cons_zero, Qa, Qb, Qc]
      all_goals gi_wp2
      all_goals go_roundw
      all_goals first
        | exact ⟨p + 1, HLT.o, (HP3.o.tch (Td (λ_ => False) W3 1) (λh => h) (λ_ h => by cases h)).tch HT4.o (λh => (HS.o _ h).2 rfl) (λ_ h => by cases h), (HE3.o.tch (Td (λ_ => False) W3 1) noE).tch HT4.o (λj hj => (HS.o j hj).1), HJ4⟩
        | (have h4 := Jjn ((HP3.o.tch (Td (λ_ => False) W3 1) (λh => h) (λ_ h => by cases h)).tch HT4.o (λh => (HS.o _ h).2 rfl) (λ_ h => by cases h))
           have hr := Jjn HPr.o
           have := HGR.o
           have := HZ.o
           rw [h4, hr]
           have hl2 : (JH (rs.take (p + 1))).length <= (JH rs ++ part).length := by
             have e : JH rs = JH (rs.take (p + 1)) ++ JH (rs.drop (p + 1)) := by unfold JH; rw [<- List.flatMap_append, List.take_append_drop]
             rw [e, Qe, Qe]
             omega
           omega)
    · obtain rfl : p = rs.length := by omega
      have hd : JH (rs.drop rs.length) ++ part = part := by rw [List.drop_length]; rfl
      rw [hd] at HRP
      have hbad := HPA.o (JH (rs.take rs.length))
      have htk : (Ya 0 rs).take rs.length = Ya 0 rs := QQ (by rw [YT]; exact Ql _)
      rw [htk] at HJr
      generalize raR (JH (rs.take rs.length), part, true) = y at *
      obtain ⟨y1, y2, q2, r2, ok⟩ := y
      dsimp only at hbad HRP
      subst hbad
      generalize (⟨y1.toArray⟩ : BA) = ls at *
      generalize (⟨y2.toArray⟩ : BA) = cs at *
      clear hd htk hlp hlt HPr
      gi_wp2
      refine ⟨trivial, λ_ => by omega, (callsIn_wide.2 HRP.o).mono ?_⟩
      rintro _ W2 ⟨rfl, hra, ht2⟩
      obtain ⟨t, u, hp2, _⟩ := (show ∃ t u, Jc W2 W.heap.size none 4 (.iface t u) (.rd q2 r2) /\ Jl E 7 W2 (.iface t u) from hra)
      obtain ⟨W3, hW3⟩ : ∃ (W3 : World), W3 = W2.alloc (.cells #[.string ls, .string cs] 195) := ⟨_, rfl⟩
      have t3 : Tch (λ_ => False) W2 W3 := by rw [hW3]; exact Ta _ _ _
      have hp3 := hp2.tch t3 (λh => h) (λ_ h => by cases h)
      have c2 : W3.cell? ⟨W.heap.size, 2, none⟩ = some (.iface t u) := Ja hp3.2
      have HJ3 : Hid (∀ k, J (Ya 0 rs) (W3.drewN k)) := λk => HJ.o _ _ _ HJr.o ((ht2.trans t3 noE).trans (Td (λk => k = W.heap.size) W3 k) (λ_ h => .inl h))
      have HW3 : Hid (W3 = _) := hW3
      clear hW3 t3 hp3 hra hp2 ht2 HRP HJr HEr HRC HY HJ
      gi_wp2
      rw [<- HW3.o]
      refine wpIn_wide.2 ?_
      go_region
      all_goals gi_wp2
      all_goals refine QJ (v := .tuple #[]) (results_none results159 _ _ _) rfl ?_
      all_goals exact ⟨⟨_, rfl⟩, HJ3.o 1⟩
