import Derived.Test.YtighkdnooglfjaaGreatDoorOxWyT
import Derived.Test.YtighkdnooglfjaaGreatDoorOxFaA
namespace Go.Proofs.YtighkdnooglfjaaGreatDoor
open Tryz
set_option maxRecDepth 100000
set_option maxHeartbeats 1000000
open Go.RowKit

theorem Jc4 {w:World} {cb wd fl r:Nat} {bs:List BV} {v:Value} (h:Ju w cb wd fl r bs v) (k:Nat) (b:BV) (hk:bs[k]? =some b) (hf:fl<=k):
  Calls prog 92 #[.pointer (some ⟨cb,0,none⟩),.int .i64 (k:Int)] w λe w'=>e=.returned (.tuple #[Jz b.2.1 b.2.2,.nilIface])/\Tch NoB w w':=by
 obtain ⟨W,hW⟩:∃W,W=w.alloc (.cells #[.int .i64 0,.pointer none] 146):=⟨_,rfl⟩
 have hA:Tch NoB w W:=by rw [hW];exact Tch.alloc _ _ _
 have c1:W.cell? ⟨cb,1,none⟩=some (.int .i64 (fl:Int)):=Ja (h.next hA).row
 have HAT:Hid (Calls _ _ _ _ _):=Jl9 (h.next hA) k b hk
 have hrow:W.heap[w.heap.size]? =some (.cells #[.int .i64 0,.pointer none] 146):=by rw [hW];exact Qf _ _
 have HW:Hid _:=hW
 have HR:Hid _:=hrow
 have HA:Hid _:=hA
 obtain ⟨bh,bu,bq⟩:=b
 obtain ⟨rv,hrv⟩:∃rv,Jk bq=.pointer rv:=⟨_,rfl⟩
 simp only [bV] at HAT
 show Calls _ _ _ _ λe w'=>e=.returned (.tuple #[.agg #[_,Jk bq],.nilIface])/\_
 rw [hrv] at HAT ⊢
 have hlt:¬(k:Int)<(fl:Int):=by omega
 clear h hk hW hrow hA hrv hf
 go_enter func92,ntmps92
 go_upto_region 1 with fail
 rw [<-HW.o]
 go_wp2_with fail
 refine HAT.o.mono ?_
 rintro _ w2 ⟨rfl,ht2⟩
 have hr2:w2.heap[w.heap.size]? =some (.cells #[.int .i64 0,.pointer none] 146):=(ht2.block _ (Jb HR.o) (λh=>h)).trans HR.o
 have hz2:=(Jb hr2)
 obtain ⟨W3,hW3⟩:∃W3,W3=w2.alloc (.cells #[.string bh,.int .i64 (bu:Int),.pointer rv] 148):=⟨_,rfl⟩
 have t3:Tch NoB w2 W3:=by rw [hW3];exact Tch.alloc _ _ _
 have hr3:W3.heap[w.heap.size]? =some (.cells #[.int .i64 0,.pointer none] 146):=(t3.block _ hz2 (λh=>h)).trans hr2
 have hq3:W3.heap[w2.heap.size]? =some (.cells #[.string bh,.int .i64 (bu:Int),.pointer rv] 148):=by rw [hW3];exact Qf _ _
 have r0:W3.cell? ⟨w.heap.size,0,none⟩=some (.int .i64 0):=Ja hr3
 have r1:W3.cell? ⟨w.heap.size,1,none⟩=some (.pointer none):=Ja hr3
 have fR:∀j,W3.frozen? ⟨w.heap.size,j,none⟩=false:=λj=>Qg _ _ _ _ _ hr3
 have q1:W3.cell? ⟨w2.heap.size,1,none⟩=some (.int .i64 (bu:Int)):=Ja hq3
 have q2:W3.cell? ⟨w2.heap.size,2,none⟩=some (.pointer rv):=Ja hq3
 have HR3:Hid _:=hr3
 have HW3:Hid (W3=_):=hW3
 have HT3:Hid (Tch NoB w W3):=(HA.o.go ht2).go t3
 clear ht2 hr2 t3 hr3 hq3 hW3 HAT HR HA HW c1
 go_upto_region 4 with fail
 rw [<-HW3.o]
 go_wp2
 rw [set2 _ _ _ _ _ _ _ HR3.o]
 refine QJ (v:=.tuple #[.agg #[.int .i64 (bu:Int),.pointer rv],.nilIface]) (Jj results92 _ _ w.heap.size _ _ (0,0) _ rfl (Qi _ _ _ _ _ _ HR3.o) underlying146 rfl (by kernel_rfl)) rfl ⟨rfl,?_⟩
 exact HT3.o.trans (Tch.setRow _ _ _) (λj hj=>.inr (by omega))
theorem JfY (E:Nat->Addr) {w:World} (hE:Env E w) {cb wd fl r:Nat} {bs:List BV} {v:Value} (h:Ju w cb wd fl r bs v) (k:Int) (hk:k<(fl:Int)):
  Calls prog 92 #[.pointer (some ⟨cb,0,none⟩),.int .i64 k] w λe w'=>∃t u,e=.returned (.tuple #[Jz 0 none,.iface t u])/\Jn E 5 w' (.iface t u)/\Tch NoB w w':=by
 obtain ⟨W,hW⟩:∃W,W=w.alloc (.cells #[.int .i64 0,.pointer none] 146):=⟨_,rfl⟩
 have hA:Tch NoB w W:=by rw [hW];exact Tch.alloc _ _ _
 have c1:W.cell? ⟨cb,1,none⟩=some (.int .i64 (fl:Int)):=Ja (h.next hA).row
 have hrg:=(hE.tch hA noE).range
 have hsz:=(hE.tch hA noE).size
 have hGs:5<W.heap.size:=Qk (by decide) hsz
 have hrow:W.heap[w.heap.size]? =some (.cells #[.int .i64 0,.pointer none] 146):=by rw [hW];exact Qf _ _
 have r0:W.cell? ⟨w.heap.size,0,none⟩=some (.int .i64 0):=Ja hrow
 have r1:W.cell? ⟨w.heap.size,1,none⟩=some (.pointer none):=Ja hrow
 have fR:∀j,W.frozen? ⟨w.heap.size,j,none⟩=false:=λj=>Qg _ _ _ _ _ hrow
 have HW:Hid _:=hW
 have HR:Hid _:=hrow
 have HA:Hid _:=hA
 have hz:w.heap.size<W.heap.size:=(Jb hrow)
 show Calls _ _ _ _ λe w'=>∃t u,e=.returned (.tuple #[.agg #[.int .i64 0,.pointer none],.iface t u])/\_
 clear h hW hrow hA hE hsz
 go_enter func92,ntmps92
 go_upto_region 1 with fail
 rw [<-HW.o]
 go_wp2_with fail
 refine (Xz _ _ _ _).mono ?_
 rintro _ _ ⟨rfl,rfl⟩
 have hrow2:(W.alloc (.cells #[.string ⟨#[104,101,105,103,104,116]⟩,eV E 5] 237)).heap[w.heap.size]? =some (.cells #[.int .i64 0,.pointer none] 146):=(Below.heap_alloc W _ _ hz).trans HR.o
 have hpl:=Qf W (.cells #[.string ⟨#[104,101,105,103,104,116]⟩,eV E 5] 237)
 have t2:=Tch.alloc NoB W (.cells #[.string ⟨#[104,101,105,103,104,116]⟩,eV E 5] 237)
 have HR2:Hid (_=_):=hrow2
 have HPL:Hid (_=_):=hpl
 have HT2:Hid _:=t2
 have r0:(W.alloc (.cells #[.string ⟨#[104,101,105,103,104,116]⟩,eV E 5] 237)).cell? ⟨w.heap.size,0,none⟩=some (.int .i64 0):=Ja hrow2
 have r1:(W.alloc (.cells #[.string ⟨#[104,101,105,103,104,116]⟩,eV E 5] 237)).cell? ⟨w.heap.size,1,none⟩=some (.pointer none):=Ja hrow2
 have fR:∀j,(W.alloc (.cells #[.string ⟨#[104,101,105,103,104,116]⟩,eV E 5] 237)).frozen? ⟨w.heap.size,j,none⟩=false:=λj=>Qg _ _ _ _ _ hrow2
 clear hrow2 hpl t2
 generalize W.alloc (.cells #[.string ⟨#[104,101,105,103,104,116]⟩,eV E 5] 237)=W2 at *
 go_wp2
 rw [set2 _ _ _ _ _ _ _ HR2.o]
 refine QJ (v:=.tuple #[.agg #[.int .i64 0,.pointer none],.iface 235 (.pointer (some ⟨W.heap.size,0,none⟩))]) (Jj results92 _ _ w.heap.size _ _ (0,0) _ rfl (Qi _ _ _ _ _ _ HR2.o) underlying146 rfl (by kernel_rfl)) rfl ⟨_,_,rfl,?_,?_⟩
 ·exact .wrap W.heap.size ⟨#[104,101,105,103,104,116]⟩ (eV E 5) ((setRow_other _ _ _ _ (by omega)).trans HPL.o) .base
 ·exact (HA.o.go HT2.o).trans (Tch.setRow _ _ _) (λj hj=>.inr (by omega))
theorem JeN (E:Nat->Addr) {w:World} (hE:Env E w) {cb wd fl r:Nat} {bs:List BV} {v:Value} (h:Ju w cb wd fl r bs v) (k:Int) (hf:(fl:Int)<=k) (hk:¬(0<=k/\k<bs.length)):
  Calls prog 92 #[.pointer (some ⟨cb,0,none⟩),.int .i64 k] w λe w'=>∃t u,e=.returned (.tuple #[Jz 0 none,.iface t u])/\Jn E 5 w' (.iface t u)/\Tch NoB w w':=by
 obtain ⟨W,hW⟩:∃W,W=w.alloc (.cells #[.int .i64 0,.pointer none] 146):=⟨_,rfl⟩
 have hA:Tch NoB w W:=by rw [hW];exact Tch.alloc _ _ _
 have c1:W.cell? ⟨cb,1,none⟩=some (.int .i64 (fl:Int)):=Ja (h.next hA).row
 have HAT:Hid (Calls _ _ _ _ _):=Jjw E (hE.tch hA noE) (h.next hA) k hk
 have hrow:W.heap[w.heap.size]? =some (.cells #[.int .i64 0,.pointer none] 146):=by rw [hW];exact Qf _ _
 have HW:Hid _:=hW
 have HR:Hid _:=hrow
 have HA:Hid _:=hA
 simp only [bV,Jk,Option.map_none] at HAT
 show Calls _ _ _ _ λe w'=>∃t u,e=.returned (.tuple #[.agg #[.int .i64 0,.pointer none],.iface t u])/\_
 have hlt:¬k<(fl:Int):=by omega
 clear h hk hW hrow hA hf hE
 go_enter func92,ntmps92
 go_upto_region 1 with fail
 rw [<-HW.o]
 go_wp2_with fail
 refine HAT.o.mono ?_
 rintro _ w2 ⟨t,u,rfl,he2,ht2⟩
 have hr2:w2.heap[w.heap.size]? =some (.cells #[.int .i64 0,.pointer none] 146):=(ht2.block _ (Jb HR.o) (λh=>h)).trans HR.o
 have hz2:=(Jb hr2)
 obtain ⟨W3,hW3⟩:∃W3,W3=w2.alloc (.cells #[.string ⟨#[]⟩,.int .i64 0,.pointer none] 148):=⟨_,rfl⟩
 have t3:Tch NoB w2 W3:=by rw [hW3];exact Tch.alloc _ _ _
 have hr3:W3.heap[w.heap.size]? =some (.cells #[.int .i64 0,.pointer none] 146):=(t3.block _ hz2 (λh=>h)).trans hr2
 have hq3:W3.heap[w2.heap.size]? =some (.cells #[.string ⟨#[]⟩,.int .i64 0,.pointer none] 148):=by rw [hW3];exact Qf _ _
 have r0:W3.cell? ⟨w.heap.size,0,none⟩=some (.int .i64 0):=Ja hr3
 have r1:W3.cell? ⟨w.heap.size,1,none⟩=some (.pointer none):=Ja hr3
 have fR:∀j,W3.frozen? ⟨w.heap.size,j,none⟩=false:=λj=>Qg _ _ _ _ _ hr3
 have q1:W3.cell? ⟨w2.heap.size,1,none⟩=some (.int .i64 0):=Ja hq3
 have q2:W3.cell? ⟨w2.heap.size,2,none⟩=some (.pointer none):=Ja hq3
 have HR3:Hid _:=hr3
 have HW3:Hid (W3=_):=hW3
 have HT3:Hid (Tch NoB w W3):=(HA.o.go ht2).go t3
 have HE3:Hid (Jn E 5 W3 (.iface t u)):=he2.tch t3 (λ_ _ _ _ h=>h)
 clear ht2 hr2 t3 hr3 hq3 hW3 HAT HR HA HW c1 he2
 go_upto_region 4 with fail
 rw [<-HW3.o]
 go_wp2
 rw [set2 _ _ _ _ _ _ _ HR3.o]
 refine QJ (v:=.tuple #[.agg #[.int .i64 0,.pointer none],.iface t u]) (Jj results92 _ _ w.heap.size _ _ (0,0) _ rfl (Qi _ _ _ _ _ _ HR3.o) underlying146 rfl (by kernel_rfl)) rfl ⟨_,_,rfl,?_,?_⟩
 ·exact HE3.o.tch (Tch.setRow _ _ _) (λj c x hj e=>by rw [e,HR3.o] at hj;simp at hj)
 ·exact HT3.o.trans (Tch.setRow _ _ _) (λj hj=>.inr (by omega))
theorem Jb9 (E:Nat->Addr) {w:World} (hE:Env E w) {cb wd fl r:Nat} {bs:List BV} {v:Value} (h:Ju w cb wd fl r bs v) (k:Int) (hk:¬((fl:Int)<=k/\k<bs.length)):
  Calls prog 92 #[.pointer (some ⟨cb,0,none⟩),.int .i64 k] w λe w'=>∃t u,e=.returned (.tuple #[Jz 0 none,.iface t u])/\Jn E 5 w' (.iface t u)/\Tch NoB w w':=by
 by_cases hf:k<(fl:Int)
 ·exact JfY E hE h k hf
 ·exact JeN E hE h k (by omega) (by omega)
theorem JiC (E:Nat->Addr) {w:World} (hE:Env E w) {cb wd fl r:Nat} {bs:List BV} {v:Value} (h:Ju w cb wd fl r bs v) (k:Int) (hk:¬((fl:Int)<=k/\k<bs.length)) (c:BA×Int):
  Calls prog 50 #[.pointer (some ⟨cb,0,none⟩),.int .i64 k,.agg #[.string c.1,.int .i64 c.2]] w λe w'=>Tch NoB w w'/\∃t u,e=.returned (.tuple #[.string ⟨#[]⟩,.iface t u])/\Jn E 5 w' (.iface t u):=by
 obtain ⟨s,N⟩:=c
 have HS:Hid (∀W,Tch NoB w W->Calls prog 92 #[.pointer (some ⟨cb,0,none⟩),.int .i64 k] W λe w'=>∃t u,e=.returned (.tuple #[.agg #[.int .i64 0,.pointer none],.iface t u])/\Jn E 5 w' (.iface t u)/\Tch NoB W w'):=λW hT=>Jb9 E (hE.tch hT noE) (h.next hT) k hk
 clear hE h hk
 dsimp only
 go_enter func50,ntmps50
 go_wp2_with fail
 refine (HS.o _ (Tch.alloc NoB w _)).mono ?_
 rintro _ w1 ⟨t,u,rfl,he,ht⟩
 have HT:Hid (Tch NoB w w1):=(Tch.alloc NoB w _).go ht
 have HE:Hid _:=he
 clear he ht HS
 go_wp2
 go_ret2
 exact ⟨HT.o.go (Tch.alloc _ _ _),_,_,rfl,HE.o.tch (Tch.alloc NoB w1 _) (λ_ _ _ _ h=>h)⟩
theorem Jkp (E:Nat->Addr) {w:World} (hE:Env E w) {cb wd fl r:Nat} {bs:List BV} {v:Value} (h:Ju w cb wd fl r bs v) (k:Nat) (b:BV) (hk:bs[k]? =some b) (hf:fl<=k) (hw:wd<=32) (F:Nat->Prop) (st:Option Tr) (hb:b.2.1=wd) (hs:StAt (dgW wd) F w b.2.2 st) (hok:∀t,st=some t->t.Wf/\TrOk wd t) (c:BA×Int) (hc:Jp wd c):
  Calls prog 50 #[.pointer (some ⟨cb,0,none⟩),.int .i64 (k:Int),.agg #[.string c.1,.int .i64 c.2]] w λe w'=>Tch NoB w w'/\e=.returned (.tuple #[.string ⟨(wayB (Yr (dgW wd) (Jd c) st)).toArray⟩,.nilIface]):=by
 have HS:Hid (∀W,Tch NoB w W->Calls prog 92 _ W _):=λW hT=>Jc4 (h.next hT) k b hk hf
 have HP:Hid (∀W,Tch NoB w W->Calls prog 93 _ W _):=λW hT=>Jko E wd hw F b.2.2 st c hc W (hE.tch hT noE) (hs.next hT) hok
 rw [hb] at HS
 obtain ⟨rv,hrv⟩:∃rv,Jz wd b.2.2=.agg #[.int .i64 (wd:Int),.pointer rv]:=⟨_,rfl⟩
 rw [hrv] at HS HP
 generalize (⟨(wayB (Yr (dgW wd) (Jd c) st)).toArray⟩:BA)=pf at *
 obtain ⟨s,N⟩:=c
 clear hE h hk hs hok hc hrv hb
 dsimp only at HP ⊢
 go_enter func50,ntmps50
 go_wp2_with fail
 refine (HS.o _ (Tch.alloc NoB w _)).mono ?_
 rintro _ w1 ⟨rfl,ht⟩
 have HT:Hid (Tch NoB w w1):=(Tch.alloc NoB w _).go ht
 have r1:w1.heap[w.heap.size]? =some (.cells #[.string s,.int .i64 N] 49):=(ht.block _ (by simp) (λh=>h)).trans (Qf _ _)
 have c0:w1.cell? ⟨w.heap.size,0,none⟩=some (.string s):=Ja r1
 have c1:w1.cell? ⟨w.heap.size,1,none⟩=some (.int .i64 N):=Ja r1
 have hz1:=(Jb r1)
 clear ht HS r1
 go_wp2_with fail
 refine (HP.o _ (HT.o.go (Tch.alloc _ _ _))).mono ?_
 rintro _ w2 ⟨rfl,ht2⟩
 have HT2:Hid (Tch NoB w w2):=(HT.o.go (Tch.alloc _ _ _)).go ht2
 clear ht2 HP
 go_wp2
 go_ret2
 exact ⟨HT2.o,rfl⟩

theorem JhZ {w:World} {lb cb:Nat} (hl:w.cell? ⟨lb,0,none⟩=some (.pointer (some ⟨cb,0,none⟩))) (k:Int) (c:BA×Int) (s:BA) (h:∀W,Tch NoB w W->Calls prog 50 #[.pointer (some ⟨cb,0,none⟩),.int .i64 k,.agg #[.string c.1,.int .i64 c.2]] W λe w'=>Tch NoB W w'/\e=.returned (.tuple #[.string s,.nilIface])):
  Calls prog 24 #[.pointer (some ⟨lb,0,none⟩),.int .i64 k,.agg #[.string c.1,.int .i64 c.2]] w λe w'=>e=.returned (.tuple #[.string s,.int .i64 0])/\Tch NoB w w':=by
 obtain ⟨cs,cN⟩:=c
 have H:Hid _:=h
 clear h
 dsimp only at H ⊢
 have hlb:lb<w.heap.size:=by
  by_cases h:lb<w.heap.size
  ·exact h
  ·exfalso
   have:w.heap[lb]? =none:=Array.getElem?_eq_none (by omega)
   simp [World.cell?,this] at hl
 obtain ⟨W,hW⟩:∃W,W=w.alloc (.cells #[.string cs,.int .i64 cN] 49):=⟨_,rfl⟩
 have hA:Tch NoB w W:=by rw [hW];exact Tch.alloc _ _ _
 have hr:W.heap[w.heap.size]? =some (.cells #[.string cs,.int .i64 cN] 49):=by rw [hW];exact Qf _ _
 have c0:W.cell? ⟨w.heap.size,0,none⟩=some (.string cs):=Ja hr
 have c1:W.cell? ⟨w.heap.size,1,none⟩=some (.int .i64 cN):=Ja hr
 have c2:W.cell? ⟨lb,0,none⟩=some (.pointer (some ⟨cb,0,none⟩)):=(hA.cell (p:=⟨lb,0,none⟩) hlb (λh=>h)).trans hl
 have HW:Hid (W=_):=hW
 have HA:Hid _:=hA
 clear hW hA hr hl hlb
 go_enter func24,ntmps24
 go_upto_region 1 with fail
 rw [<-HW.o]
 go_region_with (go_at_call 50;refine (H.out _ (HA.o.go (Tch.drewN _ W 1))).mono ?_;rintro _ w1 ⟨ht,rfl⟩;have HT:Hid (Tch NoB w w1):=(HA.o.go (Tch.drewN _ W 1)).go ht;clear ht)
 all_goals
  clear H
  go_wp2_with fail
  refine (YT _).mono ?_
  rintro _ _ ⟨rfl,rfl⟩
  go_wp2
  go_ret2
  exact ⟨rfl,HT.o⟩
theorem Jgl {E:Nat->Addr} {w:World} {lb cb:Nat} (hS:∀w',Tch NoB w w'->Env E w'/\Sent E w') (er:Er) (hl:w.cell? ⟨lb,0,none⟩=some (.pointer (some ⟨cb,0,none⟩))) (k:Int) (c:BA×Int) (h:∀W,Tch NoB w W->Calls prog 50 #[.pointer (some ⟨cb,0,none⟩),.int .i64 k,.agg #[.string c.1,.int .i64 c.2]] W λe w'=>Tch NoB W w'/\∃t u,e=.returned (.tuple #[.string ⟨#[]⟩,.iface t u])/\Jn E (erG er) w' (.iface t u)):
  Calls prog 24 #[.pointer (some ⟨lb,0,none⟩),.int .i64 k,.agg #[.string c.1,.int .i64 c.2]] w λe w'=>e=.returned (.tuple #[.string ⟨#[]⟩,.int .i64 (Xu er)])/\Tch NoB w w':=by
 obtain ⟨cs,cN⟩:=c
 have H:Hid _:=h
 have HS:Hid _:=hS
 clear h hS
 dsimp only at H ⊢
 have hlb:lb<w.heap.size:=by
  by_cases h:lb<w.heap.size
  ·exact h
  ·exfalso
   have:w.heap[lb]? =none:=Array.getElem?_eq_none (by omega)
   simp [World.cell?,this] at hl
 obtain ⟨W,hW⟩:∃W,W=w.alloc (.cells #[.string cs,.int .i64 cN] 49):=⟨_,rfl⟩
 have hA:Tch NoB w W:=by rw [hW];exact Tch.alloc _ _ _
 have hr:W.heap[w.heap.size]? =some (.cells #[.string cs,.int .i64 cN] 49):=by rw [hW];exact Qf _ _
 have c0:W.cell? ⟨w.heap.size,0,none⟩=some (.string cs):=Ja hr
 have c1:W.cell? ⟨w.heap.size,1,none⟩=some (.int .i64 cN):=Ja hr
 have c2:W.cell? ⟨lb,0,none⟩=some (.pointer (some ⟨cb,0,none⟩)):=(hA.cell (p:=⟨lb,0,none⟩) hlb (λh=>h)).trans hl
 have HW:Hid (W=_):=hW
 have HA:Hid _:=hA
 clear hW hA hr hl hlb
 go_enter func24,ntmps24
 go_upto_region 1 with fail
 rw [<-HW.o]
 go_region_with (go_at_call 50;refine (H.out _ (HA.o.go (Tch.drewN _ W 1))).mono ?_;rintro _ w1 ⟨ht,t,u,rfl,he⟩;have HT:Hid (Tch NoB w w1):=(HA.o.go (Tch.drewN _ W 1)).go ht;have HR:Hid (Calls _ _ _ _ _):=Jaj er (HS.o w1 HT.o).1 (HS.o w1 HT.o).2 t u he;clear ht he)
 all_goals
  clear H
  go_wp2_with fail
  refine HR.o.mono ?_
  rintro _ w2 ⟨rfl,ht2⟩
  have HT2:Hid _:=ht2
  clear ht2 HR
  go_wp2
  go_ret2
  exact ⟨rfl,HT.o.go HT2.o⟩
