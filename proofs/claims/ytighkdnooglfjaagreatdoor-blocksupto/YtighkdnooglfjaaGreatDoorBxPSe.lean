import Derived.Test.YtighkdnooglfjaaGreatDoorBxRfS
import Derived.Test.YtighkdnooglfjaaGreatDoorBxFaA
namespace Go.Proofs.YtighkdnooglfjaaGreatDoor

theorem JbG {d:List UInt8} {x k y:Nat} {p:PS} (h:(PS.wr d).num x k=some (y,p)):y=x/\x<2 ^ (8 * k)/\∃d',p=.wr d':=by
 simp only [PS.num] at h
 split at h
 ·rename_i hx
  simp only [Qh,Qw] at h
  exact ⟨h.1.symm,(Nat.div_eq_zero_iff.1 hx).resolve_left (Nat.ne_of_gt (Nat.two_pow_pos _)),_,h.2.symm⟩
 ·cases h
theorem Jlh {d:List UInt8} {wj:Nat} {c y:BA×Int} {p:PS} (hn1: -9223372036854775808<=c.2) (hn2:c.2<9223372036854775808) (h:(PS.wr d).coin wj c=some (y,p)):Jo wj c/\∃d',p=.wr d':=by
 unfold PS.coin at h
 simp only [PS.txt] at h
 split at h
 ·cases h
 ·rename_i t p1 he
  split at he
  ·rename_i hl
   simp only [Qh,Qw] at he
   obtain ⟨rfl,rfl⟩:=he
   split at h
   ·cases h
   ·rename_i m p2 hm
    obtain ⟨h1,h2,d',h3⟩:=JbG hm
    split at h
    ·rename_i h4
     simp only [Qh,Qw] at h
     refine ⟨⟨?_,?_,?_⟩,d',by rw [<-h.2,h3]⟩
     ·rw [QA] at hl;exact hl
     ·unfold Jw at h1;rw [h1] at h4;omega
     ·unfold Jw at h1;rw [h1] at h4;omega
    ·cases h
  ·cases he
theorem Jke {wj:Nat}:∀(l:List (BA×Int)) (d:List UInt8) (ys:List (BA×Int)) (p:PS),(∀c∈l, -9223372036854775808<=c.2/\c.2<9223372036854775808)->PS.coins wj l (.wr d)=some (ys,p)->(∀c∈l,Jo wj c)/\∃d',p=.wr d':=by
 intro l
 induction l with
 | nil=>
  intro d ys p _ h
  simp only [PS.coins,Qh,Qw] at h
  exact ⟨λ_ h=>(QD h).elim,d,h.2.symm⟩
 | cons x r ih=>
  intro d ys p hr h
  simp only [PS.coins] at h
  split at h
  ·cases h
  ·rename_i y p1 h1
   obtain ⟨k1,d1,rfl⟩:=Jlh (hr x (by simp)).1 (hr x (by simp)).2 h1
   split at h
   ·cases h
   ·rename_i zs p2 h2
    obtain ⟨k2,d2,rfl⟩:=ih d1 zs p2 (λc hc=>hr c (by simp [hc])) h2
    simp only [Qh,Qw] at h
    exact ⟨λc hc=>by rcases List.mem_cons.1 hc with rfl | hc;exact k1;exact k2 c hc,d2,h.2.symm⟩
theorem Jli:∀(l:List (Nat×Nat)) (d:List UInt8) (ys:List (Nat×Nat)) (p:PS),PS.outs l (.wr d)=some (ys,p)->∃d',p=.wr d':=by
 intro l
 induction l with
 | nil=>
  intro d ys p h
  simp only [PS.outs,Qh,Qw] at h
  exact ⟨d,h.2.symm⟩
 | cons x r ih=>
  intro d ys p h
  simp only [PS.outs] at h
  split at h
  ·cases h
  ·rename_i y p1 h1
   obtain ⟨d1,rfl⟩:∃d1,p1=.wr d1:=by
    unfold PS.out at h1
    split at h1
    ·cases h1
    ·rename_i a' q1 g1
     obtain ⟨_,_,e1,rfl⟩:=JbG g1
     split at h1
     ·cases h1
     ·rename_i b' q2 g2
      obtain ⟨_,_,e2,rfl⟩:=JbG g2
      simp only [Qh,Qw] at h1
      exact ⟨_,h1.2.symm⟩
   split at h
   ·cases h
   ·rename_i zs p2 h2
    obtain ⟨d2,rfl⟩:=ih d1 zs p2 h2
    simp only [Qh,Qw] at h
    exact ⟨d2,h.2.symm⟩
theorem JfH {least most:Nat} {l ys:List (Nat×Nat)} {d:List UInt8} {p:PS} (h:(PS.wr d).listO least most l=some (ys,p)):least<=l.length/\l.length<=most/\∃d',p=.wr d':=by
 unfold PS.listO at h
 split at h
 ·cases h
 ·rename_i cnt p1 h1
  obtain ⟨e1,_,d1,rfl⟩:=JbG h1
  split at h
  ·cases h
  ·rename_i h2
   obtain ⟨d2,rfl⟩:=Jli _ _ _ _ h
   exact ⟨by omega,by omega,d2,rfl⟩
def InR (t:TxL):Prop:=(∀c∈t.1, -9223372036854775808<=c.2/\c.2<9223372036854775808)/\∀o∈t.2,JC o
theorem JmU {wj:Nat} {t y:TxL} {d:List UInt8} {p:PS} (hr:InR t) (h:(PS.wr d).tx wj t=some (y,p)):TxOk wj t/\∃d',p=.wr d':=by
 unfold PS.tx at h
 split at h
 ·cases h
 ·rename_i ys p1 h1
  unfold PS.listC at h1
  split at h1
  ·cases h1
  ·rename_i cnt q1 g1
   obtain ⟨e1,_,d1,rfl⟩:=JbG g1
   split at h1
   ·cases h1
   ·rename_i g2
    have hs:XX t.1 cnt=t.1:=by unfold XX;rw [if_neg];intro e;rw [e] at e1;simp at e1;omega
    rw [hs] at h1
    obtain ⟨k1,d2,rfl⟩:=Jke _ _ _ _ hr.1 h1
    split at h
    ·cases h
    ·rename_i zs p2 h2
     obtain ⟨_,k2,d3,rfl⟩:=JfH h2
     simp only [Qh,Qw] at h
     exact ⟨⟨k1,hr.2,by omega,by omega,k2⟩,d3,h.2.symm⟩
theorem Jmo {wj:Nat}:∀(l:List TxL) (d:List UInt8) (ys:List TxL) (p:PS),(∀t∈l,InR t)->PS.txs wj l (.wr d)=some (ys,p)->∀t∈l,TxOk wj t:=by
 intro l
 induction l with
 | nil=>intro _ _ _ _ _ t h;exact (QD h).elim
 | cons x r ih=>
  intro d ys p hr h
  simp only [PS.txs] at h
  split at h
  ·cases h
  ·rename_i y p1 h1
   obtain ⟨k1,d1,rfl⟩:=JmU (hr x (by simp)) h1
   split at h
   ·cases h
   ·rename_i zs p2 h2
    have k2:=ih d1 zs p2 (λc hc=>hr c (by simp [hc])) h2
    intro t ht
    rcases List.mem_cons.1 ht with rfl | ht
    ·exact k1
    ·exact k2 t ht
theorem JgA {wj:Nat} {ts:List TxL} (hr:∀t∈ts,InR t) (h:mayB wj ts=false):(PS.wr []).body wj ts=none:=by
 cases hb:(PS.wr []).body wj ts with
 | none=>rfl
 | some x=>
  exfalso
  obtain ⟨ys,p⟩:=x
  unfold PS.body at hb
  split at hb
  ·cases hb
  ·rename_i cnt p1 h1
   obtain ⟨e1,_,d1,rfl⟩:=JbG h1
   split at hb
   ·cases hb
   ·rename_i h3
    have hs:YD ts cnt=ts:=by
     unfold YD
     split
     ·rename_i e;rw [e] at e1;rw [e,e1];rfl
     ·rfl
    rw [hs] at hb
    have:=(JaV wj ts (λt ht=>(hr t ht).2)).2 ⟨by omega,Jmo ts d1 ys p hr hb⟩
    rw [h] at this
    cases this
theorem outsB?_no {l:List (Nat×Nat)} (h:¬(1<=l.length/\l.length<=3)):outsB? l=none:=by
 unfold outsB?
 cases hq:(PS.wr []).listO 1 3 l with
 | none=>rfl
 | some r=>
  obtain ⟨ys,p⟩:=r
  obtain ⟨h1,h2,_⟩:=JfH hq
  exact absurd ⟨h1,h2⟩ h
open Tryz
set_option maxRecDepth 100000
set_option maxHeartbeats 4000000
open Go.RowKit

theorem Jan (E:Nat->Addr) (n:Int) (w:World) (hE:Env E w) (hn:¬(1<=n/\n<=32)):
  Calls prog 124 #[.int .i64 n] w λe w'=>(∃t u,e=.returned (.iface t u)/\Jm E 7 w' (.iface t u))/\Tch NoB w w':=by
 have hf:=hE.form
 have hsz:7<w.heap.size:=Qk (by decide) hE.size
 clear hE
 by_cases h1:n<1
 ·clear hn
  go_enter func124,ntmps124
  go_wp2_with fail
  refine (XA _ _ _ _).mono ?_
  rintro _ w1 ⟨rfl,rfl⟩
  go_wp2
  go_ret
  exact ⟨⟨_,_,rfl,.wrap _ _ _ (Qf _ _) .base⟩,Ta _ _ _⟩
 ·have h2:(32:Int)<n:=by omega
  clear hn
  go_enter func124,ntmps124
  go_wp2_with fail
  refine (XA _ _ _ _).mono ?_
  rintro _ w1 ⟨rfl,rfl⟩
  go_wp2
  go_ret
  exact ⟨⟨_,_,rfl,.wrap _ _ _ (Qf _ _) .base⟩,Ta _ _ _⟩
theorem Jfk (E:Nat->Addr) {base:Nat} (n:Int) (s:BA) (w:World) (hF:XP E base w) (hn:¬(1<=n/\n<=32)):
  Calls prog 73 #[.int .i64 n,.string s] w λe w'=>e=.returned (.tuple #[.string ⟨#[]⟩,.int .i64 1])/\Tch NoB w w':=by
 have HC:Hid (Calls _ _ _ _ _):=Jan E n w hF.env hn
 have HS:Hid (∀w',Tch NoB w w'->Env E w'/\Sent E w'):=λw' k=>hF.next k
 clear hF hn
 go_enter func73,ntmps73
 go_wp2_with fail
 refine HC.o.mono ?_
 rintro _ w1 ⟨⟨t,u,rfl,he⟩,ht⟩
 have HT:Hid (Tch NoB w w1):=ht
 have HR:Hid (Calls _ _ _ _ _):=ZM .form (HS.o w1 ht).1 (HS.o w1 ht).2 t u he
 clear ht HC he
 go_wp2_with fail
 refine HR.o.mono ?_
 rintro _ w2 ⟨rfl,ht2⟩
 have HT2:Hid (Tch NoB w1 w2):=ht2
 clear ht2 HR
 go_wp2
 go_ret2
 exact ⟨rfl,HT.o.go HT2.o⟩
theorem Jjm (E:Nat->Addr) {base:Nat} (n:Int) (s:BA) (w:World) (hF:XP E base w) (hs:s.size<1152921504606846976):
  Calls prog 73 #[.int .i64 n,.string s] w λe w'=>Tch NoB w w'/\e=if 1<=n/\n<=32 then .returned (.tuple #[.string (dgW n.toNat s.data.toList),.int .i64 0]) else .returned (.tuple #[.string ⟨#[]⟩,.int .i64 1]):=by
 by_cases hn:1<=n/\n<=32
 ·rw [if_pos hn]
  obtain ⟨m,rfl⟩:=Int.eq_ofNat_of_zero_le (show 0<=n by omega)
  exact (Jhn m s w (by omega) (by omega) hs (Qk (by decide) hF.env.size) hF.env.table).mono λe w' ⟨k1,k2⟩=>⟨(Tch.of_below k2).mono (λj hj=>.inr hj),k1⟩
 ·rw [if_neg hn]
  exact (Jfk E n s w hF hn).mono λe w' k=>⟨k.2,k.1⟩
theorem JiE (E:Nat->Addr) (n:Int) (v:Value) (outs:List (Nat×Nat)) (w:World) (hE:Env E w) (hv:Jr w.heap.size w v outs) (hl:outs.length<1000000) (ho:∀o∈outs,JC o) (hno:¬(1<=n/\n<=32/\1<=outs.length/\outs.length<=3)):
  Calls prog 72 #[.int .i64 n,v] w λe w'=>(∃t u,e=.returned (.tuple #[.pointer none,.iface t u])/\Jm E 7 w' (.iface t u))/\Tch NoB w w':=by
 by_cases hn:1<=n/\n<=32
 ·obtain ⟨m,rfl⟩:=Int.eq_ofNat_of_zero_le (show 0<=n by omega)
  have HCW:Hid (Calls prog 124 #[.int .i64 (m:Int)] w λe w'=>e=.returned .nilIface/\w=w'):=Zb m w (by omega) (by omega)
  have HID:Hid (Calls prog 125 #[.int .i64 (m:Int),v] w λe w'=>Tch NoB w w'/\∃t u,e=.returned (.tuple #[.string ⟨#[]⟩,.iface t u])/\Jm E 7 w' (.iface t u)):=by
   have:=JbK E m (by omega) (by omega) _ outs w hE hv (by omega) (λx hx=>(ho x hx).2)
   rw [outsB?_no (by omega)] at this
   exact this
  obtain ⟨ia,ic,hvs⟩:=hv.shape
  subst hvs
  clear hE hv ho hno
  go_enter func72,ntmps72
  go_wp2_with fail
  refine HCW.o.mono ?_
  rintro _ _ ⟨rfl,rfl⟩
  clear HCW
  go_wp2_with fail
  refine HID.o.mono ?_
  rintro _ w1 ⟨ht,t,u,rfl,he⟩
  have HT:Hid (Tch NoB w w1):=ht
  have HE:Hid (Jm _ _ _ _):=he
  clear ht he HID
  go_wp2
  go_ret2
  exact ⟨⟨t,u,rfl,HE.o⟩,HT.o⟩
 ·have HC:Hid (Calls _ _ _ _ _):=Jan E n w hE hn
  obtain ⟨ia,ic,hvs⟩:=hv.shape
  subst hvs
  clear hE hv ho hno hn
  go_enter func72,ntmps72
  go_wp2_with fail
  refine HC.o.mono ?_
  rintro _ w1 ⟨⟨t,u,rfl,he⟩,ht⟩
  have HT:Hid (Tch NoB w w1):=ht
  have HE:Hid (Jm _ _ _ _):=he
  clear ht he HC
  go_wp2
  go_ret2
  exact ⟨⟨t,u,rfl,HE.o⟩,HT.o⟩
theorem Jjn (E:Nat->Addr) {base:Nat} (n:Int) (v:Value) (outs:List (Nat×Nat)) (w:World) (hF:XP E base w) (hv:Jr w.heap.size w v outs) (hl:outs.length<1000000) (ho:∀o∈outs,JC o) (hno:¬(1<=n/\n<=32/\1<=outs.length/\outs.length<=3)):
  Calls prog 37 #[.int .i64 n,v] w λe w'=>e=.returned (.tuple #[.pointer none,.int .i64 1])/\Tch NoB w w':=by
 have HC:Hid (Calls _ _ _ _ _):=JiE E n v outs w hF.env hv hl ho hno
 have HS:Hid (∀w',Tch NoB w w'->Env E w'/\Sent E w'):=λw' k=>hF.next k
 obtain ⟨ia,ic,hvs⟩:=hv.shape
 subst hvs
 clear hF hno hv ho hl
 go_enter func37,ntmps37
 go_wp2_with fail
 refine HC.o.mono ?_
 rintro _ w1 ⟨⟨t,u,rfl,he⟩,ht⟩
 have HT:Hid (Tch NoB w w1):=ht
 have HR:Hid (Calls _ _ _ _ _):=ZM .form (HS.o w1 ht).1 (HS.o w1 ht).2 t u he
 clear ht HC he
 go_wp2_with fail
 refine HR.o.mono ?_
 rintro _ w2 ⟨rfl,ht2⟩
 have HT2:Hid (Tch NoB w1 w2):=ht2
 clear ht2 HR
 go_wp2
 go_ret2
 exact ⟨rfl,HT.o.go HT2.o⟩

def Xy (wj:Nat) (ch:Ch) (ts:List TxL):BA×Int:=
 if mayB wj ts=true then match JA (dgW wj) ch.last.2 ts with
  | .ok st=>(⟨(Zr (dgW wj) ch ts st).toArray⟩,0)
  | .error er=>(⟨#[]⟩,Xj er)
 else (⟨#[]⟩,1)
theorem Jl8 (hD:DgC) {wj base:Nat} (hw1:1<=wj) (hw:wj<=32) {w:World} {rb:Nat} {G:Nat->Prop} {ch:Ch} {vL:Value} {lv:List Lv} {b:BA} (h:RfAt wj base w rb G ch vL lv b) (hl:ch.length<=10000000) (B:Nat) (v:Value) (ts:List TxL) (sl:List (Sl×Sl)) (hv:TxsR B w v sl) (hs:TxIs B w ts sl) (hln:ts.length<=1000000000) (hc:∀t∈ts,t.1.length<=1000000000/\t.2.length<=1000000000/\∀c∈t.1,c.1.size<=9223372036854775807) (hoo:∀t∈ts,∀o∈t.2,JC o):
  Calls prog 180 #[.pointer (some ⟨rb,0,none⟩),v] w λe w'=>e=.returned (.tuple #[.string (Xy wj ch ts).1,.int .i64 (Xy wj ch ts).2])/\Tch NoB w w':=by
 have h1:=h.len.2
 have hne:lv ≠ []:=λe=>by have:=h.len;rw [e] at this;simp at this;omega
 obtain ⟨g,cap,hvL,hg,_⟩:=h.lvs.at hne
 rw [h.len.1] at hvL
 subst hvL
 have HRF:Hid (∀V,Tch NoB w V->RfAt wj base V rb G ch (.slice (some ⟨g,0,none⟩) ch.length cap) lv b):=λV hV=>h.tch hV (λ_ e=>e.elim)
 have HTX:Hid (∀V,Tch NoB w V->TxsR B V v sl/\TxIs B V ts sl):=λV hV=>⟨hv.tch hV (λ_ e=>e.elim),hs.1,λi h1 h2=>⟨(hs.2 i h1 h2).1.tch hV (λ_ e=>e.elim),(hs.2 i h1 h2).2.tch hV (λ_ e=>e.elim)⟩⟩
 have HMY:Hid (∀V,Tch NoB w V->Calls prog 266 #[.int .i64 (wj:Int),v] V λe w'=>e=.returned (.bool (mayB wj ts))/\Tch NoB V w'):=λV hV=>JmI wj B v ts sl V (HTX.o V hV).1 (HTX.o V hV).2 hln hc
 have HP:Hid (∀V,Tch NoB w V->V.cell? ⟨rb,0,none⟩=some (.int .i64 (wj:Int))/\V.cell? ⟨rb,1,none⟩=some (.slice (some ⟨g,0,none⟩) ch.length cap)):=λV hV=>by
  have hr:=(HRF.o V hV).row
  exact ⟨Ja hr,Ja hr⟩
 have HMI:Hid (mayB wj ts=true->ts.length<=3/\∀t∈ts,TxOk wj t):=(JaV wj ts hoo).1
 obtain ⟨va,vc,hva⟩:=hv.shape
 subst hva
 obtain ⟨z0,z1⟩:=HP.o w (Te _ _)
 clear h hv hs hc hoo hne
 cases hmy:mayB wj ts with
 | false=>
  have HR:Hid ((Xy wj ch ts).1=⟨#[]⟩/\(Xy wj ch ts).2=1):=by
   unfold Xy
   rw [hmy]
   exact ⟨rfl,rfl⟩
  rw [hmy] at HMY
  clear HMI
  generalize (Xy wj ch ts).1=r1 at *
  generalize (Xy wj ch ts).2=r2 at *
  go_enter func180,ntmps180
  go_wp2_with (go_at_call 266;refine (HMY.o _ (Te _ _)).mono ?_;rintro _ w1 ⟨rfl,ht1⟩;have HT1:Hid (Tch NoB w w1):=ht1;clear ht1)
  go_ret2
  exact ⟨by rw [HR.o.1,HR.o.2];rfl,HT1.o⟩
 | true=>
  obtain ⟨h3,ho⟩:=HMI.o hmy
  have HLV:Hid (∀V,Tch NoB w V->Calls prog 173 #[.pointer (some ⟨rb,0,none⟩),.slice va sl.length vc] V (RLv wj ch ts G V)):=λV hV=>JgV hD hw1 hw (HRF.o V hV) hl B _ ts sl h3 ho (HTX.o V hV).1 (HTX.o V hV).2
  rw [hmy] at HMY
  cases hap:JA (dgW wj) ch.last.2 ts with
  | error er=>
   have HR:Hid ((Xy wj ch ts).1=⟨#[]⟩/\(Xy wj ch ts).2=Xj er):=by
    unfold Xy
    rw [if_pos hmy,hap]
    exact ⟨rfl,rfl⟩
   have HLV2:Hid (∀V,Tch NoB w V->Calls prog 173 #[.pointer (some ⟨rb,0,none⟩),.slice va sl.length vc] V λe w'=>e=.returned (.tuple #[.agg #[.string ⟨#[]⟩,.string ⟨#[]⟩,.string ⟨#[]⟩,.slice none 0 0],.int .i64 (Xj er)])/\Tch NoB V w'):=λV hV=>(HLV.o V hV).mono (by
    rintro e w' ⟨h1,h2⟩
    rw [hap] at h2
    exact ⟨h2,h1⟩)
   have hne:¬Xj er=0:=by cases er <;> decide
   clear HMI HLV hap ho
   generalize (Xy wj ch ts).1=r1 at *
   generalize (Xy wj ch ts).2=r2 at *
   go_enter func180,ntmps180
   go_wp2_with (first | (go_at_call 266;refine (HMY.o _ (Te _ _)).mono ?_;rintro _ w1 ⟨rfl,ht1⟩;have HT1:Hid (Tch NoB w w1):=ht1;clear ht1) | (go_at_call 173;refine (HLV2.o _ (by first | exact HT1.o | exact HT1.o.trans (Ta _ _ _) (λ_ h=>.inl h))).mono ?_;rintro _ w2 ⟨rfl,ht2⟩;have HT2:Hid (Tch NoB _ w2):=ht2;clear ht2))
   go_ret2
   exact ⟨by rw [HR.o.1,HR.o.2];rfl,(HT1.o.trans HT2.o (λ_ h=>.inl h)).trans (Ta NoB _ _) (λ_ h=>.inl h)⟩
  | ok st=>
   have HR:Hid ((Xy wj ch ts).1=⟨(Zr (dgW wj) ch ts st).toArray⟩/\(Xy wj ch ts).2=0):=by
    unfold Xy
    rw [if_pos hmy,hap]
    exact ⟨rfl,rfl⟩
   have HLV2:Hid (∀V,Tch NoB w V->Calls prog 173 #[.pointer (some ⟨rb,0,none⟩),.slice va sl.length vc] V λe w'=>∃(D1 D2 D3:BA) (s:Sl),e=.returned (.tuple #[.agg #[.string D1,.string D2,.string D3,.slice s.1 s.2.1 s.2.2],.int .i64 0])/\(D1=dgW wj (72 :: ch.last.1.data.toList)/\D2=dgW wj (66 :: JB ts)/\D3=JV (dgW wj) st)/\Tch NoB V w'):=λV hV=>(HLV.o V hV).mono (by
    rintro e w' ⟨h1,h2⟩
    rw [hap] at h2
    obtain ⟨s,l,he,_⟩:=h2
    exact ⟨_,_,_,s,he,⟨rfl,rfl,rfl⟩,h1⟩)
   have HBT:Hid (∀V,Tch NoB w V->Calls prog 256 #[.slice va sl.length vc] V λe w'=>e=.returned (.string ⟨(JB ts).toArray⟩)/\Tch NoB V w'):=λV hV=>JcE wj hw B _ ts sl h3 ho V (HTX.o V hV).1 (HTX.o V hV).2
   have HIN:Hid (∀V,Calls prog 171 #[.int .u64 (ch.length:Int),.int .i64 4] V λe w'=>e=.returned (.string ⟨(beL ch.length 4 4).toArray⟩)/\Tch NoB V w'):=λV=>Ya ch.length 4 V (by omega)
   have hwr:IntKind.u64.wrap (ch.length:Int)=(ch.length:Int):=by simp [IntKind.wrap,IntKind.bits,IntKind.signed];omega
   have HBL:=Jdq wj hw ts ho h3
   have HSD:=Xk (dgW wj) wj (λl=>Jq wj hw l) st
   have HFN:Hid (∀D1 D2 D3:BA,D1=dgW wj (72 :: ch.last.1.data.toList)/\D2=dgW wj (66 :: JB ts)/\D3=JV (dgW wj) st->((⟨(beL ch.length 4 4).toArray⟩:BA)++D1++D2++D3++⟨(JB ts).toArray⟩=⟨(Zr (dgW wj) ch ts st).toArray⟩)/\D1.size=wj/\D2.size=wj/\D3.size=wj):=by
    rintro D1 D2 D3 ⟨rfl,rfl,rfl⟩
    refine ⟨Ja2 ?_,Jq wj hw _,Jq wj hw _,HSD⟩
    simp [Zr,hdrB,Jar]
   have HXS:Hid ((⟨(beL ch.length 4 4).toArray⟩:BA).size=4/\(⟨(JB ts).toArray⟩:BA).size<=601):=⟨by rw [Jk,Je],by rw [Jk];exact HBL⟩
   clear HMI HLV hap ho HBL HSD
   generalize (⟨(Zr (dgW wj) ch ts st).toArray⟩:BA)=BB at *
   generalize (⟨(beL ch.length 4 4).toArray⟩:BA)=X0 at *
   generalize (⟨(JB ts).toArray⟩:BA)=X5 at *
   generalize (Xy wj ch ts).1=r1 at *
   generalize (Xy wj ch ts).2=r2 at *
   go_enter func180,ntmps180
   go_wp2_with (first | (go_at_call 266;refine (HMY.o _ (Te _ _)).mono ?_;rintro _ w1 ⟨rfl,ht1⟩;have HT1:Hid (Tch NoB w w1):=ht1;clear ht1) | (go_at_call 173;refine (HLV2.o _ HT1.o).mono ?_;rintro _ w2 ⟨D1,D2,D3,s,rfl,hdd,ht2⟩;have HDD:Hid (_/\_):=hdd;have HT2:Hid (Tch NoB w w2):=HT1.o.trans ht2 (λ_ h=>.inl h);clear ht2 hdd))
   obtain ⟨wA,hwA⟩:∃wA,wA=w2.alloc (.cells #[.string D1,.string D2,.string D3,.slice s.1 s.2.1 s.2.2] 205):=⟨_,rfl⟩
   have HTA:Hid (Tch NoB w wA):=by rw [hwA];exact HT2.o.trans (Ta NoB _ _) (λ_ h=>.inl h)
   have HBA:Hid (wA.heap[w2.heap.size]? =some (.cells #[.string D1,.string D2,.string D3,.slice s.1 s.2.1 s.2.2] 205)):=by rw [hwA];exact Qf _ _
   rw [<-hwA]
   clear hwA z0 z1
   generalize w2.heap.size=xb at *
   have HBX:Hid (∀V,Tch NoB wA V->V.cell? ⟨rb,1,none⟩=some (.slice (some ⟨g,0,none⟩) ch.length cap)/\V.cell? ⟨xb,0,none⟩=some (.string D1)/\V.cell? ⟨xb,1,none⟩=some (.string D2)/\V.cell? ⟨xb,2,none⟩=some (.string D3)):=λV hV=>by
    have hr:=(hV.block _ (Jb HBA.o) (λh=>h)).trans HBA.o
    exact ⟨(HP.o V (HTA.o.trans hV (λ_ h=>.inl h))).2,Ja hr,Ja hr,Ja hr⟩
   obtain ⟨hfn,d1,d2,d3⟩:=HFN.o D1 D2 D3 HDD.o
   obtain ⟨x0s,x5s⟩:=HXS.o
   have a1:∀W,(Op.stringOp .add X0 D1).run prog W=.ok (.string (X0++D1)) W:=λW=>run_string_add_sum (P:=prog) W X0 D1 (by omega)
   have a2:∀W,(Op.stringOp .add (X0++D1) D2).run prog W=.ok (.string (X0++D1++D2)) W:=λW=>run_string_add_sum (P:=prog) W _ D2 (by rw [ByteArray.size_append];omega)
   have a3:∀W,(Op.stringOp .add (X0++D1++D2) D3).run prog W=.ok (.string (X0++D1++D2++D3)) W:=λW=>run_string_add_sum (P:=prog) W _ D3 (by rw [ByteArray.size_append,ByteArray.size_append];omega)
   have a4:∀W,(Op.stringOp .add (X0++D1++D2++D3) X5).run prog W=.ok (.string (X0++D1++D2++D3++X5)) W:=λW=>run_string_add_sum (P:=prog) W _ X5 (by rw [ByteArray.size_append,ByteArray.size_append,ByteArray.size_append];omega)
   rw [hfn] at a4
   clear hfn d1 d2 d3 x0s x5s
   generalize X0++D1++D2++D3=X4 at *
   generalize X0++D1++D2=X3 at *
   generalize X0++D1=X2 at *
   obtain ⟨z1,b0,b1,b2⟩:=HBX.o wA (Te _ _)
   go_region_held3 (λV=>V.cell? ⟨rb,1,none⟩=some (.slice (some ⟨g,0,none⟩) ch.length cap)/\V.cell? ⟨xb,0,none⟩=some (.string D1)/\V.cell? ⟨xb,1,none⟩=some (.string D2)/\V.cell? ⟨xb,2,none⟩=some (.string D3)) (go_keep) ((first
    | (go_at_call 171;refine (HIN.o _).mono ?_;rintro _ w4 ⟨rfl,ht4⟩;have HT4:Hid (Tch NoB wA w4):=(Td NoB wA 1).trans ht4 (λ_ h=>.inl h);obtain ⟨y1,c0,c1,c2⟩:=HBX.o w4 HT4.o;clear ht4)
    | (go_at_call 256;refine (HBT.o _ (HTA.o.trans HT4.o (λ_ h=>.inl h))).mono ?_;rintro _ w5 ⟨rfl,ht5⟩;have HT5:Hid (Tch NoB wA w5):=HT4.o.trans ht5 (λ_ h=>.inl h);obtain ⟨x1,e0,e1,e2⟩:=HBX.o w5 HT5.o;clear ht5)))
   all_goals
    go_wp2
    go_ret2
    exact ⟨by rw [HR.o.1,HR.o.2];rfl,HTA.o.trans HT5.o (λ_ h=>.inl h)⟩

theorem Jhh (E:Nat->Addr) {w:World} (hE:Env E w) {cb wj fl r:Nat} (hw:wj<=32) {bs:List BV} {lv:Value} (h:JP w cb wj fl r bs lv) (v:Value) (l:List (Sl×Sl)) (ts:List TxL) (hv:JR w.heap.size w v l) (hl:l.length=ts.length) (hin:∀(j:Nat) x t,l[j]? =some x->ts[j]? =some t->Jz w.heap.size w (.slice x.1.1 x.1.2.1 x.1.2.2) t.1/\Jr w.heap.size w (.slice x.2.1 x.2.2.1 x.2.2.2) t.2)
  (hfew:ts.length<1000000) (hfew2:∀t∈ts,t.1.length<1000000/\t.2.length<1000000) (hr:∀t∈ts,InR t) (hno:mayB wj ts=false):
  Calls prog 45 #[.pointer (some ⟨cb,0,none⟩),v] w λe w'=>Tch NoB w w'/\∃t u,e=.returned (.tuple #[.string ⟨#[]⟩,.iface t u])/\Jm E (erG .form) w' (.iface t u):=by
 have hsz:=hE.size
 have HBO:Hid (∀W,Tch NoB w W->Jc W w.heap.size none (wj:Int) .nilIface (.wr [])->Calls prog 78 #[.pointer (some ⟨w.heap.size,0,none⟩),v] W λe w'=>ToB E W w.heap.size none wj none e w'):=λW hT hp=>by
  have:=Jci E w.heap.size hsz none wj hw v l ts (.wr []) W (hE.tch hT noE) hp (hv.tch hT noE) hl hfew (Xz _ _) (λj x t h1 h2=>by
   obtain ⟨k1,k2⟩:=hin j x t h1 h2
   have ht:=QT h2
   exact ⟨k1.tch hT noE,k2.tch hT noE,(hfew2 t ht).1,(hfew2 t ht).2,Xz _ _,Xz _ _,λo ho=>((hr t ht).2 o ho).2⟩) (by show 0<=_;omega)
  rw [JgA hr hno] at this
  exact this
 have c0:w.cell? ⟨cb,0,none⟩=some (.int .i64 (wj:Int)):=Ja h.row
 have HRD:Hid (∀W',Tch NoB w W'->W'.cell? ⟨cb,0,none⟩=some (.int .i64 (wj:Int))):=λW' hT=>Ja (h.next hT).row
 obtain ⟨ia,ic,hvs⟩:=hv.shape
 clear hE h hv hin hr hno hfew2 hl hfew hsz
 subst hvs
 go_enter func45,ntmps45
 go_wp2_with fail
 refine (Xc _ _).mono ?_
 rintro _ w1 ⟨rfl,hp1,ht1⟩
 have HT1:Hid (Tch NoB w w1):=ht1
 have HP1:Hid (Jc w1 w.heap.size none (wj:Int) .nilIface (.wr [])):=hp1
 clear ht1 hp1 c0
 go_wp2_with fail
 refine (HBO.o w1 HT1.o HP1.o).mono ?_
 rintro _ w2 ⟨x2,g2,rfl,hp2,hm2',ht2,_⟩
 have HP2:Hid (Jh E w2 w.heap.size g2 wj none):=hp2
 have HT2:Hid (Tch NoB w w2):=Xo (b:=w.heap.size) (Ql _) HT1.o ht2
 clear hp2 ht2 HP1 HT1 hm2' HBO
 go_wp2_with fail
 refine (Jaa E w.heap.size g2 wj none (λp hp=>by cases hp) w2 HP2.o).mono ?_
 rintro _ w3 ⟨ht3,t,u,rfl,he⟩
 have HT3:Hid (Tch NoB w w3):=HT2.o.go ht3
 have HE:Hid (Jm _ _ _ _):=he
 clear ht3 HP2 HT2 he
 go_wp2_with fail
 refine (XA _ _ _ _).mono ?_
 rintro _ w4 ⟨rfl,rfl⟩
 go_wp2
 go_ret2
 exact ⟨HT3.o.go (Ta _ _ _),_,_,rfl,.wrap _ _ _ (Qf _ _) (HE.o.next (Ta _ _ _))⟩
theorem JhC (E:Nat->Addr) (wj base:Nat) {pn:Nat} {w:World} {lb:Nat} {F:Nat->Prop} {fl:Nat} {ch:Ch} (v:Value) (ts:List TxL) (hA:LAt wj base pn w lb F fl ch) (hF:XP E base w) (hv:Jio w v ts) (hc:ch.length<2 ^ 27)
  (hfew:ts.length<1000000) (hfew2:∀t∈ts,t.1.length<1000000/\t.2.length<1000000) (hr:∀t∈ts,InR t):
  Calls prog 18 #[.pointer (some ⟨lb,0,none⟩),v] w λe w'=>Tch NoB w w'/\e=.returned (.tuple #[.string (Xy wj ch ts).1,.int .i64 (Xy wj ch ts).2]):=by
 by_cases hm:mayB wj ts=true
 ·obtain ⟨h3,hts⟩:=(JaV wj ts (λt ht=>(hr t ht).2)).1 hm
  have hp:1<=ch.length:=by obtain ⟨_,lg,cb,r,bs,lv,C⟩:=hA;have:=C.pos;omega
  refine (JhD E wj base v ts hA hF hv hts h3 hc).mono λe w' k=>⟨k.1,?_⟩
  have k2:=k.2
  rw [Jg3 (dgW wj) wj (Jq wj hA.1.2) ch (by omega) ts hts h3] at k2
  unfold Xy
  rw [if_pos hm]
  cases ha:JA (dgW wj) ch.last.2 ts with
  | error er=>rw [ha] at k2;exact k2
  | ok st'=>rw [ha] at k2;exact k2
 ·have hno:mayB wj ts=false:=by simpa using hm
  obtain ⟨⟨hw1,hw⟩,lg,cb,r,bs,lv,C⟩:=hA
  have hl:w.cell? ⟨lb,0,none⟩=some (.pointer (some ⟨cb,0,none⟩)):=Ja C.led
  obtain ⟨l,k1,k2,k3⟩:=hv
  obtain ⟨ia,ic,hvs⟩:=k1.shape
  have H:=Jhh E hF.env hw C.row v l ts k1 k2 k3 hfew hfew2 hr hno
  subst hvs
  refine (Jdw (λw' k=>hF.next k) .form hl _ _ _ H).mono λe w' k=>⟨k.1,?_⟩
  rw [k.2]
  unfold Xy
  rw [if_neg hm]
  rfl
