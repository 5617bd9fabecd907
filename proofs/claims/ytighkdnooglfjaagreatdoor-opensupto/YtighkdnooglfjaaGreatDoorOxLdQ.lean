import Derived.Test.YtighkdnooglfjaaGreatDoorOxChR
import Derived.Test.YtighkdnooglfjaaGreatDoorOxVfF
import Derived.Test.YtighkdnooglfjaaGreatDoorOxKPay
namespace Go.Proofs.YtighkdnooglfjaaGreatDoor
open Tryz
open Go.RowKit

theorem Jfz:∀(n:Nat) (a b:List UInt8),a.length=n->b.length=n->numL a=numL b->a=b
 | 0,a,b,ha,hb,_=>by rw [List.eq_nil_of_length_eq_zero ha,List.eq_nil_of_length_eq_zero hb]
 | n+1,a,b,ha,hb,h=>by
  have hna:a ≠ []:=λe=>by rw [e] at ha;simp at ha
  have hnb:b ≠ []:=λe=>by rw [e] at hb;simp at hb
  have ea:=List.dropLast_concat_getLast hna
  have eb:=List.dropLast_concat_getLast hnb
  rw [<-ea,<-eb,Jay,Jay] at h
  have h1:=UInt8.toNat_lt (a.getLast hna)
  have h2:=UInt8.toNat_lt (b.getLast hnb)
  have e1:numL a.dropLast=numL b.dropLast:=by omega
  have e2:(a.getLast hna).toNat=(b.getLast hnb).toNat:=by omega
  have i1:=Jfz n a.dropLast b.dropLast (by simp [ha]) (by simp [hb]) e1
  rw [<-ea,<-eb,i1,UInt8.toNat_inj.1 e2]
theorem Jjy (l:List UInt8) (k:Nat) (h:l.length=k):beL (numL l) k k=l:=by
 refine Jfz k _ _ (Je _ _ _) h ?_
 have hlt:=Jbg l
 rw [h] at hlt
 have h2:numL l<2 ^ (8 * k):=by rw [Nat.pow_mul];exact hlt
 rw [Jau (numL l) k h2 k (Ql _),Nat.sub_self]
 simp
theorem Jh9 {wd:Nat} {z y:HdL} {q r q' r':List UInt8} (h:(PS.rd q r).hdr wd z=some (y,.rd q' r')):r=hdrB y++r':=by
 unfold PS.hdr at h
 simp only [PS.num] at h
 split at h
 ·cases h
 ·rename_i n p1 h1
  split at h1
  ·rename_i k1
   simp only [Qh,Qw] at h1
   obtain ⟨rfl,rfl⟩:=h1
   simp only [PS.txt] at h
   split at h
   ·cases h
   ·rename_i t1 p2 h2
    split at h2
    ·rename_i k2
     simp only [Qh,Qw] at h2
     obtain ⟨rfl,rfl⟩:=h2
     dsimp only at h
     split at h
     ·cases h
     ·rename_i t2 p3 h3
      split at h3
      ·rename_i k3
       simp only [Qh,Qw] at h3
       obtain ⟨rfl,rfl⟩:=h3
       dsimp only at h
       split at h
       ·cases h
       ·rename_i t3 p4 h4
        split at h4
        ·rename_i k4
         simp only [Qh,Qw] at h4
         obtain ⟨rfl,rfl⟩:=h4
         simp only [Qh,Qw,PS.rd.injEq] at h
         obtain ⟨rfl,_,rfl⟩:=h
         unfold hdrB
         dsimp only
         rw [Jjy (r.take 4) 4 (by rw [QB];omega)]
         simp only [Qs,List.take_append_drop]
        ·cases h4
      ·cases h3
    ·cases h2
  ·cases h1
theorem Jf1 {wd:Nat} (hw:wd<=32) {ch ch':Ch} {s:List UInt8} (hc:∀c∈ch,HdIs wd c) (h:Xt (dgW wd) wd ch s=.ok ch'):∀c∈ch',HdIs wd c:=by
 unfold Xt at h
 split at h
 ·rename_i y pre body hh
  split at h
  ·rename_i ts q hb
   split at h
   ·cases h
   ·split at h
    ·cases h
    ·rename_i st ha
     split at h
     ·cases h
     ·rename_i hroot
      simp only [Except.ok.injEq] at h
      subst h
      intro c hcm
      rcases QE.1 hcm with hcm | hcm
      ·exact hc c hcm
      ·simp only [Qt] at hcm
       subst hcm
       have hbytes:=Jh9 hh
       obtain ⟨b,r',_,_,_,hok⟩:=Jbl wd hw _ _ _ _ _ hh
       refine ⟨y,?_,hok,?_⟩
       ·dsimp only
        rw [hbytes,Qe,Nat.add_sub_cancel,List.take_left]
       ·simpa using hroot
  ·cases h
 ·cases h
structure LedQ {E:Nat->Addr} {wd base:Nat} (L:Led E wd base):Prop where
 oks:∀{w:World} {lb:Nat} {F:Nat->Prop} {fl:Nat} {ch:Ch},L.At w lb F fl ch->∀(n:Nat) c',ch[n]? =some c'->fl<=n->StOk wd c'.2
 hdrs:∀{w:World} {lb:Nat} {F:Nat->Prop} {fl:Nat} {ch:Ch},L.At w lb F fl ch->∀c∈ch,HdIs wd c
 qin:∀{w:World} {lb:Nat} {F:Nat->Prop} {fl:Nat} {ch:Ch} (n:Nat) (c':BA×Option Tr) (c:BA×Int),L.At w lb F fl ch->JU E base w->ch[n]? =some c'->fl<=n->(∀t,c'.2=some t->t.Wf/\TrOk wd t)->Jp wd c->
  Calls prog 24 #[.pointer (some ⟨lb,0,none⟩),.int .i64 (n:Int),.agg #[.string c.1,.int .i64 c.2]] w λe w'=>e=.returned (.tuple #[.string ⟨(wayB (Yr (dgW wd) (Jd c) c'.2)).toArray⟩,.int .i64 0])/\Tch NoB w w'
 qout:∀{w:World} {lb:Nat} {F:Nat->Prop} {fl:Nat} {ch:Ch} (h:Int) (c:BA×Int),L.At w lb F fl ch->JU E base w->¬((fl:Int)<=h/\h<(ch.length:Int))->
  Calls prog 24 #[.pointer (some ⟨lb,0,none⟩),.int .i64 h,.agg #[.string c.1,.int .i64 c.2]] w λe w'=>e=.returned (.tuple #[.string ⟨#[]⟩,.int .i64 7])/\Tch NoB w w'
theorem Jlj (E:Nat->Addr) (wd base:Nat) {pn:Nat} {w:World} {lb:Nat} {F:Nat->Prop} {fl:Nat} {ch:Ch} (n:Nat) (c':BA×Option Tr) (c:BA×Int) (hA:LAt wd base pn w lb F fl ch) (hF:JU E base w) (hn:ch[n]? =some c') (hf:fl<=n) (hok:∀t,c'.2=some t->t.Wf/\TrOk wd t) (hc:Jp wd c):
  Calls prog 24 #[.pointer (some ⟨lb,0,none⟩),.int .i64 (n:Int),.agg #[.string c.1,.int .i64 c.2]] w λe w'=>e=.returned (.tuple #[.string ⟨(wayB (Yr (dgW wd) (Jd c) c'.2)).toArray⟩,.int .i64 0])/\Tch NoB w w':=by
 obtain ⟨⟨_,hw⟩,lg,cb,r,bs,lv,C⟩:=hA
 have hl:w.cell? ⟨lb,0,none⟩=some (.pointer (some ⟨cb,0,none⟩)):=Ja C.led
 have hnl:=(Qo.1 hn).1
 have hb:bs[n]? =some (bs[n]'(by rw [C.len];exact hnl)):=Qd _
 obtain ⟨h1,h2,h3⟩:=C.st n _ c' hb hn hf
 exact JhZ hl (n:Int) c _ (λW hT=>Jkp E (hF.tch hT (λ_ e=>e.elim)).env (C.row.next hT) n _ hb hf hw F c'.2 h1 (h2.next hT) hok c hc)
theorem Jj6 (E:Nat->Addr) (wd base:Nat) {pn:Nat} {w:World} {lb:Nat} {F:Nat->Prop} {fl:Nat} {ch:Ch} (h:Int) (c:BA×Int) (hA:LAt wd base pn w lb F fl ch) (hF:JU E base w) (hh:¬((fl:Int)<=h/\h<(ch.length:Int))):
  Calls prog 24 #[.pointer (some ⟨lb,0,none⟩),.int .i64 h,.agg #[.string c.1,.int .i64 c.2]] w λe w'=>e=.returned (.tuple #[.string ⟨#[]⟩,.int .i64 7])/\Tch NoB w w':=by
 obtain ⟨_,lg,cb,r,bs,lv,C⟩:=hA
 have hl:w.cell? ⟨lb,0,none⟩=some (.pointer (some ⟨cb,0,none⟩)):=Ja C.led
 exact Jgl (λw' k=>hF.next k) .range hl h c (λW hT=>JiC E (hF.tch hT (λ_ e=>e.elim)).env (C.row.next hT) h (by rw [C.len];exact hh) c)
set_option maxRecDepth 100000
set_option maxHeartbeats 4000000

theorem Jj2 {E:Nat->Addr} {wd base:Nat} (L:Led E wd base) (hw1:1<=wd) (hw:wd<=32) (xb lb:Nat) (F:Nat->Prop) (fl:Nat) (ch:Ch) (vst:Value) (sl:List Sl) (states:List (List Held)) (c:Int) (hc1: -9223372036854775808<=c) (hc2:c<9223372036854775808) (w:World) (hE:Env E w) (hS:JP L w xb lb F fl ch vst sl states) (hco:∀l∈states,∀h∈l,Jp wd h.1) (hlen:states.length<=1000000000) (hll:∀l∈states,l.length<=1000000000):
  Calls prog 23 #[.pointer (some ⟨xb,0,none⟩),.int .i64 c] w λe w'=>Tch NoB w w'/\∃co:ByteArray×Int,Jp wd co/\e=.returned (.agg #[.string co.1,.int .i64 co.2]):=by
 have hsl:sl.length=states.length:=hS.len.1
 have hpos:1<=states.length:=hS.len.2.2
 obtain ⟨g,cap,hv,hcells⟩:=hS.st.at (λe=>by rw [e] at hsl;simp at hsl;omega)
 subst hv
 have HP:Hid (∀W,Calls prog 22 #[.int .i64 c,.int .i64 ((1099511627776:Nat):Int)] W _):=λW=>ZN c 1099511627776 W hc1 hc2 (by omega) (by omega)
 obtain ⟨W,hW⟩:∃W,W=w.alloc (.cells #[.string ⟨#[]⟩,.int .i64 0] 49):=⟨_,rfl⟩
 have tA:Tch NoB w W:=by rw [hW];exact Tch.alloc _ _ _
 have hSW:=hS.next tA
 have hrow:W.heap[w.heap.size]? =some (.cells #[.string ⟨#[]⟩,.int .i64 0] 49):=by rw [hW];exact Qf _ _
 have hxw:=(Jb hS.row)
 have hne:xb ≠ w.heap.size:=by omega
 have x1:W.cell? ⟨xb,1,none⟩=some (.int .i64 (wd:Int)):=Ja hSW.row
 have x2:W.cell? ⟨xb,2,none⟩=some (.slice (some ⟨g,0,none⟩) sl.length cap):=Ja hSW.row
 have HHE:Hid (∀i,i<sl.length->∃xa xn xc l,W.cell? ⟨g,i,none⟩=some (.slice xa xn xc)/\states[i]? =some l/\Xh W (.slice xa xn xc) l):=λi hi=>by
  have hi':i<states.length:=by omega
  have h0:=hcells i hi
  exact ⟨_,_,_,states[i],(tA.cell (Qr _ _ h0) (λh=>h)).trans h0,Qd hi',(hSW.held i _ _ (Qd hi) (Qd hi')).1⟩
 have HCO:Hid _:=hco
 have HLL:Hid _:=hll
 have HE:Hid (Env E W):=hE.tch tA noE
 have HROW:Hid _:=hrow
 have HW:Hid (W=_):=hW
 have HTA:Hid _:=tA
 have r0:W.cell? ⟨w.heap.size,0,none⟩=some (.string ⟨#[]⟩):=Ja hrow
 have r1:W.cell? ⟨w.heap.size,1,none⟩=some (.int .i64 0):=Ja hrow
 have fR:∀j,W.frozen? ⟨w.heap.size,j,none⟩=false:=λj=>Qg _ _ _ _ _ hrow
 have hnp:0<sl.length:=by omega
 have hnb:sl.length<=1000000000:=by omega
 clear hE hS hSW hco hll hW tA hrow hcells hsl hpos hlen hxw
 generalize sl.length=n at *
 have hnz:¬(n:Int)=0:=by omega
 go_enter func23,ntmps23
 go_upto_region 1 with fail
 rw [<-HW.o]
 go_wp2_with fail
 refine (HP.o W).mono ?_
 rintro _ X ⟨⟨r,hr,rfl⟩,hX⟩
 rw [hX]
 clear hX X
 obtain ⟨i,hi⟩:∃i,i=r % n:=⟨_,rfl⟩
 have hil:i<n:=by rw [hi];exact Nat.mod_lt _ hnp
 have hrem:(r:Int).tmod (n:Int)=(i:Int):=by rw [hi];rfl
 obtain ⟨xa,xn,xc,l,hci,hl,hheld⟩:=HHE.o i hil
 have hlm:l∈states:=List.mem_of_getElem? hl
 have hxn:xn=l.length:=by
  rcases hheld with ⟨e,rfl⟩ | ⟨_,_,_,e,_⟩
  ·cases e;rfl
  ·cases e;rfl
 have hi1:(i:Int)<(n:Int):=by omega
 have HHL:Hid (Xh W (.slice xa xn xc) l):=hheld
 have HXN:Hid _:=hxn
 have HLM:Hid _:=hlm
 have hxb:xn<=1000000000:=by rw [hxn];exact HLL.o l hlm
 clear hheld hl hlm hxn hi HHE HP
 go_upto_region 2 with fail
 go_quiet (fail)
 obtain ⟨W2,hW2⟩:∃W2,W2=W.drewN nq:=⟨_,rfl⟩
 rw [<-hW2]
 have t2:Tch NoB W W2:=by rw [hW2];exact Tch.drewN _ _ _
 have HRW:Hid (∀V,Tch NoB W2 V->V.heap[w.heap.size]? =some (.cells #[.string ⟨#[]⟩,.int .i64 0] 49)):=λV hT=>((t2.go hT).block _ (Jb HROW.o) (λh=>h)).trans HROW.o
 have HCC:Hid (∀V,Tch NoB W2 V->V.cell? ⟨xb,1,none⟩=some (.int .i64 (wd:Int))/\V.cell? ⟨w.heap.size,0,none⟩=some (.string ⟨#[]⟩)/\V.cell? ⟨w.heap.size,1,none⟩=some (.int .i64 0)/\(∀j,V.frozen? ⟨w.heap.size,j,none⟩=false)):=λV hT=>⟨((t2.go hT).cell (Qr _ _ x1) (λh=>h)).trans x1,Ja (HRW.o V hT),Ja (HRW.o V hT),λj=>Qg _ _ _ _ _ (HRW.o V hT)⟩
 have HTW:Hid (Tch NoB w W2):=HTA.o.go t2
 have HE2:Hid (Env E W2):=HE.o.tch t2 noE
 have HHL2:Hid (Xh W2 (.slice xa xn xc) l):=HHL.o.tch t2
 obtain ⟨r9,hr9⟩:∃r9,r9=r % 9:=⟨_,rfl⟩
 have h9:(r:Int).tmod 9=(r9:Int):=by rw [hr9];rfl
 obtain ⟨r3,hr3⟩:∃r3,r3=r % 3:=⟨_,rfl⟩
 have h3:(r:Int).tmod 3=(r3:Int):=by rw [hr3];rfl
 obtain ⟨r7,hr7⟩:∃r7,r7=r % 7:=⟨_,rfl⟩
 have h7:(r:Int).tmod 7=(r7:Int):=by rw [hr7];rfl
 obtain ⟨r8,hr8⟩:∃r8,r8=r / 8:=⟨_,rfl⟩
 have h8:(r:Int).tdiv 8=(r8:Int):=by rw [hr8];rfl
 have hw8:wrap64 (r8:Int)=(r8:Int):=by simp only [wrap64];omega
 have hu9:IntKind.u64.wrap (r9:Int)=(r9:Int):=JB _ (by omega) (by omega)
 have HIB:Hid (∀W,Calls prog 49 #[.int .u64 (r9:Int),.int .i64 1] W λe w'=>e=.returned (.string ⟨(beL r9 1 1).toArray⟩)/\Tch NoB W w'):=λW=>JdR r9 1 W (by omega)
 obtain ⟨S,hSz,hadd⟩:∃S:BA,S.size<=300/\∀W,(Op.stringOp .add (⟨#[115,111,109,101,32,99,111,105,110]⟩:BA) ⟨(beL r9 1 1).toArray⟩).run prog W=.ok (.string S) W:=
  ⟨_,by rw [ByteArray.size_append];show 9+(beL r9 1 1).toArray.size<=300;simp [Je],λW=>run_string_add_sum (P:=prog) W _ _ (by show 9+(beL r9 1 1).toArray.size<=_;simp [Je])⟩
 obtain ⟨dg,hdg⟩:∃dg,dg=dgW wd S.data.toList:=⟨_,rfl⟩
 have HDG:Hid (∀V,Tch NoB W2 V->Calls prog 39 #[.int .i64 (wd:Int),.string S] V λe w'=>e=.returned (.string dg)/\Tch NoB V w'):=λV hT=>by
  have hEW:=HE2.o.tch hT noE
  refine (Ja9 wd S V hw1 hw (by omega) (Qk (by decide) hEW.size) hEW.table).mono ?_
  rintro _ w' ⟨rfl,ht⟩
  exact ⟨by rw [hdg];rfl,ht⟩
 have HOKF:Hid (Jp wd (dg,(r3:Int))):=⟨by show dg.size=wd;rw [hdg];exact Jr wd hw _,by show (0:Int)<=(r3:Int);omega,by show (r3:Int)<3;rw [hr3];have:=Nat.mod_lt r (show 0<3 by decide);omega⟩
 obtain ⟨y1,y2,y3,y4⟩:=HCC.o W2 (Tch.refl _ _)
 have HR8:Hid _:=hr8
 have HSP:Hid (True):=trivial
 generalize (⟨(beL r9 1 1).toArray⟩:BA)=tb at *
 clear hr9 hr3 hr7 hr8 hSz hdg t2 hW2 x1 x2 r0 r1 fR hci hrem HE HHL HROW HTA
 by_cases hz:xn=0
 ·have hz1:(xn:Int)=0:=by omega
  clear hz
  go_upto_region 4 with fail
  go_region_with (first
   | (go_at_call 49;refine (HIB.o _).mono ?_;rintro _ w3 ⟨rfl,ht3⟩;have HT3:Hid (Tch NoB W2 w3):=(Tch.drewN NoB W2 1).go ht3;obtain ⟨y1,y2,y3,y4⟩:=HCC.o _ HT3.o;clear ht3)
   | (go_at_call 39;refine (HDG.o _ HT3.o).mono ?_;rintro _ w4 ⟨rfl,ht4⟩;have HT4:Hid (Tch NoB W2 w4):=HT3.o.go ht4;obtain ⟨z1,z2,z3,z4⟩:=HCC.o _ HT4.o;clear ht4))
  all_goals
   go_wp2
   rw [set2 _ _ _ _ _ _ _ (HRW.o _ HT4.o)]
   refine QJ (v:=.agg #[.string dg,.int .i64 (r3:Int)]) (Qq results23 _ _ w.heap.size _ _ (0,0) _ rfl (Qi _ _ _ _ _ _ (HRW.o _ HT4.o)) underlying49 rfl (by kernel_rfl)) rfl ?_
   exact ⟨(HTW.o.go HT4.o).trans (Tch.setRow _ _ _) (λj hj=>.inr (by omega)),(dg,(r3:Int)),HOKF.o,rfl⟩
 ·have hz1:¬(xn:Int)=0:=by omega
  by_cases h76:(r7:Int)=6
  ·go_upto_region 4 with fail
   go_region_with (first
    | (go_at_call 49;refine (HIB.o _).mono ?_;rintro _ w3 ⟨rfl,ht3⟩;have HT3:Hid (Tch NoB W2 w3):=(Tch.drewN NoB W2 1).go ht3;obtain ⟨y1,y2,y3,y4⟩:=HCC.o _ HT3.o;clear ht3)
    | (go_at_call 39;refine (HDG.o _ HT3.o).mono ?_;rintro _ w4 ⟨rfl,ht4⟩;have HT4:Hid (Tch NoB W2 w4):=HT3.o.go ht4;obtain ⟨z1,z2,z3,z4⟩:=HCC.o _ HT4.o;clear ht4))
   all_goals
    go_wp2
    rw [set2 _ _ _ _ _ _ _ (HRW.o _ HT4.o)]
    refine QJ (v:=.agg #[.string dg,.int .i64 (r3:Int)]) (Qq results23 _ _ w.heap.size _ _ (0,0) _ rfl (Qi _ _ _ _ _ _ (HRW.o _ HT4.o)) underlying49 rfl (by kernel_rfl)) rfl ?_
    exact ⟨(HTW.o.go HT4.o).trans (Tch.setRow _ _ _) (λj hj=>.inr (by omega)),(dg,(r3:Int)),HOKF.o,rfl⟩
  ·rcases HHL2.o with ⟨e,e2⟩ | ⟨gi,oi,cc,e,hgl,hcell⟩
   ·exfalso
    simp only [Qy] at e
    exact hz (by omega)
   ·simp only [Qy] at e
    obtain ⟨rfl,hq,rfl⟩:=e
    clear hq
    obtain ⟨j,hj⟩:∃j,j=r8 % xn:=⟨_,rfl⟩
    have hjl:j<xn:=by rw [hj];exact Nat.mod_lt _ (by omega)
    have hrem2:(r8:Int).tmod (xn:Int)=(j:Int):=by rw [hj];rfl
    have hjl':j<l.length:=by rw [<-HXN.o];exact hjl
    obtain ⟨d0,d1,d2,d3⟩:=hcell j hjl'
    clear d2 d3
    have HOKJ:Hid (Jp wd l[j].1):=HCO.o l HLM.o _ (Qx hjl')
    obtain ⟨cs,cN,hcc⟩:∃cs cN,l[j].1=(cs,cN):=⟨_,_,rfl⟩
    rw [hcc] at d0 d1 HOKJ
    dsimp only at d0 d1
    have hj1:(j:Int)<(xn:Int):=by omega
    have hj0:(0:Int)<=(j:Int):=by omega
    have hz2:((xn:Int) == 0)=false:=by simpa using hz1
    have h762:((r7:Int) == 6)=false:=by simpa using h76
    clear hz hcell hgl hj hcc hjl hjl'
    go_wp2
    rw [set2 _ _ _ _ _ _ _ (HRW.o _ (Tch.refl _ _))]
    refine QJ (v:=.agg #[.string cs,.int .i64 cN]) (Qq results23 _ _ w.heap.size _ _ (0,0) _ rfl (Qi _ _ _ _ _ _ (HRW.o _ (Tch.refl _ _))) underlying49 rfl (by kernel_rfl)) rfl ?_
    exact ⟨HTW.o.trans (Tch.setRow _ _ _) (λj hj=>.inr (by omega)),by first | exact ⟨(cs,cN),HOKJ.o,rfl⟩ | exact ⟨cs,cN,HOKJ.o,rfl⟩⟩

theorem JlU {a b:List UInt8} (h:(⟨a.toArray⟩:BA)=⟨b.toArray⟩):a=b:=by
 have:=congrArg (λx:BA=>x.data.toList) h
 simpa using this
theorem JlN (wy:Wy) (k:Key):(if wy.2.isSome=true/\wyK wy=⟨k.toArray⟩ then some (wyO wy) else none)=wy.said k:=by
 obtain ⟨l,e⟩:=wy
 cases e with
 | none=>simp [Wy.said]
 | some x=>
  obtain ⟨k',o⟩:=x
  unfold Wy.said wyK wyO
  dsimp only
  by_cases h:k'=k
  ·rw [if_pos ⟨rfl,by rw [h]⟩,if_pos h]
  ·rw [if_neg (λe=>h (JlU e.2)),if_neg h]
theorem JcZ (d:List UInt8->BA) (k:Key) (st:Option Tr) (hw:∀t,st=some t->t.Wf):∀s∈(Yr d k st).1,bt k s.1=bt (XI (Yr d k st)) s.1:=by
 cases st with
 | none=>intro s hs;cases hs
 | some t=>
  intro s hs
  have:=Tr.way_bits d k t (hw t rfl) s hs
  show bt k s.1=bt (t.way d k).2.1 s.1
  rw [Tr.way_near,this]
theorem JgQ (d:List UInt8->BA) (k:Key) (st:Option Tr) (hw:∀t,st=some t->t.Wf):d (((Yr d k st).nodes d).headD [])=Xm d st:=by
 cases st with
 | none=>rfl
 | some t=>
  have h1:=Tr.way_root d k t (hw t rfl) (XI (Yr d k (some t))) (λs hs=>(JcZ d k (some t) hw s hs).symm)
  have h2:((Yr d k (some t)).nodes d).headD []=t.text d:=h1
  rw [h2,JgN]
  rfl
theorem Jli {E:Nat->Addr} {wd base:Nat} (L:Led E wd base) (Q:LedQ L) (hw1:1<=wd) (hw:wd<=32) (xb lb:Nat) (F:Nat->Prop) (fl:Nat) (ch:Ch) (vst:Value) (sl:List Sl) (states:List (List Held)) (n:Nat) (hn:n<states.length) (hf:fl<=n) (co:ByteArray×Int) (hco:Jp wd co) (w:World) (hF:JU E base w) (hS:JP L w xb lb F fl ch vst sl states) (hlen:states.length<=1000000000) (hll:∀l∈states,l.length<1000000000):
  Calls prog 21 #[.pointer (some ⟨xb,0,none⟩),.int .i64 (n:Int),.agg #[.string co.1,.int .i64 co.2]] w λe w'=>e=.returned (.bool true)/\Tch NoB w w':=by
 have hsl:sl.length=states.length:=hS.len.1
 have hcl:ch.length=states.length:=hS.len.2.1
 obtain ⟨g,cap,hv,hcells⟩:=hS.st.at (λe=>by rw [e] at hsl;simp at hsl;omega)
 subst hv
 have hcn:ch[n]? =some ch[n]:=Qd (by omega)
 obtain ⟨c',hc'⟩:∃c',c'=ch[n]:=⟨_,rfl⟩
 rw [<-hc'] at hcn
 obtain ⟨l,hl⟩:∃l,l=states[n]:=⟨_,rfl⟩
 have hsn:states[n]? =some l:=by rw [hl];exact Qd hn
 have B:=hS.book n c' l (Nat.zero_le _) hcn hsn
 have hst:=Q.oks hS.led n c' hcn hf
 have hwo:∀t,c'.2=some t->t.Wf/\TrOk wd t:=λt ht=>⟨B.wf t ht,by rw [ht] at hst;exact hst⟩
 obtain ⟨hd,hd1,hd2,hd3⟩:=Q.hdrs hS.led c' (List.mem_of_getElem? hcn)
 obtain ⟨wy,hwy⟩:∃wy,wy=Yr (dgW wd) (Jd co) c'.2:=⟨_,rfl⟩
 have hok:WyOk wd wy:=by rw [hwy];exact Jc0 (dgW wd) wd (Jr wd hw) (Jd co) c'.2 hwo
 have hbits:∀s∈wy.1,bt (Jd co) s.1=bt (XI wy) s.1:=by rw [hwy];exact JcZ (dgW wd) (Jd co) c'.2 B.wf
 have hroot:dgW wd ((wy.nodes (dgW wd)).headD [])=hd.2.2.2:=by rw [hd3,hwy];exact JgQ (dgW wd) (Jd co) c'.2 B.wf
 have hsaid:(if wy.2.isSome=true/\wyK wy=⟨(Jd co).toArray⟩ then some (wyO wy) else none)=(Xa l co).map λk=>(l.getD k ((⟨#[]⟩,0),(0,0))).2:=by rw [JlN,hwy];exact JgR (dgW wd) wd c'.2 l B co hco
 have hwl:=Jf5 hok
 have hhdr:JcB ch (n:Int)=⟨(hdrB hd).toArray⟩:=by
  unfold JcB
  rw [if_pos (by omega),Int.toNat_natCast,Qn,hcn]
  exact hd1
 have HQ:Hid (∀V,Tch NoB w V->Calls prog 24 #[.pointer (some ⟨lb,0,none⟩),.int .i64 (n:Int),.agg #[.string co.1,.int .i64 co.2]] V λe w'=>e=.returned (.tuple #[.string ⟨(wayB wy).toArray⟩,.int .i64 0])/\Tch NoB V w'):=λV hT=>by rw [hwy];exact Q.qin n c' co (L.keep hS.led hT (λ_ e=>e.elim)) (hF.tch hT (λ_ e=>e.elim)) hcn hf hwo hco
 have HH:Hid (∀V,Tch NoB w V->Calls prog 16 #[.pointer (some ⟨lb,0,none⟩),.int .i64 (n:Int)] V λe w'=>e=.returned (.tuple #[.string ⟨(hdrB hd).toArray⟩,.int .i64 0])/\Tch NoB V w'):=λV hT=>by
  have:=L.header (n:Int) (L.keep hS.led hT (λ_ e=>e.elim)) (hF.tch hT (λ_ e=>e.elim)) (by omega) (by omega)
  rw [hhdr,if_pos (by omega)] at this
  exact this
 have HVF:Hid (∀V,Tch NoB w V->Calls prog 47 #[.int .i64 (wd:Int),.string ⟨(hdrB hd).toArray⟩,.agg #[.string co.1,.int .i64 co.2],.string ⟨(wayB wy).toArray⟩] V λe w'=>Tch NoB V w'/\∃(x:Int) (y z:Nat),ZF ((Xa l co).map λk=>(l.getD k ((⟨#[]⟩,0),(0,0))).2)=.agg #[.int .i64 x,.int .u64 (y:Int),.int .u8 (z:Int)]/\e=.returned (.tuple #[.int .i64 x,.agg #[.int .u64 (y:Int),.int .u8 (z:Int)]])):=λV hT=>by
  rw [<-hsaid]
  exact Jgn wd _ _ co _ (λW hT2=>Ji5 E wd hw1 hw hd hd2 co hco wy hok hbits hroot W (hF.tch (hT.go hT2) (λ_ e=>e.elim)).env)
 have hsli:n<sl.length:=by omega
 have hheld:=hS.held n sl[n] l (Qd hsli) hsn
 have hcn':=hcells n hsli
 generalize sl[n]=x at *
 obtain ⟨xa,xn,xc⟩:=x
 dsimp only at hheld hcn'
 have hxn:xn=l.length:=by
  rcases hheld.1 with ⟨e,rfl⟩ | ⟨_,_,_,e,_⟩
  ·cases e;rfl
  ·cases e;rfl
 have HFD:Hid (∀V,Tch NoB w V->Calls prog 48 #[.slice xa xn xc,.agg #[.string co.1,.int .i64 co.2]] V λe w'=>e=.returned (.int .i64 (Yv l co))/\Tch NoB V w'):=λV hT=>Jgt (.slice xa xn xc) l co V (hheld.1.tch hT) (hll l (by rw [hl];exact Qx hn))
 have HLIM:Hid _:=hwl
 have hsz:(⟨(wayB wy).toArray⟩:BA).size=(wayB wy).length:=by rw [Jw]
 have HSZ:Hid _:=hsz
 clear hok hbits hroot hsaid hwl hhdr hd1 hd2 hd3 hwo hst B hwy hc' hcn hF Q hsz hco
 generalize (⟨(hdrB hd).toArray⟩:BA)=hdr at *
 generalize (⟨(wayB wy).toArray⟩:BA)=pf at *
 generalize (wayB wy).length=pl at *
 obtain ⟨cs,cN⟩:=co
 dsimp only at HQ HVF HFD ⊢
 obtain ⟨W,hW⟩:∃W,W=w.alloc (.cells #[.string cs,.int .i64 cN] 49):=⟨_,rfl⟩
 have tA:Tch NoB w W:=by rw [hW];exact Tch.alloc _ _ _
 have hrow:W.heap[w.heap.size]? =some (.cells #[.string cs,.int .i64 cN] 49):=by rw [hW];exact Qf _ _
 have HC:Hid (∀V,Tch NoB W V->(V.cell? ⟨xb,0,none⟩=some (.pointer (some ⟨lb,0,none⟩))/\V.cell? ⟨xb,1,none⟩=some (.int .i64 (wd:Int))/\V.cell? ⟨xb,2,none⟩=some (.slice (some ⟨g,0,none⟩) sl.length cap))/\(V.cell? ⟨w.heap.size,0,none⟩=some (.string cs)/\V.cell? ⟨w.heap.size,1,none⟩=some (.int .i64 cN))/\V.cell? ⟨g,n,none⟩=some (.slice xa xn xc)):=λV hT=>by
  have h1:=(hS.next (tA.go hT)).row
  have h2:=(hT.block _ (Jb hrow) (λh=>h)).trans hrow
  exact ⟨⟨Ja h1,Ja h1,Ja h1⟩,⟨Ja h2,Ja h2⟩,((tA.go hT).cell (Qr _ _ hcn') (λh=>h)).trans hcn'⟩
 have HHD:Hid (∀V,Tch NoB W V->Xh V (.slice xa xn xc) l):=λV hT=>hheld.1.tch (tA.go hT)
 have HTA:Hid _:=tA
 have HW:Hid (W=_):=hW
 have HXN:Hid _:=hxn
 have hn0:(n:Int)<(sl.length:Int):=by omega
 have hnn:(0:Int)<=(n:Int):=by omega
 have hslb:sl.length<=1000000000:=by omega
 have hxnb:xn<=1000000000:=by rw [hxn];exact Nat.le_of_lt (hll l (by rw [hl];exact Qx hn))
 clear hS hrow hcells hheld hcn' hW tA hl hsn hsl hcl hf hn hll hlen hsli hxn
 generalize sl.length=sn at *
 obtain ⟨⟨a0,a1,a2⟩,⟨a3,a4⟩,a5⟩:=HC.o W (Tch.refl _ _)
 go_enter func21,ntmps21
 go_upto_region 1 with fail
 rw [<-HW.o]
 go_cut [7,8] (λv7 v8 wx=>v7=.string pf/\v8=.int .i64 0/\Hid (Tch NoB W wx))
 case first=>
  go_region_with (go_at_call 24;refine (HQ.o _ (HTA.o.go (Tch.drewN _ W 1))).mono ?_;rintro _ w1 ⟨rfl,ht1⟩;have HT1:Hid (Tch NoB W w1):=(Tch.drewN NoB W 1).go ht1;clear ht1)
  all_goals
   go_wp2
   go_meet
   exact ⟨rfl,rfl,HT1⟩
 case rest=>
 obtain ⟨rfl,rfl,HT1⟩:=hcut
 obtain ⟨w1,hw1'⟩:∃w1,w1=wc:=⟨wc,rfl⟩
 subst hw1'
 clear a0 a1 a2 a3 a4 a5 HQ HW
 obtain ⟨⟨a0,a1,a2⟩,⟨a3,a4⟩,a5⟩:=HC.o w1 HT1.o
 go_wp2_with fail
 refine (HH.o w1 (HTA.o.go HT1.o)).mono ?_
 rintro _ w2 ⟨rfl,ht2⟩
 have HT2:Hid (Tch NoB W w2):=HT1.o.go ht2
 clear a0 a1 a2 a3 a4 a5 HH ht2 HT1
 obtain ⟨⟨a0,a1,a2⟩,⟨a3,a4⟩,a5⟩:=HC.o w2 HT2.o
 have hlt2:w.heap.size<w2.heap.size:=Qr _ _ a3
 have hne1:¬w.heap.size=w2.heap.size:=by omega
 have hne2:¬w2.heap.size=w.heap.size:=by omega
 have hlt3:xb<w2.heap.size:=Qr _ _ a1
 have hne3:¬xb=w2.heap.size:=by omega
 have hne4:¬w2.heap.size=xb:=by omega
 go_upto_region 3 with fail
 go_cut [11,12] (λv11 v12 wx=>∃(x:Int) (y z:Nat) (ob:Nat),v11=.int .i64 x/\v12=.pointer (some ⟨ob,0,none⟩)/\Hid (ZF ((Xa l (cs,cN)).map λk=>(l.getD k ((⟨#[]⟩,0),(0,0))).2)=.agg #[.int .i64 x,.int .u64 (y:Int),.int .u8 (z:Int)])/\Hid (wx.heap[ob]? =some (.cells #[.int .u64 (y:Int),.int .u8 (z:Int)] 80))/\Hid (Tch NoB W wx))
 case first=>
  go_region_with (go_at_call 47;first
   | (refine (HVF.o _ (HTA.o.go (HT2.o.go (Tch.drewN _ w2 1)))).mono ?_;rintro _ w3 ⟨ht3,x,y,z,hsv,rfl⟩;have HT3:Hid (Tch NoB W w3):=(HT2.o.go (Tch.drewN NoB w2 1)).go ht3;have HSV:Hid _:=hsv;clear ht3 hsv)
   | (refine (HVF.o _ (HTA.o.go (HT2.o.go (Tch.box w2 _)))).mono ?_;rintro _ w3 ⟨ht3,x,y,z,hsv,rfl⟩;have HT3:Hid (Tch NoB W w3):=(HT2.o.go (Tch.box w2 _)).go ht3;have HSV:Hid _:=hsv;have hB:w3.heap[w2.heap.size]? =some (.cells #[.int .u64 0,.int .u8 0] 80):=(ht3.block w2.heap.size (by simp [World.drew]) (λh=>h)).trans (Qf w2 _);have g0:w3.cell? ⟨w2.heap.size,0,none⟩=some (.int .u64 0):=Ja hB;have g1:w3.cell? ⟨w2.heap.size,1,none⟩=some (.int .u8 0):=Ja hB;have gF:∀j,w3.frozen? ⟨w2.heap.size,j,none⟩=false:=λj=>Qg _ _ _ _ _ hB;have HB:Hid _:=hB;clear ht3 hsv hB))
  all_goals
   go_wp2
   go_meet
  all_goals first
   | exact ⟨x,y,z,w3.heap.size,rfl,rfl,HSV.o,Qf _ _,HT3.o.go (Tch.alloc _ _ _)⟩
   | exact ⟨x,y,z,w2.heap.size,rfl,rfl,HSV.o,(by rw [set2 _ _ _ _ _ _ _ HB.o];exact Qi _ _ _ _ _ _ HB.o),(by rw [set2 _ _ _ _ _ _ _ HB.o];exact HT3.o.trans (Tch.setRow _ _ _) (λj hj=>.inr (by rw [hj];exact HT2.o.size)))⟩
 case rest=>
 obtain ⟨x,y,z,ob,rfl,rfl,HSV,HOB,HT3⟩:=hcut
 obtain ⟨w3,hw3'⟩:∃w3,w3=wc:=⟨wc,rfl⟩
 subst hw3'
 have HOC:Hid (∀V,Tch NoB w3 V->V.cell? ⟨ob,0,none⟩=some (.int .u64 (y:Int))/\V.cell? ⟨ob,1,none⟩=some (.int .u8 (z:Int))):=λV hT=>by
  have:=(hT.block _ (Jb HOB.o) (λh=>h)).trans HOB.o
  exact ⟨Ja this,Ja this⟩
 clear a0 a1 a2 a3 a4 a5 HVF HOB HT2 hlt2 hne1 hne2 hlt3 hne3 hne4
 obtain ⟨⟨a0,a1,a2⟩,⟨a3,a4⟩,a5⟩:=HC.o w3 HT3.o
 go_upto_region 4 with fail
 go_cut [13] (λvk wx=>vk=.int .i64 (Yv l (cs,cN))/\Hid (Tch NoB w3 wx))
 case first=>
  go_region_with (go_at_call 48;refine (HFD.o _ (HTA.o.go (HT3.o.go (Tch.drewN _ w3 1)))).mono ?_;rintro _ w4 ⟨rfl,ht4⟩;have HT4:Hid (Tch NoB w3 w4):=(Tch.drewN NoB w3 1).go ht4;clear ht4)
  all_goals
   go_wp2
   go_meet
   exact ⟨rfl,HT4⟩
 case rest=>
 obtain ⟨rfl,HT4⟩:=hcut
 obtain ⟨w4,hw4'⟩:∃w4,w4=wc:=⟨wc,rfl⟩
 subst hw4'
 have HTB:Hid (Tch NoB w w4):=HTA.o.go (HT3.o.go HT4.o)
 obtain ⟨o0,o1⟩:=HOC.o w4 HT4.o
 clear a0 a1 a2 a3 a4 a5 HFD
 obtain ⟨⟨a0,a1,a2⟩,⟨a3,a4⟩,a5⟩:=HC.o w4 (HT3.o.go HT4.o)
 have hh4:=HHD.o w4 (HT3.o.go HT4.o)
 have HH4:Hid _:=hh4
 have hpl:(pf.size:Int)<=2+8 * ((wd:Int)+1) * (2+(wd:Int))+(wd:Int)+10:=by
  have:=HLIM.o
  rw [HSZ.o]
  exact_mod_cast this
 obtain ⟨M,hM⟩:∃M:Int,8 * ((wd:Int)+1) * (2+(wd:Int))=M:=⟨_,rfl⟩
 have hM0:0<=M:=by rw [<-hM];exact Int.mul_nonneg (by omega) (by omega)
 have hM1:M<=8976:=by
  have:8 * (wd+1) * (2+wd)<=264 * 34:=Nat.mul_le_mul (by omega) (by omega)
  rw [<-hM]
  exact_mod_cast this
 rw [hM] at hpl
 have hlt:¬(2+M+(wd:Int)+10<(pf.size:Int)):=by omega
 have q1:wrap64 M=M:=by simp only [wrap64];omega
 have q2:wrap64 (2+M)=2+M:=by simp only [wrap64];omega
 have q3:wrap64 (2+M+(wd:Int))=2+M+(wd:Int):=by simp only [wrap64];omega
 have q4:wrap64 (2+M+(wd:Int)+10)=2+M+(wd:Int)+10:=by simp only [wrap64];omega
 have hdf:decide (2+M+(wd:Int)+10<(pf.size:Int))=false:=by simp only [decide_eq_false_iff_not];exact hlt
 have hsv:=HSV.o
 clear HC HHD HOC HT3 HT4 HTA hh4 hpl HSV
 cases hfd:Xa l (cs,cN) with
 | none=>
  have hfz:Yv l (cs,cN)= -1:=by unfold Yv;rw [hfd]
  rw [hfd] at hsv
  simp only [Option.map_none,ZF,Value.agg.injEq,Array.mk.injEq,QH,Value.int.injEq,true_and,and_true] at hsv
  obtain ⟨rfl,hy,hz⟩:=hsv
  obtain rfl:y=0:=by omega
  obtain rfl:z=0:=by omega
  rw [hfz]
  clear hfz hfd hy hz HH4
  go_upto_region 5 with fail
  go_quiet (fail)
  go_wp2
  go_ret
  exact ⟨rfl,HTB.o.go (Tch.drewN _ _ _)⟩
 | some k=>
  have hfz:Yv l (cs,cN)=(k:Int):=by unfold Yv;rw [hfd]
  obtain ⟨hkl,hke⟩:=Za hfd
  clear hke
  rw [hfd] at hsv
  simp only [Option.map_some,ZF,Value.agg.injEq,Array.mk.injEq,QH,Value.int.injEq,true_and,and_true] at hsv
  obtain ⟨rfl,hy,hz⟩:=hsv
  have hgd:l.getD k ((⟨#[]⟩,0),(0,0))=l[k]:=by rw [Qn,Qd hkl];rfl
  rw [hgd] at hy hz
  obtain rfl:l[k].2.1=y:=by omega
  obtain rfl:l[k].2.2=z:=by omega
  rcases HH4.o with ⟨e,e2⟩ | ⟨gi,oi,cc,e,hgl,hcell⟩
  ·rw [e2] at hkl;simp at hkl
  ·simp only [Qy] at e
   obtain ⟨rfl,hq,rfl⟩:=e
   obtain ⟨d0,d1,d2,d3⟩:=hcell k hkl
   clear d0 d1
   generalize l[k].2.1=y at *
   generalize l[k].2.2=z at *
   have hk1:(k:Int)<(xn:Int):=by omega
   have hk0:(0:Int)<=(k:Int):=by omega
   have hkn:¬(k:Int)<0:=by omega
   rw [hfz]
   clear hfz hfd hy hz HH4 hcell hq hgl hgd hkl
   go_upto_region 5 with fail
   go_quiet (fail)
   go_upto_region 9 with fail
   go_quiet (fail)
   go_wp2
   go_ret
   exact ⟨rfl,HTB.o.go (Tch.drewN _ _ _)⟩

theorem Jle {w:World} (xb:Nat) (a b:Int) (p0:Option Addr) (pn p1:Nat) (R:World->World->Prop) (hP:∀W,Tch NoB w W->Calls prog 17 #[.pointer (some ⟨xb,0,none⟩),.slice p0 pn p1] W λe w'=>e=.returned (.bool true)/\R W w'):
  Calls prog 20 #[.pointer (some ⟨xb,0,none⟩),.agg #[.int .i64 1,.int .i64 a,.int .i64 b,.slice p0 pn p1]] w λe w'=>e=.returned (.bool true)/\∃W,Tch NoB w W/\R W w':=by
 have HP:Hid _:=hP
 clear hP
 go_enter func20,ntmps20
 go_wp2_with fail
 refine (HP.o _ (Tch.alloc _ _ _)).mono ?_
 rintro _ w1 ⟨rfl,hR⟩
 have HR:Hid (R _ w1):=hR
 clear hR HP
 go_wp2
 go_ret
 exact ⟨rfl,_,Tch.alloc _ _ _,HR.o⟩
theorem Jld {w:World} (xb:Nat) (kd a b:Int) (p0:Option Addr) (pn p1:Nat) (h1:¬kd=1) (h2:¬kd=2):
  Calls prog 20 #[.pointer (some ⟨xb,0,none⟩),.agg #[.int .i64 kd,.int .i64 a,.int .i64 b,.slice p0 pn p1]] w λe w'=>e=.returned (.bool true)/\Tch NoB w w':=by
 go_enter func20,ntmps20
 go_wp2
 go_ret
 exact ⟨rfl,Tch.alloc _ _ _⟩
theorem JP.coins {E:Nat->Addr} {wd base:Nat} {L:Led E wd base} {w:World} {xb lb:Nat} {F:Nat->Prop} {fl:Nat} {ch:Ch} {vst:Value} {sl:List Sl} {states:List (List Held)} (h:JP L w xb lb F fl ch vst sl states):∀l∈states,∀x∈l,Jp wd x.1:=λl hl x hx=>by
 obtain ⟨i,hi,rfl⟩:=List.getElem_of_mem hl
 have hc:i<ch.length:=by have:=h.len;omega
 exact ((h.book i ch[i] states[i] (Nat.zero_le _) (Qd hc) (Qd hi)).ok x hx).1
theorem JP.len2 {E:Nat->Addr} {wd base:Nat} {L:Led E wd base} {w:World} {xb lb:Nat} {F:Nat->Prop} {fl:Nat} {ch:Ch} {vst:Value} {sl:List Sl} {states:List (List Held)} (h:JP L w xb lb F fl ch vst sl states):∃va vc,vst=.slice va states.length vc/\w.cell? ⟨xb,2,none⟩=some (.slice va states.length vc)/\w.cell? ⟨xb,0,none⟩=some (.pointer (some ⟨lb,0,none⟩)):=by
 have hsl:=h.len.1
 obtain ⟨g,cap,hv,_⟩:=h.st.at (λe=>by have:=h.len;rw [e] at this;simp at this;omega)
 have hr:=h.row
 rw [hv,hsl] at hr
 exact ⟨_,_,by rw [hv,hsl],Ja hr,Ja hr⟩
