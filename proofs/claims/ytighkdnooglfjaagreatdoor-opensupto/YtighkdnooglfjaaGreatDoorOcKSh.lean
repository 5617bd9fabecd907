import Derived.Test.YtighkdnooglfjaaGreatDoorOcKCo
namespace Go.Proofs.YtighkdnooglfjaaGreatDoor
open Go.Proofs.Tryz
set_option maxRecDepth 100000
set_option maxHeartbeats 4000000
open Go.RowKit

theorem JcW (d:List UInt8->BA) (k:Key) (st:Option Tr) (hw:∀t,st=some t->t.Wf):∀s∈(Yp d k st).1,bt k s.1=bt (XK (Yp d k st)) s.1:=by
 cases st with
 | none=>intro s hs;cases hs
 | some t=>
  intro s hs
  have:=Tr.way_bits d k t (hw t rfl) s hs
  show bt k s.1=bt (t.way d k).2.1 s.1
  rw [Tr.way_near,this]
theorem JgN (d:List UInt8->BA) (k:Key) (st:Option Tr) (hw:∀t,st=some t->t.Wf):d (((Yp d k st).nodes d).headD [])=Xi d st:=by
 cases st with
 | none=>rfl
 | some t=>
  have h1:=Tr.way_root d k t (hw t rfl) (XK (Yp d k (some t))) (λs hs=>(JcW d k (some t) hw s hs).symm)
  have h2:((Yp d k (some t)).nodes d).headD []=t.text d:=h1
  rw [h2,JgK]
  rfl
theorem Jlb {E:Nat->Addr} {wd base:Nat} (L:Led E wd base) (Q:LedQ L) (hw1:1<=wd) (hw:wd<=32) (xb lb:Nat) (F:Nat->Prop) (fl:Nat) (ch:Ch) (vst:Value) (sl:List Sl) (states:List (List Held)) (n:Nat) (hn:n<states.length) (hf:fl<=n) (co:ByteArray×Int) (hco:Jn wd co) (w:World) (hF:JT E base w) (hS:JO L w xb lb F fl ch vst sl states) (hlen:states.length<=1000000000) (hll:∀l∈states,l.length<1000000000):
  Calls prog 21 #[.pointer (some ⟨xb,0,none⟩),.int .i64 (n:Int),.agg #[.string co.1,.int .i64 co.2]] w λe w'=>e=.returned (.bool true)/\Tch NoB w w':=by
 have hsl:sl.length=states.length:=hS.len.1
 have hcl:ch.length=states.length:=hS.len.2.1
 obtain ⟨g,cap,hv,hcells⟩:=hS.st.at (λe=>by rw [e] at hsl;simp at hsl;omega)
 subst hv
 have hcn:ch[n]? =some ch[n]:=Qd (by omega)
 obtain ⟨c',hc'⟩:∃c',c'=ch[n]:=⟨_,rfl⟩
 rw [<-hc'] at hcn
 obtain ⟨l,hl⟩:∃l,l=states[n]:=⟨_,rfl⟩
 have hsn:states[n]? =some l:=by rw [hl];exact Qd hn
 have B:=hS.book n c' l (Nat.zero_le _) hcn hsn
 have hst:=Q.oks hS.led n c' hcn hf
 have hwo:∀t,c'.2=some t->t.Wf/\TrOk wd t:=λt ht=>⟨B.wf t ht,by rw [ht] at hst;exact hst⟩
 obtain ⟨hd,hd1,hd2,hd3⟩:=Q.hdrs hS.led c' (QR hcn)
 obtain ⟨wy,hwy⟩:∃wy,wy=Yp (dgW wd) (Jd co) c'.2:=⟨_,rfl⟩
 have hok:WyOk wd wy:=by rw [hwy];exact JcX (dgW wd) wd (Jq wd hw) (Jd co) c'.2 hwo
 have hbits:∀s∈wy.1,bt (Jd co) s.1=bt (XK wy) s.1:=by rw [hwy];exact JcW (dgW wd) (Jd co) c'.2 B.wf
 have hroot:dgW wd ((wy.nodes (dgW wd)).headD [])=hd.2.2.2:=by rw [hd3,hwy];exact JgN (dgW wd) (Jd co) c'.2 B.wf
 have hsaid:(if wy.2.isSome=true/\wyK wy=⟨(Jd co).toArray⟩ then some (wyO wy) else none)=(JZ l co).map λk=>(l.getD k ((⟨#[]⟩,0),(0,0))).2:=by rw [JlH,hwy];exact JgO (dgW wd) wd c'.2 l B co hco
 have hwl:=Jf3 hok
 have hhdr:Jcy ch (n:Int)=⟨(hdrB hd).toArray⟩:=by
  unfold Jcy
  rw [if_pos (by omega),Int.toNat_natCast,Qn,hcn]
  exact hd1
 have HQ:Hid (∀V,Tch NoB w V->Calls prog 24 #[.pointer (some ⟨lb,0,none⟩),.int .i64 (n:Int),.agg #[.string co.1,.int .i64 co.2]] V λe w'=>e=.returned (.tuple #[.string ⟨(wayB wy).toArray⟩,.int .i64 0])/\Tch NoB V w'):=λV hT=>by rw [hwy];exact Q.qin n c' co (L.keep hS.led hT (λ_ e=>e.elim)) (hF.tch hT (λ_ e=>e.elim)) hcn hf hwo hco
 have HH:Hid (∀V,Tch NoB w V->Calls prog 16 #[.pointer (some ⟨lb,0,none⟩),.int .i64 (n:Int)] V λe w'=>e=.returned (.tuple #[.string ⟨(hdrB hd).toArray⟩,.int .i64 0])/\Tch NoB V w'):=λV hT=>by
  have:=L.header (n:Int) (L.keep hS.led hT (λ_ e=>e.elim)) (hF.tch hT (λ_ e=>e.elim)) (by omega) (by omega)
  rw [hhdr,if_pos (by omega)] at this
  exact this
 have HVF:Hid (∀V,Tch NoB w V->Calls prog 47 #[.int .i64 (wd:Int),.string ⟨(hdrB hd).toArray⟩,.agg #[.string co.1,.int .i64 co.2],.string ⟨(wayB wy).toArray⟩] V λe w'=>Tch NoB V w'/\∃(x:Int) (y z:Nat),YN ((JZ l co).map λk=>(l.getD k ((⟨#[]⟩,0),(0,0))).2)=.agg #[.int .i64 x,.int .u64 (y:Int),.int .u8 (z:Int)]/\e=.returned (.tuple #[.int .i64 x,.agg #[.int .u64 (y:Int),.int .u8 (z:Int)]])):=λV hT=>by
  rw [<-hsaid]
  exact Jgk wd _ _ co _ (λW hT2=>JiW E wd hw1 hw hd hd2 co hco wy hok hbits hroot W (hF.tch (hT.go hT2) (λ_ e=>e.elim)).env)
 have hsli:n<sl.length:=by omega
 have hheld:=hS.held n sl[n] l (Qd hsli) hsn
 have hcn':=hcells n hsli
 generalize sl[n]=x at *
 obtain ⟨xa,xn,xc⟩:=x
 dsimp only at hheld hcn'
 have hxn:xn=l.length:=by
  rcases hheld.1 with ⟨e,rfl⟩ | ⟨_,_,_,e,_⟩
  ·cases e;rfl
  ·cases e;rfl
 have HFD:Hid (∀V,Tch NoB w V->Calls prog 48 #[.slice xa xn xc,.agg #[.string co.1,.int .i64 co.2]] V λe w'=>e=.returned (.int .i64 (Yt l co))/\Tch NoB V w'):=λV hT=>Jgq (.slice xa xn xc) l co V (hheld.1.tch hT) (hll l (by rw [hl];exact Qx hn))
 have HLIM:Hid ((wayB wy).length<=2+8 * (wd+1) * (2+wd)+wd+10):=hwl
 have hsz:(⟨(wayB wy).toArray⟩:BA).size=(wayB wy).length:=by rw [Ju]
 have HSZ:Hid ((⟨(wayB wy).toArray⟩:BA).size=(wayB wy).length):=hsz
 clear hok hbits hroot hsaid hwl hhdr hd1 hd2 hd3 hwo hst B hwy hc' hcn hF Q hsz hco
 generalize (⟨(hdrB hd).toArray⟩:BA)=hdr at *
 generalize (⟨(wayB wy).toArray⟩:BA)=pf at *
 generalize (wayB wy).length=pl at *
 obtain ⟨cs,cN⟩:=co
 dsimp only at HQ HVF HFD ⊢
 obtain ⟨W,hW⟩:∃W,W=w.alloc (.cells #[.string cs,.int .i64 cN] 49):=⟨_,rfl⟩
 have tA:Tch NoB w W:=by rw [hW];exact Ta _ _ _
 have hrow:W.heap[w.heap.size]? =some (.cells #[.string cs,.int .i64 cN] 49):=by rw [hW];exact Qf _ _
 have HC:Hid (∀V,Tch NoB W V->(V.cell? ⟨xb,0,none⟩=some (.pointer (some ⟨lb,0,none⟩))/\V.cell? ⟨xb,1,none⟩=some (.int .i64 (wd:Int))/\V.cell? ⟨xb,2,none⟩=some (.slice (some ⟨g,0,none⟩) sl.length cap))/\(V.cell? ⟨w.heap.size,0,none⟩=some (.string cs)/\V.cell? ⟨w.heap.size,1,none⟩=some (.int .i64 cN))/\V.cell? ⟨g,n,none⟩=some (.slice xa xn xc)):=λV hT=>by
  have h1:=(hS.next (tA.go hT)).row
  have h2:=(hT.block _ (Jb hrow) (λh=>h)).trans hrow
  exact ⟨⟨Ja h1,Ja h1,Ja h1⟩,⟨Ja h2,Ja h2⟩,((tA.go hT).cell (Qr _ _ hcn') (λh=>h)).trans hcn'⟩
 have HHD:Hid (∀V,Tch NoB W V->Xa V (.slice xa xn xc) l):=λV hT=>hheld.1.tch (tA.go hT)
 have HTA:Hid (Tch NoB w W):=tA
 have HW:Hid (W=_):=hW
 have HXN:Hid (xn=l.length):=hxn
 have hn0:(n:Int)<(sl.length:Int):=by omega
 have hnn:(0:Int)<=(n:Int):=by omega
 have hslb:sl.length<=1000000000:=by omega
 have hxnb:xn<=1000000000:=by rw [hxn];exact Nat.le_of_lt (hll l (by rw [hl];exact Qx hn))
 clear hS hrow hcells hheld hcn' hW tA hl hsn hsl hcl hf hn hll hlen hsli hxn
 generalize sl.length=sn at *
 obtain ⟨⟨a0,a1,a2⟩,⟨a3,a4⟩,a5⟩:=HC.o W (Te _ _)
 go_enter func21,ntmps21
 go_upto_region 1 with fail
 rw [<-HW.o]
 go_cut [7,8] (λv7 v8 wx=>v7=.string pf/\v8=.int .i64 0/\Hid (Tch NoB W wx))
 case first=>
  go_region_with (go_at_call 24;refine (HQ.o _ (HTA.o.go (Td _ W 1))).mono ?_;rintro _ w1 ⟨rfl,ht1⟩;have HT1:Hid (Tch NoB W w1):=(Td NoB W 1).go ht1;clear ht1)
  all_goals
   go_wp2
   go_meet
   exact ⟨rfl,rfl,HT1⟩
 case rest=>
 obtain ⟨rfl,rfl,HT1⟩:=hcut
 obtain ⟨w1,hw1'⟩:∃w1,w1=wc:=⟨wc,rfl⟩
 subst hw1'
 clear a0 a1 a2 a3 a4 a5 HQ HW
 obtain ⟨⟨a0,a1,a2⟩,⟨a3,a4⟩,a5⟩:=HC.o w1 HT1.o
 go_wp2_with fail
 refine (HH.o w1 (HTA.o.go HT1.o)).mono ?_
 rintro _ w2 ⟨rfl,ht2⟩
 have HT2:Hid (Tch NoB W w2):=HT1.o.go ht2
 clear a0 a1 a2 a3 a4 a5 HH ht2 HT1
 obtain ⟨⟨a0,a1,a2⟩,⟨a3,a4⟩,a5⟩:=HC.o w2 HT2.o
 have hlt2:w.heap.size<w2.heap.size:=Qr _ _ a3
 have hne1:¬w.heap.size=w2.heap.size:=by omega
 have hne2:¬w2.heap.size=w.heap.size:=by omega
 have hlt3:xb<w2.heap.size:=Qr _ _ a1
 have hne3:¬xb=w2.heap.size:=by omega
 have hne4:¬w2.heap.size=xb:=by omega
 go_upto_region 3 with fail
 go_cut [11,12] (λv11 v12 wx=>∃(x:Int) (y z:Nat) (ob:Nat),v11=.int .i64 x/\v12=.pointer (some ⟨ob,0,none⟩)/\Hid (YN ((JZ l (cs,cN)).map λk=>(l.getD k ((⟨#[]⟩,0),(0,0))).2)=.agg #[.int .i64 x,.int .u64 (y:Int),.int .u8 (z:Int)])/\Hid (wx.heap[ob]? =some (.cells #[.int .u64 (y:Int),.int .u8 (z:Int)] 80))/\Hid (Tch NoB W wx))
 case first=>
  go_region_with (go_at_call 47;first
   | (refine (HVF.o _ (HTA.o.go (HT2.o.go (Td _ w2 1)))).mono ?_;rintro _ w3 ⟨ht3,x,y,z,hsv,rfl⟩;have HT3:Hid (Tch NoB W w3):=(HT2.o.go (Td NoB w2 1)).go ht3;have HSV:Hid (YN _=_):=hsv;clear ht3 hsv)
   | (refine (HVF.o _ (HTA.o.go (HT2.o.go (Tch.box w2 _)))).mono ?_;rintro _ w3 ⟨ht3,x,y,z,hsv,rfl⟩;have HT3:Hid (Tch NoB W w3):=(HT2.o.go (Tch.box w2 _)).go ht3;have HSV:Hid (YN _=_):=hsv;have hB:w3.heap[w2.heap.size]? =some (.cells #[.int .u64 0,.int .u8 0] 80):=(ht3.block w2.heap.size (by simp [World.drew]) (λh=>h)).trans (Qf w2 _);have g0:w3.cell? ⟨w2.heap.size,0,none⟩=some (.int .u64 0):=Ja hB;have g1:w3.cell? ⟨w2.heap.size,1,none⟩=some (.int .u8 0):=Ja hB;have gF:∀j,w3.frozen? ⟨w2.heap.size,j,none⟩=false:=λj=>Qg _ _ _ _ _ hB;have HB:Hid (w3.heap[w2.heap.size]? =_):=hB;clear ht3 hsv hB))
  all_goals
   go_wp2
   go_meet
  all_goals first
   | exact ⟨x,y,z,w3.heap.size,rfl,rfl,HSV.o,Qf _ _,HT3.o.go (Ta _ _ _)⟩
   | exact ⟨x,y,z,w2.heap.size,rfl,rfl,HSV.o,(by rw [set2 _ _ _ _ _ _ _ HB.o];exact Qi _ _ _ _ _ _ HB.o),(by rw [set2 _ _ _ _ _ _ _ HB.o];exact HT3.o.trans (Ts _ _ _) (λj hj=>.inr (by rw [hj];exact HT2.o.size)))⟩
 case rest=>
 obtain ⟨x,y,z,ob,rfl,rfl,HSV,HOB,HT3⟩:=hcut
 obtain ⟨w3,hw3'⟩:∃w3,w3=wc:=⟨wc,rfl⟩
 subst hw3'
 have HOC:Hid (∀V,Tch NoB w3 V->V.cell? ⟨ob,0,none⟩=some (.int .u64 (y:Int))/\V.cell? ⟨ob,1,none⟩=some (.int .u8 (z:Int))):=λV hT=>by
  have:=(hT.block _ (Jb HOB.o) (λh=>h)).trans HOB.o
  exact ⟨Ja this,Ja this⟩
 clear a0 a1 a2 a3 a4 a5 HVF HOB HT2 hlt2 hne1 hne2 hlt3 hne3 hne4
 obtain ⟨⟨a0,a1,a2⟩,⟨a3,a4⟩,a5⟩:=HC.o w3 HT3.o
 go_upto_region 4 with fail
 go_cut [13] (λvk wx=>vk=.int .i64 (Yt l (cs,cN))/\Hid (Tch NoB w3 wx))
 case first=>
  go_region_with (go_at_call 48;refine (HFD.o _ (HTA.o.go (HT3.o.go (Td _ w3 1)))).mono ?_;rintro _ w4 ⟨rfl,ht4⟩;have HT4:Hid (Tch NoB w3 w4):=(Td NoB w3 1).go ht4;clear ht4)
  all_goals
   go_wp2
   go_meet
   exact ⟨rfl,HT4⟩
 case rest=>
 obtain ⟨rfl,HT4⟩:=hcut
 obtain ⟨w4,hw4'⟩:∃w4,w4=wc:=⟨wc,rfl⟩
 subst hw4'
 have HTB:Hid (Tch NoB w w4):=HTA.o.go (HT3.o.go HT4.o)
 obtain ⟨o0,o1⟩:=HOC.o w4 HT4.o
 clear a0 a1 a2 a3 a4 a5 HFD
 obtain ⟨⟨a0,a1,a2⟩,⟨a3,a4⟩,a5⟩:=HC.o w4 (HT3.o.go HT4.o)
 have hh4:=HHD.o w4 (HT3.o.go HT4.o)
 have HH4:Hid (Xa w4 (.slice xa xn xc) l):=hh4
 have hpl:(pf.size:Int)<=2+8 * ((wd:Int)+1) * (2+(wd:Int))+(wd:Int)+10:=by
  have:=HLIM.o
  rw [HSZ.o]
  exact_mod_cast this
 obtain ⟨M,hM⟩:∃M:Int,8 * ((wd:Int)+1) * (2+(wd:Int))=M:=⟨_,rfl⟩
 have hM0:0<=M:=by rw [<-hM];exact Int.mul_nonneg (by omega) (by omega)
 have hM1:M<=8976:=by
  have:8 * (wd+1) * (2+wd)<=264 * 34:=Nat.mul_le_mul (by omega) (by omega)
  rw [<-hM]
  exact_mod_cast this
 rw [hM] at hpl
 have hlt:¬(2+M+(wd:Int)+10<(pf.size:Int)):=by omega
 have q1:wrap64 M=M:=by simp only [wrap64];omega
 have q2:wrap64 (2+M)=2+M:=by simp only [wrap64];omega
 have q3:wrap64 (2+M+(wd:Int))=2+M+(wd:Int):=by simp only [wrap64];omega
 have q4:wrap64 (2+M+(wd:Int)+10)=2+M+(wd:Int)+10:=by simp only [wrap64];omega
 have hdf:decide (2+M+(wd:Int)+10<(pf.size:Int))=false:=by simp only [decide_eq_false_iff_not];exact hlt
 have hsv:=HSV.o
 clear HC HHD HOC HT3 HT4 HTA hh4 hpl HSV
 cases hfd:JZ l (cs,cN) with
 | none=>
  have hfz:Yt l (cs,cN)= -1:=by unfold Yt;rw [hfd]
  rw [hfd] at hsv
  simp only [Option.map_none,YN,Value.agg.injEq,Array.mk.injEq,QH,Value.int.injEq,true_and,and_true] at hsv
  obtain ⟨rfl,hy,hz⟩:=hsv
  obtain rfl:y=0:=by omega
  obtain rfl:z=0:=by omega
  rw [hfz]
  clear hfz hfd hy hz HH4
  go_upto_region 5 with fail
  go_quiet (fail)
  go_wp2
  go_ret
  exact ⟨rfl,HTB.o.go (Td _ _ _)⟩
 | some k=>
  have hfz:Yt l (cs,cN)=(k:Int):=by unfold Yt;rw [hfd]
  obtain ⟨hkl,hke⟩:=YZ hfd
  clear hke
  rw [hfd] at hsv
  simp only [Option.map_some,YN,Value.agg.injEq,Array.mk.injEq,QH,Value.int.injEq,true_and,and_true] at hsv
  obtain ⟨rfl,hy,hz⟩:=hsv
  have hgd:l.getD k ((⟨#[]⟩,0),(0,0))=l[k]:=by rw [Qn,Qd hkl];rfl
  rw [hgd] at hy hz
  obtain rfl:l[k].2.1=y:=by omega
  obtain rfl:l[k].2.2=z:=by omega
  rcases HH4.o with ⟨e,e2⟩ | ⟨gi,oi,cc,e,hgl,hcell⟩
  ·rw [e2] at hkl;simp at hkl
  ·simp only [Qy] at e
   obtain ⟨rfl,hq,rfl⟩:=e
   obtain ⟨d0,d1,d2,d3⟩:=hcell k hkl
   clear d0 d1
   generalize l[k].2.1=y at *
   generalize l[k].2.2=z at *
   have hk1:(k:Int)<(xn:Int):=by omega
   have hk0:(0:Int)<=(k:Int):=by omega
   have hkn:¬(k:Int)<0:=by omega
   rw [hfz]
   clear hfz hfd hy hz HH4 hcell hq hgl hgd hkl
   go_upto_region 5 with fail
   go_quiet (fail)
   go_upto_region 9 with fail
   go_quiet (fail)
   go_wp2
   go_ret
   exact ⟨rfl,HTB.o.go (Td _ _ _)⟩
