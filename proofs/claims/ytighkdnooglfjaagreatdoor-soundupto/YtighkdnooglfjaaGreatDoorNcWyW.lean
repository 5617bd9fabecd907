import Derived.Test.YtighkdnooglfjaaGreatDoorNcWyS
namespace Go.Proofs.YtighkdnooglfjaaGreatDoor
open Go.Proofs.Tryz
set_option maxRecDepth 100000
set_option maxHeartbeats 2000000
open Go.RowKit

theorem JeX (b:Nat) (wd:Nat) (hw:wd<=1000) (w:World) (c1:w.cell? ⟨b,1,none⟩=some (.int .i64 (wd:Int))):
  Calls prog 217 #[.pointer (some ⟨b,0,none⟩)] w λe w'=>e=.returned (.int .i64 ((8 * (wd+1):Nat):Int))/\w'=w:=by
 have hww:IntKind.i64.wrap ((wd:Int)+1)=(wd:Int)+1:=JI _ (by omega) (by omega)
 have hw8:IntKind.i64.wrap (8 * ((wd:Int)+1))=((8 * (wd+1):Nat):Int):=by rw [JI _ (by omega) (by omega)];omega
 go_enter func217,ntmps217
 go_wp2
 go_ret
 exact ⟨rfl,rfl⟩
theorem set5 (w:World) (g:Nat) (t:TypeId) (a b c d e v0 v1 v2 v3 v4:Value) (h:w.heap[g]? =some (.cells #[a,b,c,d,e] t (0,0))):
  ((((w.setCell ⟨g,0,none⟩ v0).setCell ⟨g,1,none⟩ v1).setCell ⟨g,2,none⟩ v2).setCell ⟨g,3,none⟩ v3).setCell ⟨g,4,none⟩ v4=w.setRow g #[v0,v1,v2,v3,v4]:=by
 rw [Qj w g 0 _ t (0,0) v0 h,Qj _ g 1 _ t (0,0) v1 (Qi w g _ _ _ _ h),QI,Qj _ g 2 _ t (0,0) v2 (Qi w g _ _ _ _ h),QI,Qj _ g 3 _ t (0,0) v3 (Qi w g _ _ _ _ h),QI,Qj _ g 4 _ t (0,0) v4 (Qi w g _ _ _ _ h),QI]
 rfl
def ToS (E:Nat->Addr) (w:World) (b:Nat) (g:Option Nat) (wd:Nat) (r:Option (List Stp×PS)) (e:Ending) (w':World):Prop:=
 ∃x1 x2 x3,e=.returned (.slice x1 x2 x3)/\StTo E w w' b g wd (r.map (·.2))/\
  ∀ys p2,r=some (ys,p2)->∃gp,x1=some ⟨gp,0,none⟩/\x2=ys.length/\x3=ys.length/\w.heap.size<=gp/\w'.heap[gp]? =some (.cells (vvA (ys.map encS)) 366)/\∀g',Je E w' b g' wd (some p2)->some gp ≠ g'
theorem ToS.of {E:Nat->Addr} {w w':World} {b:Nat} {g:Option Nat} {wd:Nat} {r:Option (List Stp×PS)} {e:Ending} (h:ToL lkS E w b g wd (ZQ wd) r e w'):ToS E w b g wd r e w':=by
 cases r with
 | none=>
  obtain ⟨⟨x1,x2,x3,rfl⟩,g',p',v,h1,h2,h3,h4⟩:=h
  obtain ⟨t,u,rfl⟩:=h2.iface
  exact ⟨x1,x2,x3,rfl,⟨g',⟨p',t,u,h1,h2⟩,h3,h4⟩,λts p2 h=>by cases h⟩
 | some r=>
  obtain ⟨ys,p2⟩:=r
  obtain ⟨gp,xs,rfl,h2,h3,h4,g',h5,h6,h7,h8,h9⟩:=h
  refine ⟨_,_,_,rfl,⟨g',h5,h8,h9⟩,λts p3 h=>?_⟩
  simp only [Qh,Qw] at h
  obtain ⟨rfl,rfl⟩:=h
  refine ⟨gp,rfl,rfl,rfl,h2,?_,λg2 hg=>by rw [Je.same (E:=E) hg (st':=some p2) h5];exact h6⟩
  have e:xs=ys.map encS:=by
   apply List.ext_getElem?
   intro j
   rw [List.getElem?_map]
   by_cases hj:j<ys.length
   ·rw [Qd hj,Qd (by omega:j<xs.length)]
    exact congrArg some (h7 j _ _ (Qd (by omega)) (Qd hj))
   ·rw [List.getElem?_eq_none (by omega),List.getElem?_eq_none (by omega)];rfl
  rw [<-e];exact h3
def PS.lstS (wd:Nat) (l:List Stp) (p:PS):Option (List Stp×PS):=p.lst (ZQ wd).f (0,⟨#[]⟩) 2 0 (8 * (wd+1)) l
theorem Jf4 {wd:Nat} {l ys:List Stp} {p p2:PS} {v:Value} (ht:p.takes v) (hv:v=.slice none 0 0->l=[]) (h:p.lstS wd l=some (ys,p2)):p.like p2/\p2.len<=p.len+2+(wd+2) * (8 * (wd+1))/\ys.length<=8 * (wd+1):=by
 obtain ⟨h1,_,h3,h4⟩:=Jbr (n:=wd+2) (λa p a' p' h=>JaN h) ht hv h
 exact ⟨h1,Qm h4 (by have:=Nat.mul_le_mul_left (wd+2) h3;omega),h3⟩
theorem Jjz (E:Nat->Addr) (b:Nat) (hb12:18<=b) (g:Option Nat) (wd:Nat) (hw:wd<=32) (v:Value) (l:List Stp) (p:PS) (w:World) (hE:Env E w) (hp:Jc w b g wd .nilIface p) (hv:VAt w.heap.size w v (l.map encS)) (hvb:JaT b g v) (hl:l.length<1000) (hs:∀s∈l,s.1<65536) (ht:p.takes v) (hd:p.len<=70000000):
  Calls prog 216 #[.pointer (some ⟨b,0,none⟩),.agg #[.string ⟨#[115,116,101,112]⟩,.int .i64 2,.int .u64 0,.int .u64 ((8 * (wd+1):Nat):Int)],v,.func (.func 218) #[.pointer (some ⟨b,0,none⟩)] #[]] w λe w'=>ToS E w b g wd (p.lstS wd l) e w':=by
 have H:=lawS E b hb12 wd 80000000 (by omega) (by omega)
 have hg:(ZQ wd).grow=wd+2:=rfl
 refine (JkN H rfl hb12 g ⟨#[115,116,101,112]⟩ (by decide) 2 0 (8 * (wd+1)) v (l.map encS) l p w hE hp hv hvb (by simp) (by omega) (by rw [hg];omega) (by omega) (by omega) (by omega) ht (λj x a h1 h2=>?_)).mono λe w' h=>ToS.of h
 rw [List.getElem?_map,h2] at h1
 cases h1
 exact ⟨rfl,hs a (QR h2)⟩
def XL (r:Option (List Stp×PS)):Option PS:=match r with
 | none=>none
 | some (ys,p)=>Xa ys (some p)
theorem Jh5 (E:Nat->Addr) (b:Nat) (g:Option Nat) (wd:Int) (r:Option (List Stp×PS)) (x1:Option Addr) (x2 x3:Nat) (w:World) (hE:Env E w) (hp:Je E w b g wd (r.map (·.2))) (hn:∀ys p2,r=some (ys,p2)->ys.length<=300) (hx:∀ys p2,r=some (ys,p2)->∃gp,x1=some ⟨gp,0,none⟩/\x2=ys.length/\x3=ys.length/\gp ≠ b/\w.heap[gp]? =some (.cells (vvA (ys.map encS)) 366)/\some gp ≠ g):
  Calls prog 219 #[.pointer (some ⟨b,0,none⟩),.string ⟨#[115,116,101,112]⟩,.slice x1 x2 x3,.func (.func 220) #[] #[]] w λe w'=>e=.returned (.tuple #[])/\StTo E w w' b g wd (XL r):=by
 cases r with
 | none=>
  refine (Jfe E b g wd _ x1 x2 x3 w hp).mono ?_
  rintro _ _ ⟨rfl,rfl⟩
  exact ⟨rfl,g,hp,.inl rfl,Te _ _⟩
 | some r=>
  obtain ⟨ys,p⟩:=r
  obtain ⟨gp,rfl,rfl,rfl,h1,h2,h3⟩:=hx ys p rfl
  exact Jff E b g wd _ (by decide) gp ys (hn ys p rfl) p w hE hp h2 h1 h3
theorem Jfg {E:Nat->Addr} {w w':World} {b gp:Nat} {g g':Option Nat} {wd:Int} {st:Option PS} {o:Obj} (k:StTo E w w' b g wd st) (hp:Je E w' b g' wd st) (h1:w.heap[gp]? =some o) (hb:gp ≠ b) (hg:some gp ≠ g):w'.heap[gp]? =some o/\some gp ≠ g':=by
 obtain ⟨g2,k1,k2,k3⟩:=k
 have hl:=(Jb h1)
 obtain rfl:g2=g':=k1.same hp
 refine ⟨(k3.block gp hl (by rintro (e | e);exact hb e;exact hg e)).trans h1,?_⟩
 rcases k2 with rfl | ⟨i,rfl,hi⟩
 ·exact hg
 ·intro e;cases e;omega
def PS.way (wd:Nat) (l:List Stp) (m:Bool) (k:BA) (o:Nat×Nat) (p:PS):Option (Wy×PS):=
 match p.lstS wd l with
 | none=>none
 | some (ys,p1)=>
  if ys.length=0/\Zk m (Xa ys (some p1))=false then (Xa ys (some p1)).map λp=>(([],none),p)
  else (Jt wd k o (Xa ys (some p1))).2.map λp=>((ys,some (Jt wd k o (Xa ys (some p1))).1),p)
def WyAt (w:World) (B:Nat) (b:Nat) (g:Option Nat) (wy:Wy) (x:Option Addr×Nat×Nat) (m:Bool) (k:BA) (a o:Nat):Prop:=
 (wy=([],none)/\x=(none,0,0)/\m=false/\k=⟨#[]⟩/\a=0/\o=0)\/
 ∃gp,x=(some ⟨gp,0,none⟩,wy.1.length,wy.1.length)/\B<=gp/\gp ≠ b/\some gp ≠ g/\w.heap[gp]? =some (.cells (vvA (wy.1.map encS)) 366)/\m=true/\wy.2=some (k.data.toList,(a,o))
def ToW (E:Nat->Addr) (w:World) (b:Nat) (g:Option Nat) (wd:Nat) (r:Option (Wy×PS)) (e:Ending) (w':World):Prop:=
 ∃x1 x2 x3 m k a o g',e=.returned (.agg #[.slice x1 x2 x3,.bool m,.string k,.int .u64 (a:Nat),.int .u8 (o:Nat)])/\Je E w' b g' wd (r.map (·.2))/\Jn w g g'/\Tch (λk=>k=b\/some k=g) w w'/\
  ∀wy p2,r=some (wy,p2)->WyAt w' w.heap.size b g' wy (x1,x2,x3) m k a o
theorem Jgi (wd:Nat) (k:BA) (o:Nat×Nat):(Jt wd k o none).2=none:=rfl
theorem Jgj (ys:List Stp) (p:PS):JK (Xa ys (some p))<=p.len:=by
 unfold Xa
 split
 ·exact Ql _
 ·exact Nat.zero_le _
theorem JgB (E:Nat->Addr) (b:Nat) (hb12:18<=b) (g:Option Nat) (wd:Nat) (hw:wd<=32) (v1:Option Addr) (v2 v3:Nat) (l:List Stp) (m:Bool) (k:BA) (a o:Nat) (ho:o<256) (p:PS) (w:World) (hE:Env E w) (hp:Jc w b g wd .nilIface p) (hv:VAt w.heap.size w (.slice v1 v2 v3) (l.map encS)) (hvb:JaT b g (.slice v1 v2 v3)) (hl:l.length<1000) (hs:∀s∈l,s.1<65536) (ht:p.takes (.slice v1 v2 v3)) (hd:p.len<=60000000):
  Calls prog 146 #[.pointer (some ⟨b,0,none⟩),.agg #[.slice v1 v2 v3,.bool m,.string k,.int .u64 (a:Int),.int .u8 (o:Int)]] w λe w'=>ToW E w b g wd (p.way wd l m k (a,o)) e w':=by
 have hlt:=hp.lt
 have tA:=Tch.allocs NoB w (.cells #[.slice v1 v2 v3,.bool m,.string k,.int .u64 (a:Int),.int .u8 (o:Int)] 258) (.cells #[.slice none 0 0,.bool false,.string ⟨#[]⟩,.int .u64 0,.int .u8 0] 258)
 have HR0:=Run.start (st:=some p) hb12 hE hp tA
 have hvn:(Value.slice v1 v2 v3)=.slice none 0 0->l=[]:=λe=>by
  have:=hv.shape
  obtain ⟨a,c,h⟩:=this
  rw [e] at h
  simp at h
  cases l with
  | nil=>rfl
  | cons x l=>simp at h
 have HF:Hid (∀ys p2,p.lstS wd l=some (ys,p2)->p2.len<=p.len+2+(wd+2) * (8 * (wd+1))/\ys.length<=8 * (wd+1)):=λys p2 h=>(Jf4 ht hvn h).2
 have HW:Hid ((wd+2) * (8 * (wd+1))<=34 * 264):=Nat.mul_le_mul (by omega) (by omega)
 have HC:Hid (∀W,Tch NoB w W->Calls prog 216 _ W _):=λW hT=>Jjz E b hb12 g wd hw (.slice v1 v2 v3) l p W (hE.tch hT noE) (hp.tch hT (λh=>h) (λ_ _ h=>h)) ((hv.tch hT noE).up hT.size) hvb hl hs ht (by omega)
 have HKB:Hid (∀W,Tch NoB w W->Calls prog 217 _ W _):=λW hT=>JeX b wd (by omega) W ((hp.tch hT (λh=>h) (λ_ _ h=>h)) |> λh=>Je.width (E:=E) (st:=some p) h)
 have HPL:Hid (p.len<=60000000):=hd
 have hmf:∀(fn:Fn) (first cap:Array Value) (w:World),(Instr.makeFunc fn first cap).run prog w=.ok (.func fn first cap) w:=λ_ _ _ _=>rfl
 have HT0:Hid (Tch _ _ _):=tA
 have RUN:Hid (Run _ _ _ _ _ _ _ _ _):=HR0
 have hwu:IntKind.u64.wrap ((8 * (wd+1):Nat):Int)=((8 * (wd+1):Nat):Int):=JB _ (by omega) (by omega)
 have HB0:=heap_alloc2_old w (.cells #[.slice v1 v2 v3,.bool m,.string k,.int .u64 (a:Int),.int .u8 (o:Int)] 258) (.cells #[.slice none 0 0,.bool false,.string ⟨#[]⟩,.int .u64 0,.int .u8 0] 258)
 have HB1:=heap_alloc2_new w (.cells #[.slice v1 v2 v3,.bool m,.string k,.int .u64 (a:Int),.int .u8 (o:Int)] 258) (.cells #[.slice none 0 0,.bool false,.string ⟨#[]⟩,.int .u64 0,.int .u8 0] 258)
 have BX0:Hid (_=_):=HB0
 have BX1:Hid (_=_):=HB1
 clear hE hp hv hvb hs ht HR0 tA HB0 HB1 hvn hd hl
 generalize hKB:(8 * (wd+1):Nat)=kb at *
 have HKE:Hid (8 * (wd+1)=kb):=hKB
 clear hKB
 go_enter func146,ntmps146
 go_upto_region 1 with fail
 go_cut [5] (λv wx=>∃x1 x2 x3 g1,v=.slice x1 x2 x3/\Hid (Run E w ((w.alloc (.cells #[.slice v1 v2 v3,.bool m,.string k,.int .u64 (a:Int),.int .u8 (o:Int)] 258)).alloc (.cells #[.slice none 0 0,.bool false,.string ⟨#[]⟩,.int .u64 0,.int .u8 0] 258)) wx b g g1 wd ((p.lstS wd l).map (·.2)))/\Hid (∀ys p2,p.lstS wd l=some (ys,p2)->∃gp,x1=some ⟨gp,0,none⟩/\x2=ys.length/\x3=ys.length/\w.heap.size<=gp/\gp ≠ b/\wx.heap[gp]? =some (.cells (vvA (ys.map encS)) 366)/\some gp ≠ g1))
 case first=>
  have HT1:Hid (Tch NoB w _):=HT0.o.trans (Td NoB _ 1) noE
  have HRUN1:Hid (Run _ _ _ _ _ _ _ _ _):=RUN.out.next (Td NoB _ 1)
  clear HF HW HPL HT0 RUN BX0 BX1
  go_region_with (first
   | (go_at_call 217;refine (HKB.o _ HT1.o).mono ?_;rintro _ _ ⟨rfl,rfl⟩)
   | (go_at_call 216;refine (HC.o _ HT1.o).mono ?_;rintro _ w1 ⟨x1,x2,x3,rfl,hst,hx⟩;obtain ⟨g1,R1⟩:=HRUN1.o.step hst;have HX:Hid (∀ys p2,p.lstS wd l=some (ys,p2)->∃gp,x1=some ⟨gp,0,none⟩/\x2=ys.length/\x3=ys.length/\w.heap.size<=gp/\gp ≠ b/\w1.heap[gp]? =some (.cells (vvA (ys.map encS)) 366)/\some gp ≠ g1):=(λys p2 hq=>by
      obtain ⟨gp,q1,q2,q3,q4,q5,q6⟩:=hx ys p2 hq
      have hz:=HT1.o.size
      refine ⟨gp,q1,q2,q3,by omega,by omega,q5,q6 g1 ?_⟩
      have:=R1.port
      rw [hq] at this
      exact this);have HR1:Hid (Run _ _ _ _ _ _ _ _ _):=R1;clear R1 hx hst))
  all_goals
   go_wp2
   go_meet
   exact ⟨x1,x2,x3,g1,rfl,HR1,HX⟩
 case rest=>
 obtain ⟨x1,x2,x3,g1,rfl,HR1,HX⟩:=hcut
 obtain ⟨w1,hw1⟩:∃w1,w1=wc:=⟨wc,rfl⟩
 subst hw1
 clear HC HKB hwu hmf RUN
 have HRS:Hid (Calls prog 219 _ w1 _):=Jh5 E b g1 wd (p.lstS wd l) x1 x2 x3 w1 HR1.o.env HR1.o.port (λys p2 h=>by have:=(HF.o ys p2 h).2;have:=HKE.o;omega) (λys p2 h=>by obtain ⟨gp,q1,q2,q3,q4,q5,q6,q7⟩:=HX.o ys p2 h;exact ⟨gp,q1,q2,q3,q5,q6,q7⟩)
 go_wp2_with fail
 refine HRS.o.mono ?_
 rintro _ w2 ⟨rfl,hst⟩
 obtain ⟨g2,R2⟩:=HR1.o.step hst
 have HX2:Hid (∀ys p2,p.lstS wd l=some (ys,p2)->∃gp,x1=some ⟨gp,0,none⟩/\x2=ys.length/\x3=ys.length/\w.heap.size<=gp/\gp ≠ b/\w2.heap[gp]? =some (.cells (vvA (ys.map encS)) 366)/\some gp ≠ g2):=λys p2 h=>by
  obtain ⟨gp,q1,q2,q3,q4,q5,q6,q7⟩:=HX.o ys p2 h
  obtain ⟨r1,r2⟩:=Jfg hst R2.port q6 q5 q7
  exact ⟨gp,q1,q2,q3,q4,q5,r1,r2⟩
 have bx2:=(R2.box (k:=w.heap.size) (Ql _) BX0.out).1
 have c1:w2.cell? ⟨w.heap.size,1,none⟩=some (.bool m):=Ja bx2
 have c2:w2.cell? ⟨w.heap.size,2,none⟩=some (.string k):=Ja bx2
 have c3:w2.cell? ⟨w.heap.size,3,none⟩=some (.int .u64 (a:Int)):=Ja bx2
 have c4:w2.cell? ⟨w.heap.size,4,none⟩=some (.int .u8 (o:Int)):=Ja bx2
 have HLEN:Hid (JK (XL (p.lstS wd l))<=80000000):=by
  show JK (XL (p.lstS wd l))<=80000000
  cases hq:p.lstS wd l with
  | none=>simp [XL,JK]
  | some r=>
   obtain ⟨ys,p2⟩:=r
   have h1:=Jgj ys p2
   have h2:=(HF.o ys p2 hq).1
   have h3:=HW.o
   have h4:=HPL.o
   simp only [XL]
   omega
 have RUN2:Hid (Run _ _ _ _ _ _ _ _ _):=R2
 clear R2 hst HX HRS HR1 bx2
 have HMO:Hid (Calls prog 221 _ w2 _):=JkU E b g2 wd m _ w2 RUN2.out.port
 have HWAY:Hid (p.way wd l m k (a,o)=match p.lstS wd l with
 | none=>none
 | some (ys,p1)=>
  if ys.length=0/\Zk m (Xa ys (some p1))=false then (Xa ys (some p1)).map λp=>(([],none),p)
  else (Jt wd k (a,o) (Xa ys (some p1))).2.map λp=>((ys,some (Jt wd k (a,o) (Xa ys (some p1))).1),p)):=(by unfold PS.way;rfl)
 go_upto_region 3 with fail
 go_cut [28] (λv wx=>v=.bool (decide (x2=0/\Zk m (XL (p.lstS wd l))=false))/\Hid (Tch NoB w2 wx))
 case first=>
  clear HF HW HPL BX0 BX1 HLEN HX2 HT0
  by_cases hx0:x2=0
  ·have hx0i:((x2:Nat):Int)=0:=by omega
   have HX0:Hid (x2=0):=hx0
   clear hx0
   go_wp2_with fail
   refine HMO.o.mono ?_
   rintro _ w3 ⟨rfl,ht⟩
   have HT3:Hid (Tch _ _ _):=ht
   clear ht
   go_wp2
   go_meet
   refine ⟨?_,HT3⟩
   rw [show decide (x2=0/\Zk m (XL (p.lstS wd l))=false)= !Zk m (XL (p.lstS wd l)) by simp [HX0.o]]
  ·have hx0i:¬((x2:Nat):Int)=0:=by omega
   go_wp2
   go_meet
   exact ⟨by simp [hx0],Te _ _⟩
 case rest=>
 obtain ⟨rfl,HT23⟩:=hcut
 obtain ⟨w3,hw3⟩:∃w3,w3=wc:=⟨wc,rfl⟩
 subst hw3
 have R3:=RUN2.out.next HT23.o
 have bx3:=(R3.box (k:=w.heap.size) (Ql _) BX0.out).1
 have c1:w3.cell? ⟨w.heap.size,1,none⟩=some (.bool m):=Ja bx3
 have c2:w3.cell? ⟨w.heap.size,2,none⟩=some (.string k):=Ja bx3
 have c3:w3.cell? ⟨w.heap.size,3,none⟩=some (.int .u64 (a:Int)):=Ja bx3
 have c4:w3.cell? ⟨w.heap.size,4,none⟩=some (.int .u8 (o:Int)):=Ja bx3
 have HX3:Hid (∀ys p2,p.lstS wd l=some (ys,p2)->∃gp,x1=some ⟨gp,0,none⟩/\x2=ys.length/\x3=ys.length/\w.heap.size<=gp/\gp ≠ b/\w3.heap[gp]? =some (.cells (vvA (ys.map encS)) 366)/\some gp ≠ g2):=λys p2 h=>by
  obtain ⟨gp,q1,q2,q3,q4,q5,q6,q7⟩:=HX2.o ys p2 h
  exact ⟨gp,q1,q2,q3,q4,q5,(HT23.o.block gp (Jb q6) (λh=>h)).trans q6,q7⟩
 have RUN3:Hid (Run _ _ _ _ _ _ _ _ _):=R3
 clear R3 bx3 HX2 HT23 HMO RUN2 HF HW HPL HT0
 by_cases hc:x2=0/\Zk m (XL (p.lstS wd l))=false
 ·have HCC:Hid (_/\_):=hc
  rw [decide_eq_true hc]
  clear hc
  have rR:=(RUN3.out.box (k:=w.heap.size+1) (by omega) BX1.out).1
  have e0:w3.cell? ⟨w.heap.size+1,0,none⟩=some (.slice none 0 0):=Ja rR
  have e1:w3.cell? ⟨w.heap.size+1,1,none⟩=some (.bool false):=Ja rR
  have e2:w3.cell? ⟨w.heap.size+1,2,none⟩=some (.string ⟨#[]⟩):=Ja rR
  have e3:w3.cell? ⟨w.heap.size+1,3,none⟩=some (.int .u64 0):=Ja rR
  have e4:w3.cell? ⟨w.heap.size+1,4,none⟩=some (.int .u8 0):=Ja rR
  have fR:∀j,w3.frozen? ⟨w.heap.size+1,j,none⟩=false:=λj=>Qg _ _ _ _ _ rR
  have RR:Hid (_=_):=rR
  clear rR
  go_wp2
  rw [set5 _ _ _ _ _ _ _ _ _ _ _ _ _ RR.out]
  have hst:=RUN3.out.done (k:=w.heap.size+1) (cs:= #[.slice none 0 0,.bool false,.string ⟨#[]⟩,.int .u64 0,.int .u8 0]) (by omega) BX1.out (by decide)
  refine QJ (v:=.agg #[.slice none 0 0,.bool false,.string ⟨#[]⟩,.int .u64 0,.int .u8 0]) (Qq results146 _ _ (w.heap.size+1) _ _ (0,0) _ rfl (Qi _ _ _ _ _ _ RR.out) underlying258 rfl (by kernel_rfl)) rfl ?_
  obtain ⟨g',h1,h2,h3⟩:=hst
  obtain ⟨hx0,hm0⟩:=HCC.o
  refine ⟨none,0,0,false,⟨#[]⟩,0,0,g',rfl,?_,h2,h3,?_⟩
  ·rw [HWAY.o]
   cases hq:p.lstS wd l with
   | none=>rw [hq] at h1;exact h1
   | some r=>
    obtain ⟨ys,p1⟩:=r
    rw [hq] at h1 hm0
    obtain ⟨_,_,q2,_⟩:=HX3.o ys p1 hq
    simp only [XL] at h1 hm0
    dsimp only
    rw [if_pos ⟨by omega,hm0⟩,Option.map_map]
    cases hr:Xa ys (some p1) with
    | none=>rw [hr] at h1;exact h1
    | some p2=>rw [hr] at h1;exact h1
  ·intro wy p2 h
   rw [HWAY.o] at h
   cases hq:p.lstS wd l with
   | none=>rw [hq] at h;cases h
   | some r=>
    obtain ⟨ys,p1⟩:=r
    rw [hq] at h hm0
    obtain ⟨_,_,q2,_⟩:=HX3.o ys p1 hq
    simp only [XL] at hm0
    dsimp only at h
    rw [if_pos ⟨by omega,hm0⟩] at h
    cases hr:Xa ys (some p1) with
    | none=>rw [hr] at h;cases h
    | some p2=>rw [hr] at h;cases h;exact .inl ⟨rfl,rfl,rfl,rfl,rfl,rfl⟩
 ·have HCC:Hid (¬(_/\_)):=hc
  rw [decide_eq_false hc]
  clear hc
  have HLF:Hid (Calls prog 222 _ w3 _):=JgT E b hb12 g2 wd (by omega) k a o ho _ w3 RUN3.out.env RUN3.out.port HLEN.o
  go_wp2_with fail
  refine HLF.o.mono ?_
  rintro _ w4 ⟨rfl,hst⟩
  obtain ⟨g4,R4⟩:=RUN3.out.step hst
  have HX4:Hid (∀ys p2,p.lstS wd l=some (ys,p2)->∃gp,x1=some ⟨gp,0,none⟩/\x2=ys.length/\x3=ys.length/\w.heap.size<=gp/\gp ≠ b/\w4.heap[gp]? =some (.cells (vvA (ys.map encS)) 366)/\some gp ≠ g4):=λys p2 h=>by
   obtain ⟨gp,q1,q2,q3,q4,q5,q6,q7⟩:=HX3.o ys p2 h
   obtain ⟨r1,r2⟩:=Jfg hst R4.port q6 q5 q7
   exact ⟨gp,q1,q2,q3,q4,q5,r1,r2⟩
  have rR:=(R4.box (k:=w.heap.size+1) (by omega) BX1.out).1
  have e0:w4.cell? ⟨w.heap.size+1,0,none⟩=some (.slice none 0 0):=Ja rR
  have e1:w4.cell? ⟨w.heap.size+1,1,none⟩=some (.bool false):=Ja rR
  have e2:w4.cell? ⟨w.heap.size+1,2,none⟩=some (.string ⟨#[]⟩):=Ja rR
  have e3:w4.cell? ⟨w.heap.size+1,3,none⟩=some (.int .u64 0):=Ja rR
  have e4:w4.cell? ⟨w.heap.size+1,4,none⟩=some (.int .u8 0):=Ja rR
  have fR:∀j,w4.frozen? ⟨w.heap.size+1,j,none⟩=false:=λj=>Qg _ _ _ _ _ rR
  have RR:Hid (_=_):=rR
  have RUN4:Hid (Run _ _ _ _ _ _ _ _ _):=R4
  clear rR R4 hst HLF HX3 RUN3
  go_wp2
  rw [set5 _ _ _ _ _ _ _ _ _ _ _ _ _ RR.out]
  have hst:=RUN4.out.done (k:=w.heap.size+1) (cs:= #[.slice x1 x2 x3,.bool true,.string ⟨(Jt wd k (a,o) (XL (p.lstS wd l))).1.1.toArray⟩,.int .u64 ((Jt wd k (a,o) (XL (p.lstS wd l))).1.2.1:Int),.int .u8 ((Jt wd k (a,o) (XL (p.lstS wd l))).1.2.2:Int)]) (by omega) BX1.out (by decide)
  refine QJ (v:=.agg #[.slice x1 x2 x3,.bool true,.string ⟨(Jt wd k (a,o) (XL (p.lstS wd l))).1.1.toArray⟩,.int .u64 ((Jt wd k (a,o) (XL (p.lstS wd l))).1.2.1:Int),.int .u8 ((Jt wd k (a,o) (XL (p.lstS wd l))).1.2.2:Int)]) (Qq results146 _ _ (w.heap.size+1) _ _ (0,0) _ rfl (Qi _ _ _ _ _ _ RR.out) underlying258 rfl (by kernel_rfl)) rfl ?_
  obtain ⟨g',h1,h2,h3⟩:=hst
  have hgg:g'=g4:=h1.same (RUN4.out.port.row RR.out (by decide) (RUN4.out.box (k:=w.heap.size+1) (by omega) BX1.out).2)
  refine ⟨x1,x2,x3,true,⟨(Jt wd k (a,o) (XL (p.lstS wd l))).1.1.toArray⟩,(Jt wd k (a,o) (XL (p.lstS wd l))).1.2.1,(Jt wd k (a,o) (XL (p.lstS wd l))).1.2.2,g',rfl,?_,h2,h3,?_⟩
  ·rw [HWAY.o]
   cases hq:p.lstS wd l with
   | none=>rw [hq] at h1;exact h1
   | some r=>
    obtain ⟨ys,p1⟩:=r
    have hcc:=HCC.o
    rw [hq] at h1 hcc
    obtain ⟨_,_,q2,_⟩:=HX4.o ys p1 hq
    simp only [XL] at h1 hcc
    dsimp only
    rw [if_neg (by rw [<-q2];exact hcc),Option.map_map]
    cases hr:(Jt wd k (a,o) (Xa ys (some p1))).2 with
    | none=>rw [hr] at h1;exact h1
    | some p2=>rw [hr] at h1;exact h1
  ·intro wy p2 h
   rw [HWAY.o] at h
   cases hq:p.lstS wd l with
   | none=>rw [hq] at h;cases h
   | some r=>
    obtain ⟨ys,p1⟩:=r
    have hcc:=HCC.o
    rw [hq] at h hcc
    obtain ⟨gp,q1,q2,q3,q4,q5,q6,q7⟩:=HX4.o ys p1 hq
    simp only [XL] at hcc
    dsimp only at h
    rw [if_neg (by rw [<-q2];exact hcc)] at h
    cases hr:(Jt wd k (a,o) (Xa ys (some p1))).2 with
    | none=>rw [hr] at h;cases h
    | some p3=>
     rw [hr] at h
     cases h
     refine .inr ⟨gp,by rw [q1,q2,q3],q4,q5,by rw [hgg];exact q7,?_,rfl,rfl⟩
     have hne:gp ≠ w.heap.size+1:=by
      intro e
      have:=RR.out
      rw [<-e,q6] at this
      simp at this
     exact (setRow_other _ _ _ _ hne).trans q6
