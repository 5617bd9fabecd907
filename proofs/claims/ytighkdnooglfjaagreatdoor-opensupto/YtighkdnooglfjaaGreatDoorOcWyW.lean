import Derived.Test.YtighkdnooglfjaaGreatDoorOcKSpec
import Derived.Test.YtighkdnooglfjaaGreatDoorOcTree6
namespace Go.Proofs.YtighkdnooglfjaaGreatDoor
open Go.Proofs.Tryz
set_option maxRecDepth 100000
set_option maxHeartbeats 2000000
open Go.RowKit

theorem Jfq (b:Nat) (wd:Nat) (hw:wd<=1000) (w:World) (c1:w.cell? ⟨b,1,none⟩=some (.int .i64 (wd:Int))):
  Calls prog 217 #[.pointer (some ⟨b,0,none⟩)] w λe w'=>e=.returned (.int .i64 ((8 * (wd+1):Nat):Int))/\w'=w:=by
 have hww:IntKind.i64.wrap ((wd:Int)+1)=(wd:Int)+1:=JC _ (by omega) (by omega)
 have hw8:IntKind.i64.wrap (8 * ((wd:Int)+1))=((8 * (wd+1):Nat):Int):=by rw [JC _ (by omega) (by omega)];omega
 go_enter func217,ntmps217
 go_wp2
 go_ret
 exact ⟨rfl,rfl⟩
theorem set5 (w:World) (g:Nat) (t:TypeId) (a b c d e v0 v1 v2 v3 v4:Value) (h:w.heap[g]? =some (.cells #[a,b,c,d,e] t (0,0))):
  ((((w.setCell ⟨g,0,none⟩ v0).setCell ⟨g,1,none⟩ v1).setCell ⟨g,2,none⟩ v2).setCell ⟨g,3,none⟩ v3).setCell ⟨g,4,none⟩ v4=w.setRow g #[v0,v1,v2,v3,v4]:=by
 rw [Qj w g 0 _ t (0,0) v0 h,Qj _ g 1 _ t (0,0) v1 (Qi w g _ _ _ _ h),QI,Qj _ g 2 _ t (0,0) v2 (Qi w g _ _ _ _ h),QI,Qj _ g 3 _ t (0,0) v3 (Qi w g _ _ _ _ h),QI,Qj _ g 4 _ t (0,0) v4 (Qi w g _ _ _ _ h),QI]
 rfl
def ToS (E:Nat->Addr) (w:World) (b:Nat) (g:Option Nat) (wd:Nat) (r:Option (List Stp×PS)) (e:Ending) (w':World):Prop:=
 ∃x1 x2 x3,e=.returned (.slice x1 x2 x3)/\StTo E w w' b g wd (r.map (·.2))/\
  ∀ys p2,r=some (ys,p2)->∃gp,x1=some ⟨gp,0,none⟩/\x2=ys.length/\x3=ys.length/\w.heap.size<=gp/\w'.heap[gp]? =some (.cells (vvA (ys.map encS)) 366)/\∀g',Jh E w' b g' wd (some p2)->some gp ≠ g'
theorem ToS.of {E:Nat->Addr} {w w':World} {b:Nat} {g:Option Nat} {wd:Nat} {r:Option (List Stp×PS)} {e:Ending} (h:ToL lkS E w b g wd (Jbg wd) r e w'):ToS E w b g wd r e w':=by
 cases r with
 | none=>
  obtain ⟨⟨x1,x2,x3,rfl⟩,g',p',v,h1,h2,h3,h4⟩:=h
  obtain ⟨t,u,rfl⟩:=h2.iface
  exact ⟨x1,x2,x3,rfl,⟨g',⟨p',t,u,h1,h2⟩,h3,h4⟩,λts p2 h=>by cases h⟩
 | some r=>
  obtain ⟨ys,p2⟩:=r
  obtain ⟨gp,xs,rfl,h2,h3,h4,g',h5,h6,h7,h8,h9⟩:=h
  refine ⟨_,_,_,rfl,⟨g',h5,h8,h9⟩,λts p3 h=>?_⟩
  simp only [Qh,Qw] at h
  obtain ⟨rfl,rfl⟩:=h
  refine ⟨gp,rfl,rfl,rfl,h2,?_,λg2 hg=>by rw [Jh.same (E:=E) hg (st':=some p2) h5];exact h6⟩
  have e:xs=ys.map encS:=by
   apply List.ext_getElem?
   intro j
   rw [List.getElem?_map]
   by_cases hj:j<ys.length
   ·rw [Qd hj,Qd (by omega:j<xs.length)]
    exact congrArg some (h7 j _ _ (Qd (by omega)) (Qd hj))
   ·rw [List.getElem?_eq_none (by omega),List.getElem?_eq_none (by omega)];rfl
  rw [<-e];exact h3
def PS.lstS (wd:Nat) (l:List Stp) (p:PS):Option (List Stp×PS):=p.lst (Jbg wd).f (0,⟨#[]⟩) 2 0 (8 * (wd+1)) l
theorem Jgt {wd:Nat} {l ys:List Stp} {p p2:PS} {v:Value} (ht:p.takes v) (hv:v=.slice none 0 0->l=[]) (h:p.lstS wd l=some (ys,p2)):p.like p2/\p2.len<=p.len+2+(wd+2) * (8 * (wd+1))/\ys.length<=8 * (wd+1):=by
 obtain ⟨h1,_,h3,h4⟩:=JbB (n:=wd+2) (λa p a' p' h=>JaT h) ht hv h
 exact ⟨h1,Qm h4 (by have:=Nat.mul_le_mul_left (wd+2) h3;omega),h3⟩
theorem Jj2 (E:Nat->Addr) (b:Nat) (hb12:18<=b) (g:Option Nat) (wd:Nat) (hw:wd<=32) (v:Value) (l:List Stp) (p:PS) (w:World) (hE:Env E w) (hp:Jc w b g wd .nilIface p) (hv:VAt w.heap.size w v (l.map encS)) (hvb:JbQ b g v) (hl:l.length<1000) (hs:∀s∈l,s.1<65536) (ht:p.takes v) (hd:p.len<=70000000):
  Calls prog 216 #[.pointer (some ⟨b,0,none⟩),.agg #[.string ⟨#[115,116,101,112]⟩,.int .i64 2,.int .u64 0,.int .u64 ((8 * (wd+1):Nat):Int)],v,.func (.func 218) #[.pointer (some ⟨b,0,none⟩)] #[]] w λe w'=>ToS E w b g wd (p.lstS wd l) e w':=by
 have H:=lawS E b hb12 wd 80000000 (by omega) (by omega)
 have hg:(Jbg wd).grow=wd+2:=rfl
 refine (Jll H rfl hb12 g ⟨#[115,116,101,112]⟩ (by decide) 2 0 (8 * (wd+1)) v (l.map encS) l p w hE hp hv hvb (by simp) (by omega) (by rw [hg];omega) (by omega) (by omega) (by omega) ht (λj x a h1 h2=>?_)).mono λe w' h=>ToS.of h
 rw [List.getElem?_map,h2] at h1
 cases h1
 exact ⟨rfl,hs a (QR h2)⟩
def XJ (r:Option (List Stp×PS)):Option PS:=match r with
 | none=>none
 | some (ys,p)=>Xl ys (some p)
theorem Jiz (E:Nat->Addr) (b:Nat) (g:Option Nat) (wd:Int) (r:Option (List Stp×PS)) (x1:Option Addr) (x2 x3:Nat) (w:World) (hE:Env E w) (hp:Jh E w b g wd (r.map (·.2))) (hn:∀ys p2,r=some (ys,p2)->ys.length<=300) (hx:∀ys p2,r=some (ys,p2)->∃gp,x1=some ⟨gp,0,none⟩/\x2=ys.length/\x3=ys.length/\gp ≠ b/\w.heap[gp]? =some (.cells (vvA (ys.map encS)) 366)/\some gp ≠ g):
  Calls prog 219 #[.pointer (some ⟨b,0,none⟩),.string ⟨#[115,116,101,112]⟩,.slice x1 x2 x3,.func (.func 220) #[] #[]] w λe w'=>e=.returned (.tuple #[])/\StTo E w w' b g wd (XJ r):=by
 cases r with
 | none=>
  refine (JfH E b g wd _ x1 x2 x3 w hp).mono ?_
  rintro _ _ ⟨rfl,rfl⟩
  exact ⟨rfl,g,hp,.inl rfl,Te _ _⟩
 | some r=>
  obtain ⟨ys,p⟩:=r
  obtain ⟨gp,rfl,rfl,rfl,h1,h2,h3⟩:=hx ys p rfl
  exact JfI E b g wd _ (by decide) gp ys (hn ys p rfl) p w hE hp h2 h1 h3
theorem JfJ {E:Nat->Addr} {w w':World} {b gp:Nat} {g g':Option Nat} {wd:Int} {st:Option PS} {o:Obj} (k:StTo E w w' b g wd st) (hp:Jh E w' b g' wd st) (h1:w.heap[gp]? =some o) (hb:gp ≠ b) (hg:some gp ≠ g):w'.heap[gp]? =some o/\some gp ≠ g':=by
 obtain ⟨g2,k1,k2,k3⟩:=k
 have hl:=(Jb h1)
 obtain rfl:g2=g':=k1.same hp
 refine ⟨(k3.block gp hl (by rintro (e | e);exact hb e;exact hg e)).trans h1,?_⟩
 rcases k2 with rfl | ⟨i,rfl,hi⟩
 ·exact hg
 ·intro e;cases e;omega
def PS.way (wd:Nat) (l:List Stp) (m:Bool) (k:BA) (o:Nat×Nat) (p:PS):Option (Wy×PS):=
 match p.lstS wd l with
 | none=>none
 | some (ys,p1)=>
  if ys.length=0/\Zw m (Xl ys (some p1))=false then (Xl ys (some p1)).map λp=>(([],none),p)
  else (JK wd k o (Xl ys (some p1))).2.map λp=>((ys,some (JK wd k o (Xl ys (some p1))).1),p)
def WyAt (w:World) (B:Nat) (b:Nat) (g:Option Nat) (wy:Wy) (x:Option Addr×Nat×Nat) (m:Bool) (k:BA) (a o:Nat):Prop:=
 (wy=([],none)/\x=(none,0,0)/\m=false/\k=⟨#[]⟩/\a=0/\o=0)\/
 ∃gp,x=(some ⟨gp,0,none⟩,wy.1.length,wy.1.length)/\B<=gp/\gp ≠ b/\some gp ≠ g/\w.heap[gp]? =some (.cells (vvA (wy.1.map encS)) 366)/\m=true/\wy.2=some (k.data.toList,(a,o))
def ToW (E:Nat->Addr) (w:World) (b:Nat) (g:Option Nat) (wd:Nat) (r:Option (Wy×PS)) (e:Ending) (w':World):Prop:=
 ∃x1 x2 x3 m k a o g',e=.returned (.agg #[.slice x1 x2 x3,.bool m,.string k,.int .u64 (a:Nat),.int .u8 (o:Nat)])/\Jh E w' b g' wd (r.map (·.2))/\Jm w g g'/\Tch (λk=>k=b\/some k=g) w w'/\
  ∀wy p2,r=some (wy,p2)->WyAt w' w.heap.size b g' wy (x1,x2,x3) m k a o
theorem JgM (ys:List Stp) (p:PS):JN (Xl ys (some p))<=p.len:=by
 unfold Xl
 split
 ·exact Ql _
 ·exact Nat.zero_le _
theorem JkO (E:Nat->Addr) (b:Nat) (hb12:18<=b) (g:Option Nat) (wd:Nat) (hw:wd<=32) (v1:Option Addr) (v2 v3:Nat) (l:List Stp) (m:Bool) (k:BA) (a o:Nat) (ho:o<256) (p:PS) (w:World) (hE:Env E w) (hp:Jc w b g wd .nilIface p) (hv:VAt w.heap.size w (.slice v1 v2 v3) (l.map encS)) (hvb:JbQ b g (.slice v1 v2 v3)) (hl:l.length<1000) (hs:∀s∈l,s.1<65536) (ht:p.takes (.slice v1 v2 v3)) (hd:p.len<=60000000):
  Calls prog 146 #[.pointer (some ⟨b,0,none⟩),.agg #[.slice v1 v2 v3,.bool m,.string k,.int .u64 (a:Int),.int .u8 (o:Int)]] w λe w'=>ToW E w b g wd (p.way wd l m k (a,o)) e w':=by
 have hlt:=hp.lt
 have tA:=Tch.allocs NoB w (.cells #[.slice v1 v2 v3,.bool m,.string k,.int .u64 (a:Int),.int .u8 (o:Int)] 258) (.cells #[.slice none 0 0,.bool false,.string ⟨#[]⟩,.int .u64 0,.int .u8 0] 258)
 have HR0:=Run.start (st:=some p) hb12 hE hp tA
 have hvn:(Value.slice v1 v2 v3)=.slice none 0 0->l=[]:=λe=>by
  have:=hv.shape
  obtain ⟨a,c,h⟩:=this
  rw [e] at h
  simp at h
  cases l with
  | nil=>rfl
  | cons x l=>simp at h
 have HF:Hid (∀ys p2,p.lstS wd l=some (ys,p2)->p2.len<=p.len+2+(wd+2) * (8 * (wd+1))/\ys.length<=8 * (wd+1)):=λys p2 h=>(Jgt ht hvn h).2
 have HW:Hid ((wd+2) * (8 * (wd+1))<=34 * 264):=Nat.mul_le_mul (by omega) (by omega)
 have HC:Hid (∀W,Tch NoB w W->Calls prog 216 _ W _):=λW hT=>Jj2 E b hb12 g wd hw (.slice v1 v2 v3) l p W (hE.tch hT noE) (hp.tch hT (λh=>h) (λ_ _ h=>h)) ((hv.tch hT noE).up hT.size) hvb hl hs ht (by omega)
 have HKB:Hid (∀W,Tch NoB w W->Calls prog 217 _ W _):=λW hT=>Jfq b wd (by omega) W ((hp.tch hT (λh=>h) (λ_ _ h=>h)) |> λh=>Jh.width (E:=E) (st:=some p) h)
 have HPL:Hid (p.len<=60000000):=hd
 have hmf:∀(fn:Fn) (first cap:Array Value) (w:World),(Instr.makeFunc fn first cap).run prog w=.ok (.func fn first cap) w:=λ_ _ _ _=>rfl
 have HT0:Hid (Tch _ _ _):=tA
 have RUN:Hid (Run _ _ _ _ _ _ _ _ _):=HR0
 have hwu:IntKind.u64.wrap ((8 * (wd+1):Nat):Int)=((8 * (wd+1):Nat):Int):=JA _ (by omega) (by omega)
 have HB0:=heap_alloc2_old w (.cells #[.slice v1 v2 v3,.bool m,.string k,.int .u64 (a:Int),.int .u8 (o:Int)] 258) (.cells #[.slice none 0 0,.bool false,.string ⟨#[]⟩,.int .u64 0,.int .u8 0] 258)
 have HB1:=heap_alloc2_new w (.cells #[.slice v1 v2 v3,.bool m,.string k,.int .u64 (a:Int),.int .u8 (o:Int)] 258) (.cells #[.slice none 0 0,.bool false,.string ⟨#[]⟩,.int .u64 0,.int .u8 0] 258)
 have BX0:Hid (_=_):=HB0
 have BX1:Hid (_=_):=HB1
 clear hE hp hv hvb hs ht HR0 tA HB0 HB1 hvn hd hl
 generalize hKB:(8 * (wd+1):Nat)=kb at *
 have HKE:Hid (8 * (wd+1)=kb):=hKB
 clear hKB
 go_enter func146,ntmps146
 go_upto_region 1 with fail
 go_cut [5] (λv wx=>∃x1 x2 x3 g1,v=.slice x1 x2 x3/\Hid (Run E w ((w.alloc (.cells #[.slice v1 v2 v3,.bool m,.string k,.int .u64 (a:Int),.int .u8 (o:Int)] 258)).alloc (.cells #[.slice none 0 0,.bool false,.string ⟨#[]⟩,.int .u64 0,.int .u8 0] 258)) wx b g g1 wd ((p.lstS wd l).map (·.2)))/\Hid (∀ys p2,p.lstS wd l=some (ys,p2)->∃gp,x1=some ⟨gp,0,none⟩/\x2=ys.length/\x3=ys.length/\w.heap.size<=gp/\gp ≠ b/\wx.heap[gp]? =some (.cells (vvA (ys.map encS)) 366)/\some gp ≠ g1))
 case first=>
  have HT1:Hid (Tch NoB w _):=HT0.o.trans (Td NoB _ 1) noE
  have HRUN1:Hid (Run _ _ _ _ _ _ _ _ _):=RUN.out.next (Td NoB _ 1)
  clear HF HW HPL HT0 RUN BX0 BX1
  go_region_with (first
   | (go_at_call 217;refine (HKB.o _ HT1.o).mono ?_;rintro _ _ ⟨rfl,rfl⟩)
   | (go_at_call 216;refine (HC.o _ HT1.o).mono ?_;rintro _ w1 ⟨x1,x2,x3,rfl,hst,hx⟩;obtain ⟨g1,R1⟩:=HRUN1.o.step hst;have HX:Hid (∀ys p2,p.lstS wd l=some (ys,p2)->∃gp,x1=some ⟨gp,0,none⟩/\x2=ys.length/\x3=ys.length/\w.heap.size<=gp/\gp ≠ b/\w1.heap[gp]? =some (.cells (vvA (ys.map encS)) 366)/\some gp ≠ g1):=(λys p2 hq=>by
      obtain ⟨gp,q1,q2,q3,q4,q5,q6⟩:=hx ys p2 hq
      have hz:=HT1.o.size
      refine ⟨gp,q1,q2,q3,by omega,by omega,q5,q6 g1 ?_⟩
      have:=R1.port
      rw [hq] at this
      exact this);have HR1:Hid (Run _ _ _ _ _ _ _ _ _):=R1;clear R1 hx hst))
  all_goals
   go_wp2
   go_meet
   exact ⟨x1,x2,x3,g1,rfl,HR1,HX⟩
 case rest=>
 obtain ⟨x1,x2,x3,g1,rfl,HR1,HX⟩:=hcut
 obtain ⟨w1,hw1⟩:∃w1,w1=wc:=⟨wc,rfl⟩
 subst hw1
 clear HC HKB hwu hmf RUN
 have HRS:Hid (Calls prog 219 _ w1 _):=Jiz E b g1 wd (p.lstS wd l) x1 x2 x3 w1 HR1.o.env HR1.o.port (λys p2 h=>by have:=(HF.o ys p2 h).2;have:=HKE.o;omega) (λys p2 h=>by obtain ⟨gp,q1,q2,q3,q4,q5,q6,q7⟩:=HX.o ys p2 h;exact ⟨gp,q1,q2,q3,q5,q6,q7⟩)
 go_wp2_with fail
 refine HRS.o.mono ?_
 rintro _ w2 ⟨rfl,hst⟩
 obtain ⟨g2,R2⟩:=HR1.o.step hst
 have HX2:Hid (∀ys p2,p.lstS wd l=some (ys,p2)->∃gp,x1=some ⟨gp,0,none⟩/\x2=ys.length/\x3=ys.length/\w.heap.size<=gp/\gp ≠ b/\w2.heap[gp]? =some (.cells (vvA (ys.map encS)) 366)/\some gp ≠ g2):=λys p2 h=>by
  obtain ⟨gp,q1,q2,q3,q4,q5,q6,q7⟩:=HX.o ys p2 h
  obtain ⟨r1,r2⟩:=JfJ hst R2.port q6 q5 q7
  exact ⟨gp,q1,q2,q3,q4,q5,r1,r2⟩
 have bx2:=(R2.box (k:=w.heap.size) (Ql _) BX0.out).1
 have c1:w2.cell? ⟨w.heap.size,1,none⟩=some (.bool m):=Ja bx2
 have c2:w2.cell? ⟨w.heap.size,2,none⟩=some (.string k):=Ja bx2
 have c3:w2.cell? ⟨w.heap.size,3,none⟩=some (.int .u64 (a:Int)):=Ja bx2
 have c4:w2.cell? ⟨w.heap.size,4,none⟩=some (.int .u8 (o:Int)):=Ja bx2
 have HLEN:Hid (JN (XJ (p.lstS wd l))<=80000000):=by
  show JN (XJ (p.lstS wd l))<=80000000
  cases hq:p.lstS wd l with
  | none=>simp [XJ,JN]
  | some r=>
   obtain ⟨ys,p2⟩:=r
   have h1:=JgM ys p2
   have h2:=(HF.o ys p2 hq).1
   have h3:=HW.o
   have h4:=HPL.o
   simp only [XJ]
   omega
 have RUN2:Hid (Run _ _ _ _ _ _ _ _ _):=R2
 clear R2 hst HX HRS HR1 bx2
 have HMO:Hid (Calls prog 221 _ w2 _):=Jls E b g2 wd m _ w2 RUN2.out.port
 have HWAY:Hid (p.way wd l m k (a,o)=match p.lstS wd l with
 | none=>none
 | some (ys,p1)=>
  if ys.length=0/\Zw m (Xl ys (some p1))=false then (Xl ys (some p1)).map λp=>(([],none),p)
  else (JK wd k (a,o) (Xl ys (some p1))).2.map λp=>((ys,some (JK wd k (a,o) (Xl ys (some p1))).1),p)):=(by unfold PS.way;rfl)
 go_upto_region 3 with fail
 go_cut [28] (λv wx=>v=.bool (decide (x2=0/\Zw m (XJ (p.lstS wd l))=false))/\Hid (Tch NoB w2 wx))
 case first=>
  clear HF HW HPL BX0 BX1 HLEN HX2 HT0
  by_cases hx0:x2=0
  ·have hx0i:((x2:Nat):Int)=0:=by omega
   have HX0:Hid (x2=0):=hx0
   clear hx0
   go_wp2_with fail
   refine HMO.o.mono ?_
   rintro _ w3 ⟨rfl,ht⟩
   have HT3:Hid (Tch _ _ _):=ht
   clear ht
   go_wp2
   go_meet
   refine ⟨?_,HT3⟩
   rw [show decide (x2=0/\Zw m (XJ (p.lstS wd l))=false)= !Zw m (XJ (p.lstS wd l)) by simp [HX0.o]]
  ·have hx0i:¬((x2:Nat):Int)=0:=by omega
   go_wp2
   go_meet
   exact ⟨by simp [hx0],Te _ _⟩
 case rest=>
 obtain ⟨rfl,HT23⟩:=hcut
 obtain ⟨w3,hw3⟩:∃w3,w3=wc:=⟨wc,rfl⟩
 subst hw3
 have R3:=RUN2.out.next HT23.o
 have bx3:=(R3.box (k:=w.heap.size) (Ql _) BX0.out).1
 have c1:w3.cell? ⟨w.heap.size,1,none⟩=some (.bool m):=Ja bx3
 have c2:w3.cell? ⟨w.heap.size,2,none⟩=some (.string k):=Ja bx3
 have c3:w3.cell? ⟨w.heap.size,3,none⟩=some (.int .u64 (a:Int)):=Ja bx3
 have c4:w3.cell? ⟨w.heap.size,4,none⟩=some (.int .u8 (o:Int)):=Ja bx3
 have HX3:Hid (∀ys p2,p.lstS wd l=some (ys,p2)->∃gp,x1=some ⟨gp,0,none⟩/\x2=ys.length/\x3=ys.length/\w.heap.size<=gp/\gp ≠ b/\w3.heap[gp]? =some (.cells (vvA (ys.map encS)) 366)/\some gp ≠ g2):=λys p2 h=>by
  obtain ⟨gp,q1,q2,q3,q4,q5,q6,q7⟩:=HX2.o ys p2 h
  exact ⟨gp,q1,q2,q3,q4,q5,(HT23.o.block gp (Jb q6) (λh=>h)).trans q6,q7⟩
 have RUN3:Hid (Run _ _ _ _ _ _ _ _ _):=R3
 clear R3 bx3 HX2 HT23 HMO RUN2 HF HW HPL HT0
 by_cases hc:x2=0/\Zw m (XJ (p.lstS wd l))=false
 ·have HCC:Hid (_/\_):=hc
  rw [decide_eq_true hc]
  clear hc
  have rR:=(RUN3.out.box (k:=w.heap.size+1) (by omega) BX1.out).1
  have e0:w3.cell? ⟨w.heap.size+1,0,none⟩=some (.slice none 0 0):=Ja rR
  have e1:w3.cell? ⟨w.heap.size+1,1,none⟩=some (.bool false):=Ja rR
  have e2:w3.cell? ⟨w.heap.size+1,2,none⟩=some (.string ⟨#[]⟩):=Ja rR
  have e3:w3.cell? ⟨w.heap.size+1,3,none⟩=some (.int .u64 0):=Ja rR
  have e4:w3.cell? ⟨w.heap.size+1,4,none⟩=some (.int .u8 0):=Ja rR
  have fR:∀j,w3.frozen? ⟨w.heap.size+1,j,none⟩=false:=λj=>Qg _ _ _ _ _ rR
  have RR:Hid (_=_):=rR
  clear rR
  go_wp2
  rw [set5 _ _ _ _ _ _ _ _ _ _ _ _ _ RR.out]
  have hst:=RUN3.out.done (k:=w.heap.size+1) (cs:= #[.slice none 0 0,.bool false,.string ⟨#[]⟩,.int .u64 0,.int .u8 0]) (by omega) BX1.out (by decide)
  refine QJ (v:=.agg #[.slice none 0 0,.bool false,.string ⟨#[]⟩,.int .u64 0,.int .u8 0]) (Qq results146 _ _ (w.heap.size+1) _ _ (0,0) _ rfl (Qi _ _ _ _ _ _ RR.out) underlying258 rfl (by kernel_rfl)) rfl ?_
  obtain ⟨g',h1,h2,h3⟩:=hst
  obtain ⟨hx0,hm0⟩:=HCC.o
  refine ⟨none,0,0,false,⟨#[]⟩,0,0,g',rfl,?_,h2,h3,?_⟩
  ·rw [HWAY.o]
   cases hq:p.lstS wd l with
   | none=>rw [hq] at h1;exact h1
   | some r=>
    obtain ⟨ys,p1⟩:=r
    rw [hq] at h1 hm0
    obtain ⟨_,_,q2,_⟩:=HX3.o ys p1 hq
    simp only [XJ] at h1 hm0
    dsimp only
    rw [if_pos ⟨by omega,hm0⟩,Option.map_map]
    cases hr:Xl ys (some p1) with
    | none=>rw [hr] at h1;exact h1
    | some p2=>rw [hr] at h1;exact h1
  ·intro wy p2 h
   rw [HWAY.o] at h
   cases hq:p.lstS wd l with
   | none=>rw [hq] at h;cases h
   | some r=>
    obtain ⟨ys,p1⟩:=r
    rw [hq] at h hm0
    obtain ⟨_,_,q2,_⟩:=HX3.o ys p1 hq
    simp only [XJ] at hm0
    dsimp only at h
    rw [if_pos ⟨by omega,hm0⟩] at h
    cases hr:Xl ys (some p1) with
    | none=>rw [hr] at h;cases h
    | some p2=>rw [hr] at h;cases h;exact .inl ⟨rfl,rfl,rfl,rfl,rfl,rfl⟩
 ·have HCC:Hid (¬(_/\_)):=hc
  rw [decide_eq_false hc]
  clear hc
  have HLF:Hid (Calls prog 222 _ w3 _):=Jhj E b hb12 g2 wd (by omega) k a o ho _ w3 RUN3.out.env RUN3.out.port HLEN.o
  go_wp2_with fail
  refine HLF.o.mono ?_
  rintro _ w4 ⟨rfl,hst⟩
  obtain ⟨g4,R4⟩:=RUN3.out.step hst
  have HX4:Hid (∀ys p2,p.lstS wd l=some (ys,p2)->∃gp,x1=some ⟨gp,0,none⟩/\x2=ys.length/\x3=ys.length/\w.heap.size<=gp/\gp ≠ b/\w4.heap[gp]? =some (.cells (vvA (ys.map encS)) 366)/\some gp ≠ g4):=λys p2 h=>by
   obtain ⟨gp,q1,q2,q3,q4,q5,q6,q7⟩:=HX3.o ys p2 h
   obtain ⟨r1,r2⟩:=JfJ hst R4.port q6 q5 q7
   exact ⟨gp,q1,q2,q3,q4,q5,r1,r2⟩
  have rR:=(R4.box (k:=w.heap.size+1) (by omega) BX1.out).1
  have e0:w4.cell? ⟨w.heap.size+1,0,none⟩=some (.slice none 0 0):=Ja rR
  have e1:w4.cell? ⟨w.heap.size+1,1,none⟩=some (.bool false):=Ja rR
  have e2:w4.cell? ⟨w.heap.size+1,2,none⟩=some (.string ⟨#[]⟩):=Ja rR
  have e3:w4.cell? ⟨w.heap.size+1,3,none⟩=some (.int .u64 0):=Ja rR
  have e4:w4.cell? ⟨w.heap.size+1,4,none⟩=some (.int .u8 0):=Ja rR
  have fR:∀j,w4.frozen? ⟨w.heap.size+1,j,none⟩=false:=λj=>Qg _ _ _ _ _ rR
  have RR:Hid (_=_):=rR
  have RUN4:Hid (Run _ _ _ _ _ _ _ _ _):=R4
  clear rR R4 hst HLF HX3 RUN3
  go_wp2
  rw [set5 _ _ _ _ _ _ _ _ _ _ _ _ _ RR.out]
  have hst:=RUN4.out.done (k:=w.heap.size+1) (cs:= #[.slice x1 x2 x3,.bool true,.string ⟨(JK wd k (a,o) (XJ (p.lstS wd l))).1.1.toArray⟩,.int .u64 ((JK wd k (a,o) (XJ (p.lstS wd l))).1.2.1:Int),.int .u8 ((JK wd k (a,o) (XJ (p.lstS wd l))).1.2.2:Int)]) (by omega) BX1.out (by decide)
  refine QJ (v:=.agg #[.slice x1 x2 x3,.bool true,.string ⟨(JK wd k (a,o) (XJ (p.lstS wd l))).1.1.toArray⟩,.int .u64 ((JK wd k (a,o) (XJ (p.lstS wd l))).1.2.1:Int),.int .u8 ((JK wd k (a,o) (XJ (p.lstS wd l))).1.2.2:Int)]) (Qq results146 _ _ (w.heap.size+1) _ _ (0,0) _ rfl (Qi _ _ _ _ _ _ RR.out) underlying258 rfl (by kernel_rfl)) rfl ?_
  obtain ⟨g',h1,h2,h3⟩:=hst
  have hgg:g'=g4:=h1.same (RUN4.out.port.row RR.out (by decide) (RUN4.out.box (k:=w.heap.size+1) (by omega) BX1.out).2)
  refine ⟨x1,x2,x3,true,⟨(JK wd k (a,o) (XJ (p.lstS wd l))).1.1.toArray⟩,(JK wd k (a,o) (XJ (p.lstS wd l))).1.2.1,(JK wd k (a,o) (XJ (p.lstS wd l))).1.2.2,g',rfl,?_,h2,h3,?_⟩
  ·rw [HWAY.o]
   cases hq:p.lstS wd l with
   | none=>rw [hq] at h1;exact h1
   | some r=>
    obtain ⟨ys,p1⟩:=r
    have hcc:=HCC.o
    rw [hq] at h1 hcc
    obtain ⟨_,_,q2,_⟩:=HX4.o ys p1 hq
    simp only [XJ] at h1 hcc
    dsimp only
    rw [if_neg (by rw [<-q2];exact hcc),Option.map_map]
    cases hr:(JK wd k (a,o) (Xl ys (some p1))).2 with
    | none=>rw [hr] at h1;exact h1
    | some p2=>rw [hr] at h1;exact h1
  ·intro wy p2 h
   rw [HWAY.o] at h
   cases hq:p.lstS wd l with
   | none=>rw [hq] at h;cases h
   | some r=>
    obtain ⟨ys,p1⟩:=r
    have hcc:=HCC.o
    rw [hq] at h hcc
    obtain ⟨gp,q1,q2,q3,q4,q5,q6,q7⟩:=HX4.o ys p1 hq
    simp only [XJ] at hcc
    dsimp only at h
    rw [if_neg (by rw [<-q2];exact hcc)] at h
    cases hr:(JK wd k (a,o) (Xl ys (some p1))).2 with
    | none=>rw [hr] at h;cases h
    | some p3=>
     rw [hr] at h
     cases h
     refine .inr ⟨gp,by rw [q1,q2,q3],q4,q5,by rw [hgg];exact q7,?_,rfl,rfl⟩
     have hne:gp ≠ w.heap.size+1:=by
      intro e
      have:=RR.out
      rw [<-e,q6] at this
      simp at this
     exact (setRow_other _ _ _ _ hne).trans q6

def Yq (s:Stp):List UInt8:=beL s.1 2 2++s.2.data.toList
def endB:Option KO->List UInt8
 | none=>[]
 | some (k,o)=>k++outB o
def wayB (wy:Wy):List UInt8:=beL wy.1.length 2 2++(wy.1.flatMap Yq++endB wy.2)
def Jaf (wd:Nat) (s:Stp):Prop:=s.1<8 * (wd+1)/\s.2.size=wd
structure WyOk (wd:Nat) (wy:Wy):Prop where
 steps:∀s∈wy.1,Jaf wd s
 rise:YF wy.1 wy.1.length
 len:wy.1.length<=8 * (wd+1)
 bare:wy.2=none->wy.1=[]
 key:∀x,wy.2=some x->x.1.length=wd+1/\(x.1.getD wd 0).toNat<3/\Jr x.2
theorem JdB (x:BA):(⟨x.data.toList.toArray⟩:BA)=x:=by cases x;simp
theorem JlM {wd:Nat} (hw:wd<=1000) {s:Stp} (h:Jaf wd s) (d:List UInt8):PS.step wd s (.wr d)=some (s,.wr (d++Yq s)):=by
 obtain ⟨h1,h2⟩:=h
 unfold PS.step
 rw [(XL s.1 2 0 (by omega)).wr]
 dsimp only
 rw [if_neg (by omega),(Zv s.2.data.toList [] wd (by rw [<-h2];simp)).wr]
 dsimp only
 rw [JdB,Qs];rfl
theorem JlK {wd:Nat} (hw:wd<=1000) {s:Stp} (z:Stp) (h:Jaf wd s) (q r:List UInt8):PS.step wd z (.rd q (Yq s++r))=some (s,.rd (q++Yq s) r):=by
 obtain ⟨h1,h2⟩:=h
 unfold PS.step Yq
 rw [Qs,(XL s.1 2 z.1 (by omega)).rd]
 dsimp only
 rw [if_neg (by omega),(Zv s.2.data.toList z.2.data.toList wd (by rw [<-h2];simp)).rd]
 dsimp only
 rw [JdB,Qs]
theorem JkF {wd:Nat} (hw:wd<=1000):∀(l:List Stp) (_:∀s∈l,Jaf wd s) (d:List UInt8),PS.many (Jbg wd).f l (.wr d)=some (l,.wr (d++l.flatMap Yq)):=by
 intro l
 induction l with
 | nil=>intro _ d;simp [PS.many]
 | cons s l ih=>
  intro h d
  simp only [PS.many,QG]
  rw [show (Jbg wd).f s (.wr d)=PS.step wd s (.wr d) from rfl,JlM hw (h s (by simp))]
  dsimp only
  rw [ih (λs hs=>h s (by simp [hs])),Qs]
theorem JkE {wd:Nat} (hw:wd<=1000):∀(l:List Stp) (_:∀s∈l,Jaf wd s) (q r:List UInt8),PS.many (Jbg wd).f (List.replicate l.length (0,⟨#[]⟩)) (.rd q (l.flatMap Yq++r))=some (l,.rd (q++l.flatMap Yq) r):=by
 intro l
 induction l with
 | nil=>intro _ q r;simp [PS.many]
 | cons s l ih=>
  intro h q r
  simp only [Qp,List.replicate_succ,PS.many,QG,Qs]
  rw [show (Jbg wd).f ((0,⟨#[]⟩):Stp) _=PS.step wd ((0,⟨#[]⟩):Stp) _ from rfl,JlK hw _ (h s (by simp))]
  dsimp only
  rw [ih (λs hs=>h s (by simp [hs])),Qs]
theorem Jlp {wd:Nat} (hw:wd<=1000) (l:List Stp) (h:∀s∈l,Jaf wd s) (hl:l.length<=8 * (wd+1)) (d:List UInt8):PS.lstS wd l (.wr d)=some (l,.wr (d++(beL l.length 2 2++l.flatMap Yq))):=by
 unfold PS.lstS PS.lst
 rw [(XL l.length 2 0 (by omega)).wr]
 dsimp only
 rw [if_neg (by omega)]
 have e:Jz ((0,⟨#[]⟩):Stp) l l.length=l:=by unfold Jz;cases l <;> simp
 rw [e,JkF hw l h,Qs]
theorem Jlo {wd:Nat} (hw:wd<=1000) (l:List Stp) (h:∀s∈l,Jaf wd s) (hl:l.length<=8 * (wd+1)) (q r:List UInt8):PS.lstS wd [] (.rd q (beL l.length 2 2++(l.flatMap Yq++r)))=some (l,.rd (q++(beL l.length 2 2++l.flatMap Yq)) r):=by
 unfold PS.lstS PS.lst
 rw [Qv,(XL l.length 2 0 (by omega)).rd]
 dsimp only
 rw [if_neg (by omega)]
 have e:Jz ((0,⟨#[]⟩):Stp) [] l.length=List.replicate l.length (0,⟨#[]⟩):=by simp [Jz]
 rw [e,JkE hw l h,Qs]
theorem Jna {wd:Nat} (k:BA) (o:Nat×Nat) (h1:k.data.toList.length=wd+1) (h2:(k.data.toList.getD wd 0).toNat<3) (h3:Jr o) (d:List UInt8):JK wd k o (some (.wr d))=((k.data.toList,o),some (.wr (d++(k.data.toList++outB o)))):=by
 have e1:=JL ((Zv k.data.toList [] (wd+1) h1).wr d)
 have e2:YD wd k.data.toList (some (.wr d))=(k.data.toList,some (.wr (d++k.data.toList))):=by unfold YD;rw [e1];dsimp only;rw [if_neg (by omega)]
 have e3:JF o.1 8 (some (.wr (d++k.data.toList)))=(o.1,some (.wr (d++k.data.toList++beL o.1 8 8))):=JS ((XL o.1 8 0 (by have:=h3.1;omega)).wr _)
 have e4:JF o.2 1 (some (.wr (d++k.data.toList++beL o.1 8 8)))=(o.2,some (.wr (d++k.data.toList++beL o.1 8 8++beL o.2 1 1))):=JS ((XL o.2 1 0 (by have:=h3.2;omega)).wr _)
 unfold JK stO
 rw [e2]
 dsimp only
 rw [e3]
 dsimp only
 rw [e4]
 simp [outB,List.append_assoc]
theorem Jm9 {wd:Nat} (k z:BA) (o y:Nat×Nat) (h1:k.data.toList.length=wd+1) (h2:(k.data.toList.getD wd 0).toNat<3) (h3:Jr o) (q r:List UInt8):JK wd z y (some (.rd q (k.data.toList++outB o++r)))=((k.data.toList,o),some (.rd (q++(k.data.toList++outB o)) r)):=by
 have e1:Jj z.data.toList (wd+1) (some (.rd q (k.data.toList++(outB o++r))))=(k.data.toList,some (.rd (q++k.data.toList) (outB o++r))):=JL ((Zv k.data.toList z.data.toList (wd+1) h1).rd q _)
 have e2:YD wd z.data.toList (some (.rd q (k.data.toList++(outB o++r))))=(k.data.toList,some (.rd (q++k.data.toList) (outB o++r))):=by unfold YD;rw [e1];dsimp only;rw [if_neg (by omega)]
 have e3:JF y.1 8 (some (.rd (q++k.data.toList) (outB o++r)))=(o.1,some (.rd (q++k.data.toList++beL o.1 8 8) (beL o.2 1 1++r))):=by unfold outB;rw [Qs];exact JS ((XL o.1 8 y.1 (by have:=h3.1;omega)).rd _ _)
 have e4:JF y.2 1 (some (.rd (q++k.data.toList++beL o.1 8 8) (beL o.2 1 1++r)))=(o.2,some (.rd (q++k.data.toList++beL o.1 8 8++beL o.2 1 1) r)):=JS ((XL o.2 1 y.2 (by have:=h3.2;omega)).rd _ _)
 unfold JK stO
 rw [Qs,e2]
 dsimp only
 rw [e3]
 dsimp only
 rw [e4]
 simp [outB,List.append_assoc]
def wyK (wy:Wy):BA:=match wy.2 with | none=>⟨#[]⟩ | some x=>⟨x.1.toArray⟩
def wyO (wy:Wy):Nat×Nat:=match wy.2 with | none=>(0,0) | some x=>x.2
theorem JmV {wd:Nat} (hw:wd<=1000) {wy:Wy} (h:WyOk wd wy) (d:List UInt8):PS.way wd wy.1 wy.2.isSome (wyK wy) (wyO wy) (.wr d)=some (wy,.wr (d++wayB wy)):=by
 obtain ⟨l,e⟩:=wy
 unfold PS.way
 rw [Jlp hw l h.steps h.len]
 dsimp only
 have hr:Xl l (some (PS.wr (d++(beL l.length 2 2++l.flatMap Yq))))=some (PS.wr (d++(beL l.length 2 2++l.flatMap Yq))):=by unfold Xl;rw [if_pos h.rise]
 rw [hr]
 cases e with
 | none=>
  obtain rfl:l=[]:=h.bare rfl
  rw [if_pos ⟨rfl,rfl⟩]
  simp [wayB,endB]
 | some x=>
  obtain ⟨k,o⟩:=x
  obtain ⟨h1,h2,h3⟩:=h.key _ rfl
  rw [if_neg (by simp [Zw])]
  have e1:=Jna (wd:=wd) ⟨k.toArray⟩ o h1 h2 h3 (d++(beL l.length 2 2++l.flatMap Yq))
  simp only [wyK,wyO]
  rw [e1]
  simp [wayB,endB,List.append_assoc]
theorem JmU {wd:Nat} (hw:wd<=1000) {wy:Wy} (h:WyOk wd wy) (k:BA) (o:Nat×Nat) (q:List UInt8):PS.way wd [] false k o (.rd q (wayB wy))=some (wy,.rd (q++wayB wy) []):=by
 obtain ⟨l,e⟩:=wy
 unfold PS.way
 have e0:wayB (l,e)=beL l.length 2 2++(l.flatMap Yq++endB e):=rfl
 rw [e0,Jlo hw l h.steps h.len]
 dsimp only
 have hr:∀p,Xl l (some p)=some p:=λp=>by unfold Xl;rw [if_pos h.rise]
 rw [hr]
 cases e with
 | none=>
  obtain rfl:l=[]:=h.bare rfl
  rw [if_pos ⟨rfl,by simp [Zw,endB]⟩]
  simp [endB]
 | some x=>
  obtain ⟨k',o'⟩:=x
  obtain ⟨h1,h2,h3⟩:=h.key _ rfl
  rw [if_neg (by simp [Zw,endB];intro _ h;exact absurd h (by intro e;simp [e] at h1))]
  have e1:=Jm9 (wd:=wd) ⟨k'.toArray⟩ k o' o h1 h2 h3 (q++(beL l.length 2 2++l.flatMap Yq)) []
  simp only [QC] at e1
  simp only [endB]
  rw [e1]
  simp [List.append_assoc]
theorem Tr.bit_lt {b b':Nat} {l' r' t r:Tr} (ht:t=.br b' l' r') (h:(Tr.br b t r).Wf\/(Tr.br b r t).Wf):b<b':=by
 subst ht
 obtain ⟨x,hx⟩:=List.exists_mem_of_ne_nil _ (Tr.coins_ne l')
 obtain ⟨y,hy⟩:=List.exists_mem_of_ne_nil _ (Tr.coins_ne r')
 apply Nat.lt_of_not_le
 intro hle
 rcases h with ⟨⟨_,_,h0,h1,_⟩,_,k0,k1,k2⟩ | ⟨_,⟨_,_,h0,h1,_⟩,k0,k1,k2⟩
 ·have e0:=h0 x hx
  have e1:=h1 y hy
  by_cases he:b'=b
  ·subst he
   have:=k0 y (by simp [Tr.coins,hy])
   omega
  ·have:=k2 x (by simp [Tr.coins,hx]) y (by simp [Tr.coins,hy]) b' (by omega)
   omega
 ·have e0:=h0 x hx
  have e1:=h1 y hy
  by_cases he:b'=b
  ·subst he
   have:=k1 x (by simp [Tr.coins,hx])
   omega
  ·have:=k2 x (by simp [Tr.coins,hx]) y (by simp [Tr.coins,hy]) b' (by omega)
   omega
theorem Jd3 {s:Stp} {l:List Stp} (h:YF l l.length) (hs:∀x,l.head? =some x->s.1<x.1):YF (s :: l) (s :: l).length:=by
 intro i h1 h2 x y hx hy
 obtain ⟨j,rfl⟩:∃j,i=j+1:=⟨i - 1,by omega⟩
 simp only [Nat.add_sub_cancel,List.getElem?_cons_succ] at hx hy
 cases j with
 | zero=>
  simp only [List.getElem?_cons_zero,Qh] at hx
  subst hx
  exact hs y (by rw [List.head?_eq_getElem?];exact hy)
 | succ j=>
  simp only [List.getElem?_cons_succ] at hx
  exact h (j+1) (by omega) (by simp at h2;omega) x y (by simpa using hx) hy
theorem Tr.way_head (d:List UInt8->BA) (k:Key) (t:Tr) (x:Stp) (h:(t.way d k).1.head? =some x):∃l r,t=.br x.1 l r:=by
 cases t using Tr.ri with
 | leaf=>simp [way] at h
 | br b l r=>
  simp only [way] at h
  split at h
  ·simp at h;subst h;exact ⟨l,r,rfl⟩
  ·simp at h;subst h;exact ⟨l,r,rfl⟩
theorem Tr.way_rise (d:List UInt8->BA) (k:Key) (t:Tr) (hw:t.Wf):YF (t.way d k).1 (t.way d k).1.length:=by
 induction t using Tr.ri with
 | leaf=>intro i h1 h2;simp [way] at h2
 | br b l r ihl ihr=>
  have hw':=hw
  obtain ⟨w1,w2,_⟩:=hw
  simp only [way]
  split
  ·refine Jd3 (ihl w1) (λx hx=>?_)
   obtain ⟨l',r',e⟩:=Tr.way_head d k l x hx
   exact Tr.bit_lt e (.inl hw')
  ·refine Jd3 (ihr w2) (λx hx=>?_)
   obtain ⟨l',r',e⟩:=Tr.way_head d k r x hx
   exact Tr.bit_lt e (.inr hw')
theorem Tr.way_steps (d:List UInt8->BA) (wd:Nat) (hd:∀l,(d l).size=wd) (k:Key) (t:Tr) (h:TrOk wd t):∀s∈(t.way d k).1,Jaf wd s:=by
 induction t using Tr.ri with
 | leaf=>intro s hs;cases hs
 | br b l r ihl ihr=>
  obtain ⟨hb,h1,h2⟩:=h
  intro s hs
  simp only [way] at hs
  split at hs
  ·simp only [List.mem_cons] at hs
   rcases hs with rfl | hs
   ·exact ⟨hb,by rw [Tr.dig_text,hd]⟩
   ·exact ihl h1 s hs
  ·simp only [List.mem_cons] at hs
   rcases hs with rfl | hs
   ·exact ⟨hb,by rw [Tr.dig_text,hd]⟩
   ·exact ihr h2 s hs
theorem Tr.near_ok (wd:Nat) (k:Key) (t:Tr) (h:TrOk wd t):(t.near k).1.length=wd+1/\((t.near k).1.getD wd 0).toNat<3/\Jr (t.near k).2:=by
 induction t using Tr.ri with
 | leaf=>exact h
 | br b l r ihl ihr=>
  obtain ⟨_,h1,h2⟩:=h
  simp only [near]
  split
  ·exact ihl h1
  ·exact ihr h2
theorem Jko (n:Nat) (l:List Stp) (h:YF l l.length) (hb:∀s∈l,s.1<n):l.length<=n:=by
 have key:∀i (hi:i<l.length),i<=l[i].1:=by
  intro i
  induction i with
  | zero=>intro _;omega
  | succ i ih=>
   intro hi
   have h1:=ih (by omega)
   have h2:=h (i+1) (by omega) hi l[i] l[i+1] (by simp) (by simp)
   omega
 by_cases h0:l.length=0
 ·omega
 ·have h1:=key (l.length - 1) (by omega)
  have h2:=hb l[l.length - 1] (Qx _)
  omega
theorem JcX (d:List UInt8->BA) (wd:Nat) (hd:∀l,(d l).size=wd) (k:Key) (st:Option Tr) (hw:∀t,st=some t->t.Wf/\TrOk wd t):WyOk wd (Yp d k st):=by
 cases st with
 | none=>exact ⟨λs hs=>(by cases hs),λi h1 h2=>(by simp [Yp] at h2),by simp [Yp],λ_=>rfl,λx hx=>(by cases hx)⟩
 | some t=>
  obtain ⟨h1,h2⟩:=hw t rfl
  have hs:=Tr.way_steps d wd hd k t h2
  exact ⟨hs,Tr.way_rise d k t h1,Jko _ _ (Tr.way_rise d k t h1) (λs h=>(hs s h).1),λh=>(by cases h),λx hx=>(by cases hx;rw [Tr.way_near];exact Tr.near_ok wd k t h2)⟩
theorem JjG {wd:Nat}:∀(l:List Stp),(∀s∈l,Jaf wd s)->(l.flatMap Yq).length=(wd+2) * l.length:=by
 intro l
 induction l with
 | nil=>intro _;rfl
 | cons s l ih=>
  intro h
  have h1:=(h s (by simp)).2
  have e:s.2.data.toList.length=wd:=by rw [<-h1];simp
  rw [QG,Qe,ih (λs hs=>h s (by simp [hs])),Yq,Qe,Je,e,Qp,Nat.mul_add]
  omega
theorem Jf3 {wd:Nat} {wy:Wy} (h:WyOk wd wy):(wayB wy).length<=2+8 * (wd+1) * (2+wd)+wd+10:=by
 obtain ⟨l,e⟩:=wy
 have h1:=JjG l h.steps
 have h2:=h.len
 simp only at h2
 have h3:(wd+2) * l.length<=(wd+2) * (8 * (wd+1)):=Nat.mul_le_mul_left _ h2
 have h4:(wd+2) * (8 * (wd+1))=8 * (wd+1) * (2+wd):=by rw [Nat.mul_comm,Nat.add_comm wd 2]
 simp only [wayB,Qe,Je,h1]
 cases e with
 | none=>simp [endB];omega
 | some x=>
  obtain ⟨k,o⟩:=x
  have:=(h.key _ rfl).1
  simp only at this
  simp only [endB,Qe,outB,Je]
  omega
open Go.RowKit Go.Shelf

attribute [local go_sem] Oper.semAt_some

theorem Jf9 (n:Nat) (dg:BA) (b nl nr:Nat) (k:Key) (hk:b<8 * k.length) (hk2:k.length<=1000000) (w:World) (h:w.heap[n]? =some (.cells (brC dg b nl nr) 243)):
  Calls prog 225 #[.pointer (some ⟨n,0,none⟩),.string ⟨k.toArray⟩] w λe w'=>e=.returned (.pointer (some ⟨if bt k b=0 then nr else nl,0,none⟩))/\∃m,w'=w.drewN m:=by
 obtain ⟨-, -, -, -,c4,c5,c6⟩:=rows h
 have HB:Hid (∀W,_):=λW=>XB k b hk hk2 W
 have hb:=YH k b
 generalize (⟨k.toArray⟩:BA)=kb at *
 generalize bt k b=a at *
 obtain rfl | rfl:a=0\/a=1:=by omega
 ·rw [if_pos rfl]
  go_enter func225,ntmps225
  go_wp2
  go_region_with (go_at_call 288;refine (HB _).mono ?_;rintro _ _ ⟨rfl,rfl⟩)
  all_goals go_wp2
  all_goals go_ret
  all_goals exact ⟨rfl,1,rfl⟩
 ·rw [if_neg (by decide)]
  go_enter func225,ntmps225
  go_wp2
  go_region_with (go_at_call 288;refine (HB _).mono ?_;rintro _ _ ⟨rfl,rfl⟩)
  all_goals go_wp2
  all_goals go_ret
  all_goals exact ⟨rfl,1,rfl⟩

def stpC (h:Stp):List Value:=[.int .i64 (h.1:Int),.string h.2]
def stpV (l:List Stp):List Value:=l.flatMap stpC
theorem JkG (l:List Stp):∀u∈stpV l,u.oneCell'=true:=by
 intro u hu
 simp only [stpV,List.mem_flatMap,stpC] at hu
 obtain ⟨x,_,hu⟩:=hu
 simp only [List.mem_cons,QD,or_false] at hu
 rcases hu with rfl | rfl <;> rfl
theorem JlN (l:List Stp):stpV l=(vvA (l.map encS)).toList:=by
 simp [stpV,vvA,encS,List.flatMap_map]
 rfl
def POwn (base:Nat) (w:World) (v:Value) (l:List Stp):Prop:=w.ownsRow base 366 2 v l.length (stpV l)
theorem POwn.nil (base:Nat) (w:World):POwn base w (.slice none 0 0) []:=⟨rfl,.inl ⟨rfl,rfl⟩⟩
theorem POwn.own {base:Nat} {w:World} {v:Value} {l:List Stp} (h:POwn base w v l):∀k,v.ownBlock=some k->base<=k/\∃cs m,w.heap[k]? =some (.cells cs 366 m):=by
 obtain ⟨_,⟨rfl,h0⟩ | ⟨g,cap,cur,rfl,hb,hrow,_⟩⟩:=h
 ·intro k hk;cases hk
 ·intro k hk;cases hk;exact ⟨hb,_,_,hrow⟩
theorem POwn.tch {base:Nat} {w w':World} {v:Value} {l:List Stp} {S:Nat->Prop} (h:POwn base w v l) (k:Tch S w w') (hs:∀j,v.ownBlock=some j->¬S j):POwn base w' v l:=by
 obtain ⟨h1,⟨rfl,h0⟩ | ⟨g,cap,cur,rfl,hb,hrow,h2⟩⟩:=h
 ·exact ⟨h1,.inl ⟨rfl,h0⟩⟩
 ·exact ⟨h1,.inr ⟨g,cap,cur,rfl,hb,(k.block g (Jb hrow) (hs g rfl)).trans hrow,h2⟩⟩
theorem POwn.shape {base:Nat} {w:World} {v:Value} {l:List Stp} (h:POwn base w v l):∃a c,v=.slice a l.length c:=by
 obtain ⟨_,⟨rfl,h0⟩ | ⟨g,cap,cur,rfl,hb,hrow,_⟩⟩:=h
 ·exact ⟨none,0,by rw [h0]⟩
 ·exact ⟨_,_,rfl⟩
theorem POwn.vat {base:Nat} {w:World} {v:Value} {l:List Stp} (h:POwn base w v l):VAt w.heap.size w v (l.map encS):=by
 obtain ⟨_,⟨rfl,h0⟩ | ⟨g,cap,cur,rfl,_,hrow,_,_,hsz,htake⟩⟩:=h
 ·exact .inl ⟨rfl,by rw [QN h0];rfl⟩
 ·have hlt:=(Jb hrow)
  refine .inr ⟨g,0,cap,by rw [QL],hlt,hlt,λi hi=>?_⟩
  obtain ⟨e0,e1⟩:=Yj (l.map encS) i hi
  have hc:∀j u,(vvA (l.map encS))[j]? =some u->w.cell? ⟨g,0+j,none⟩=some u:=by
   intro j u hu
   rw [<-Array.getElem?_toList,<-JlN,<-htake] at hu
   have hj:=(Qo.1 hu).1
   rw [List.getElem?_take_of_lt (by rw [QB] at hj;omega)] at hu
   rw [Ja hrow,Nat.zero_add,<-Array.getElem?_toList]
   exact hu
  exact ⟨hc _ _ e0,hc _ _ e1⟩
theorem JX {W W':World} {row:Option Nat} {B:Nat} {cs:Array Value} {T:TypeId} {m:Nat×Nat} (h:W.heap[B]? =some (.cells cs T m)) (hg:W.grownBy W' row) (hr:∀r,row=some r->∃o:Obj,W.heap[r]? =some o/\o.isCells=false):W'.heap[B]? =some (.cells cs T m):=by
 refine (hg.block B (Jb h) (λe=>?_)).trans h
 obtain ⟨o,ho,hc⟩:=hr B e.symm
 rw [h] at ho
 cases ho
 cases hc
theorem POwn.kept {base:Nat} {W W':World} {v:Value} {l:List Stp} {row:Option Nat} (h:POwn base W v l) (hg:W.grownBy W' row) (hr:∀r,row=some r->∃o:Obj,W.heap[r]? =some o/\o.isCells=false):POwn base W' v l:=by
 obtain ⟨h1,⟨rfl,h0⟩ | ⟨g,cap,cur,rfl,hb,hrow,h2⟩⟩:=h
 ·exact ⟨h1,.inl ⟨rfl,h0⟩⟩
 ·exact ⟨h1,.inr ⟨g,cap,cur,rfl,hb,JX hrow hg hr,h2⟩⟩
theorem JbA {S:Nat->Prop} {W W':World} (h:Tch S W W') (hs:∀j,S j->∃cs T m,W.heap[j]? =some (.cells cs T m)):KeepsOthers W W':=by
 refine ⟨h.size,λk o hk ho=>(h.block k (Jb hk) (λhS=>?_)).trans hk⟩
 obtain ⟨cs,T,m,e⟩:=hs k hS
 rw [hk] at e
 cases e
 cases ho

def Jmc (w:World) (k:Key):Nat×(KO ⊕ Stp)->Prop
 | (x,.inl (k',o))=>∃dg,w.heap[x]? =some (.cells (ZB dg k' o) 243)
 | (x,.inr (b,od))=>∃dg nl nr cs,w.heap[x]? =some (.cells (brC dg b nl nr) 243)/\b<8 * k.length/\w.heap[if bt k b=0 then nr else nl]? =some (.cells cs 243)/\cs[0]? =some (.string od)
abbrev XH (w:World) (k:Key):={ y:Nat×(KO ⊕ Stp) // Jmc w k y }
theorem Jg.dig {d:List UInt8->BA} {F:Nat->Prop} {w:World} {n:Nat} {t:Tr} (h:Jg d F w n t):∃cs,w.heap[n]? =some (.cells cs 243)/\cs[0]? =some (.string (t.dig d)):=by
 cases h using Jg.ri with
 | leaf _ k o hF hr=>exact ⟨_,hr,rfl⟩
 | br _ b nl nr l r hF hr=>exact ⟨_,hr,rfl⟩
theorem Jg.wayD {d:List UInt8->BA} {F:Nat->Prop} {w:World} {n wd:Nat} {t:Tr} {k:Key} (hk:k.length=wd+1) (h:Jg d F w n t) (hok:TrOk wd t):∃ds:List (XH w k),Way w.heap.size k w (some n) (ds.map (·.1.1))/\ds.map (·.1.2)=(t.way d k).1.map .inr++[.inl (t.way d k).2]:=by
 induction h using Jg.ri with
 | leaf n k' o hF hr=>exact ⟨[⟨(n,.inl (k',o)),_,hr⟩],⟨rfl,(Jb hr),.inl ⟨_,_,_,hr,rfl⟩⟩,rfl⟩
 | br n b nl nr l r hF hr hl hr' ihl ihr=>
  obtain ⟨hb,hokl,hokr⟩:=hok
  by_cases h0:bt k b=0
  ·have ew:(Tr.br b l r).way d k=((b,r.dig d) :: (l.way d k).1,(l.way d k).2):=by simp only [Tr.way];rw [if_pos h0]
   rw [ew]
   obtain ⟨ds,h1,h2⟩:=ihl hokl
   obtain ⟨cs,e1,e2⟩:=hr'.dig
   refine ⟨⟨(n,.inr (b,r.dig d)),_,nl,nr,cs,hr,by omega,by rw [if_pos h0];exact e1,e2⟩ :: ds,⟨rfl,(Jb hr),.inr ⟨_,b,nl,nr,hr,by omega,by rw [if_pos h0];exact h1⟩⟩,?_⟩
   exact congrArg (List.cons _) h2
  ·have ew:(Tr.br b l r).way d k=((b,l.dig d) :: (r.way d k).1,(r.way d k).2):=by simp only [Tr.way];rw [if_neg h0]
   rw [ew]
   obtain ⟨ds,h1,h2⟩:=ihr hokr
   obtain ⟨cs,e1,e2⟩:=hl.dig
   refine ⟨⟨(n,.inr (b,l.dig d)),_,nl,nr,cs,hr,by omega,by rw [if_neg h0];exact e1,e2⟩ :: ds,⟨rfl,(Jb hr),.inr ⟨_,b,nl,nr,hr,by omega,by rw [if_neg h0];exact h1⟩⟩,?_⟩
   exact congrArg (List.cons _) h2
theorem Jek (n:Nat) (hn:2<=n) (Bt Bk n₀:Nat) (k:Key) (hk1:1<=k.length) (hk2:k.length<=1000000) (q:Option Nat) (v:World) (ds:List (XH v k)) (w:World) (hBt:Bt<w.heap.size) (hBk:Bk<w.heap.size) (hn₀:n₀<=w.heap.size) (c1:w.cell? ⟨Bt,1,none⟩=some (Ji q)) (c2:w.cell? ⟨Bk,0,none⟩=some (.string ⟨k.toArray⟩)) (hL:Way n₀ k w q (ds.map (·.1.1))):
  SeqStopsK Fence.wide n prog 295 #[.pointer (some ⟨Bt,0,none⟩),.pointer (some ⟨Bk,0,none⟩)] (λy:XH v k=> #[Value.pointer (some ⟨y.1.1,0,none⟩)]) (JeV n₀ Bk) (λys=>ys=ds) (λpre=>pre <+:ds) ds.length w:=λl J Jx W hW hJ _ hY h0=>by
 refine (Jfe n hn l Bt Bk n₀ k hk1 hk2 q (ds.map (·.1.1)) (λp W=>∃pre:List (XH v k),pre <+:ds/\pre.map (·.1.1)=p/\J pre W) (λp W=>∃pre:List (XH v k),pre <+:ds/\pre.map (·.1.1)=p/\Jx pre W) (λp W' m ⟨pre,h1,h2,h⟩=>⟨pre,h1,h2,hJ pre W' (W'.drewN m) none h ⟨rfl,rfl,rfl,Ql _,λ_ _ _=>rfl⟩ (λr e=>by cases e)⟩) ?_ W ((hW.cell (p:=⟨Bt,1,none⟩) hBt).trans c1) ((hW.cell (p:=⟨Bk,0,none⟩) hBk).trans c2) (Way.below (hW.mono hn₀) hL) ⟨[],List.nil_prefix,rfl,h0⟩).mono ?_
 ·rintro p x W1 ⟨pre,hp,rfl,hJ1⟩ hx
  rw [QL,List.getElem?_map] at hx
  cases hy:ds[pre.length]? with
  | none=>rw [hy] at hx;cases hx
  | some y=>
   rw [hy] at hx
   simp only [Option.map_some,Qh] at hx
   have hlt:=(Qo.1 hy).1
   have hpy:pre++[y] <+:ds:=by
    obtain ⟨r,rfl⟩:=hp
    rw [Qz (Ql _),Nat.sub_self] at hy
    cases r with
    | nil=>cases hy
    | cons z r=>simp at hy;subst hy;exact ⟨r,by simp⟩
   have:=hY pre y W1 hJ1 hlt
   subst hx
   refine YieldAt.mono this ?_
   rintro e W' (⟨rfl,h1,h2⟩ | ⟨rfl,h1⟩)
   ·exact .inl ⟨rfl,⟨pre++[y],hpy,by simp,h1⟩,h2⟩
   ·exact .inr ⟨rfl,⟨pre++[y],hpy,by simp,h1⟩⟩
 ·rintro e W' ⟨hv,⟨ys,hys,pre,hp,hm,h⟩ | ⟨p,_,pre,hp,_,h⟩⟩
  ·refine ⟨hv,.inl ⟨pre,?_,h⟩⟩
   have hl:pre.length=ds.length:=by have:=congrArg List.length (hm.trans hys);simpa using this
   exact hp.eq_of_length hl
  ·exact ⟨hv,.inr ⟨pre,hp,h⟩⟩
