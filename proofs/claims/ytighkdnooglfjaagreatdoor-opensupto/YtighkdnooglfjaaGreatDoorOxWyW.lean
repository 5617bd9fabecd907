import Derived.Test.YtighkdnooglfjaaGreatDoorOxPRoot
import Derived.Test.YtighkdnooglfjaaGreatDoorOxTree1
namespace Go.Proofs.YtighkdnooglfjaaGreatDoor
open Tryz
set_option maxRecDepth 100000
set_option maxHeartbeats 2000000
open Go.RowKit

theorem Jfs (b:Nat) (wd:Nat) (hw:wd<=1000) (w:World) (c1:w.cell? ⟨b,1,none⟩=some (.int .i64 (wd:Int))):
  Calls prog 217 #[.pointer (some ⟨b,0,none⟩)] w λe w'=>e=.returned (.int .i64 ((8 * (wd+1):Nat):Int))/\w'=w:=by
 have hww:IntKind.i64.wrap ((wd:Int)+1)=(wd:Int)+1:=JD _ (by omega) (by omega)
 have hw8:IntKind.i64.wrap (8 * ((wd:Int)+1))=((8 * (wd+1):Nat):Int):=by rw [JD _ (by omega) (by omega)];omega
 go_enter func217,ntmps217
 go_wp2
 go_ret
 exact ⟨rfl,rfl⟩
theorem set5 (w:World) (g:Nat) (t:TypeId) (a b c d e v0 v1 v2 v3 v4:Value) (h:w.heap[g]? =some (.cells #[a,b,c,d,e] t (0,0))):
  ((((w.setCell ⟨g,0,none⟩ v0).setCell ⟨g,1,none⟩ v1).setCell ⟨g,2,none⟩ v2).setCell ⟨g,3,none⟩ v3).setCell ⟨g,4,none⟩ v4=w.setRow g #[v0,v1,v2,v3,v4]:=by
 rw [Qj w g 0 _ t (0,0) v0 h,Qj _ g 1 _ t (0,0) v1 (Qi w g _ _ _ _ h),QI,Qj _ g 2 _ t (0,0) v2 (Qi w g _ _ _ _ h),QI,Qj _ g 3 _ t (0,0) v3 (Qi w g _ _ _ _ h),QI,Qj _ g 4 _ t (0,0) v4 (Qi w g _ _ _ _ h),QI]
 rfl
def ToS (E:Nat->Addr) (w:World) (b:Nat) (g:Option Nat) (wd:Nat) (r:Option (List Stp×PS)) (e:Ending) (w':World):Prop:=
 ∃x1 x2 x3,e=.returned (.slice x1 x2 x3)/\StTo E w w' b g wd (r.map (·.2))/\
  ∀ys p2,r=some (ys,p2)->∃gp,x1=some ⟨gp,0,none⟩/\x2=ys.length/\x3=ys.length/\w.heap.size<=gp/\w'.heap[gp]? =some (.cells (vvA (ys.map encS)) 366)/\∀g',Jh E w' b g' wd (some p2)->some gp ≠ g'
theorem ToS.of {E:Nat->Addr} {w w':World} {b:Nat} {g:Option Nat} {wd:Nat} {r:Option (List Stp×PS)} {e:Ending} (h:ToL lkS E w b g wd (Jbk wd) r e w'):ToS E w b g wd r e w':=by
 cases r with
 | none=>
  obtain ⟨⟨x1,x2,x3,rfl⟩,g',p',v,h1,h2,h3,h4⟩:=h
  obtain ⟨t,u,rfl⟩:=h2.iface
  exact ⟨x1,x2,x3,rfl,⟨g',⟨p',t,u,h1,h2⟩,h3,h4⟩,λts p2 h=>by cases h⟩
 | some r=>
  obtain ⟨ys,p2⟩:=r
  obtain ⟨gp,xs,rfl,h2,h3,h4,g',h5,h6,h7,h8,h9⟩:=h
  refine ⟨_,_,_,rfl,⟨g',h5,h8,h9⟩,λts p3 h=>?_⟩
  simp only [Qh,Qw] at h
  obtain ⟨rfl,rfl⟩:=h
  refine ⟨gp,rfl,rfl,rfl,h2,?_,λg2 hg=>by rw [Jh.same (E:=E) hg (st':=some p2) h5];exact h6⟩
  have e:xs=ys.map encS:=by
   apply List.ext_getElem?
   intro j
   rw [List.getElem?_map]
   by_cases hj:j<ys.length
   ·rw [Qd hj,Qd (by omega:j<xs.length)]
    exact congrArg some (h7 j _ _ (Qd (by omega)) (Qd hj))
   ·rw [List.getElem?_eq_none (by omega),List.getElem?_eq_none (by omega)];rfl
  rw [<-e];exact h3
def PS.lstS (wd:Nat) (l:List Stp) (p:PS):Option (List Stp×PS):=p.lst (Jbk wd).f (0,⟨#[]⟩) 2 0 (8 * (wd+1)) l
theorem Jgw {wd:Nat} {l ys:List Stp} {p p2:PS} {v:Value} (ht:p.takes v) (hv:v=.slice none 0 0->l=[]) (h:p.lstS wd l=some (ys,p2)):p.like p2/\p2.len<=p.len+2+(wd+2) * (8 * (wd+1))/\ys.length<=8 * (wd+1):=by
 obtain ⟨h1,_,h3,h4⟩:=JbF (n:=wd+2) (λa p a' p' h=>JaV h) ht hv h
 exact ⟨h1,Qm h4 (by have:=Nat.mul_le_mul_left (wd+2) h3;omega),h3⟩
theorem Jj9 (E:Nat->Addr) (b:Nat) (hb12:18<=b) (g:Option Nat) (wd:Nat) (hw:wd<=32) (v:Value) (l:List Stp) (p:PS) (w:World) (hE:Env E w) (hp:Jc w b g wd .nilIface p) (hv:VAt w.heap.size w v (l.map encS)) (hvb:Ja0 b g v) (hl:l.length<1000) (hs:∀s∈l,s.1<65536) (ht:p.takes v) (hd:p.len<=70000000):
  Calls prog 216 #[.pointer (some ⟨b,0,none⟩),.agg #[.string ⟨#[115,116,101,112]⟩,.int .i64 2,.int .u64 0,.int .u64 ((8 * (wd+1):Nat):Int)],v,.func (.func 218) #[.pointer (some ⟨b,0,none⟩)] #[]] w λe w'=>ToS E w b g wd (p.lstS wd l) e w':=by
 have H:=lawS E b hb12 wd 80000000 (by omega) (by omega)
 have hg:(Jbk wd).grow=wd+2:=rfl
 refine (Jls H rfl hb12 g ⟨#[115,116,101,112]⟩ (by decide) 2 0 (8 * (wd+1)) v (l.map encS) l p w hE hp hv hvb (by simp) (by omega) (by rw [hg];omega) (by omega) (by omega) (by omega) ht (λj x a h1 h2=>?_)).mono λe w' h=>ToS.of h
 rw [List.getElem?_map,h2] at h1
 cases h1
 exact ⟨rfl,hs a (List.mem_of_getElem? h2)⟩
noncomputable def XM (r:Option (List Stp×PS)):Option PS:=match r with
 | none=>none
 | some (ys,p)=>Xn ys (some p)
theorem JiI (E:Nat->Addr) (b:Nat) (g:Option Nat) (wd:Int) (r:Option (List Stp×PS)) (x1:Option Addr) (x2 x3:Nat) (w:World) (hE:Env E w) (hp:Jh E w b g wd (r.map (·.2))) (hn:∀ys p2,r=some (ys,p2)->ys.length<=300) (hx:∀ys p2,r=some (ys,p2)->∃gp,x1=some ⟨gp,0,none⟩/\x2=ys.length/\x3=ys.length/\gp ≠ b/\w.heap[gp]? =some (.cells (vvA (ys.map encS)) 366)/\some gp ≠ g):
  Calls prog 219 #[.pointer (some ⟨b,0,none⟩),.string ⟨#[115,116,101,112]⟩,.slice x1 x2 x3,.func (.func 220) #[] #[]] w λe w'=>e=.returned (.tuple #[])/\StTo E w w' b g wd (XM r):=by
 cases r with
 | none=>
  refine (JfJ E b g wd _ x1 x2 x3 w hp).mono ?_
  rintro _ _ ⟨rfl,rfl⟩
  exact ⟨rfl,g,hp,.inl rfl,Tch.refl _ _⟩
 | some r=>
  obtain ⟨ys,p⟩:=r
  obtain ⟨gp,rfl,rfl,rfl,h1,h2,h3⟩:=hx ys p rfl
  exact JfK E b g wd _ (by decide) gp ys (hn ys p rfl) p w hE hp h2 h1 h3
theorem JfL {E:Nat->Addr} {w w':World} {b gp:Nat} {g g':Option Nat} {wd:Int} {st:Option PS} {o:Obj} (k:StTo E w w' b g wd st) (hp:Jh E w' b g' wd st) (h1:w.heap[gp]? =some o) (hb:gp ≠ b) (hg:some gp ≠ g):w'.heap[gp]? =some o/\some gp ≠ g':=by
 obtain ⟨g2,k1,k2,k3⟩:=k
 have hl:=(Jb h1)
 obtain rfl:g2=g':=k1.same hp
 refine ⟨(k3.block gp hl (by rintro (e | e);exact hb e;exact hg e)).trans h1,?_⟩
 rcases k2 with rfl | ⟨i,rfl,hi⟩
 ·exact hg
 ·intro e;cases e;omega
open Classical in
noncomputable def PS.way (wd:Nat) (l:List Stp) (m:Bool) (k:BA) (o:Nat×Nat) (p:PS):Option (Wy×PS):=
 match p.lstS wd l with
 | none=>none
 | some (ys,p1)=>
  if ys.length=0/\Zw m (Xn ys (some p1))=false then (Xn ys (some p1)).map λp=>(([],none),p)
  else (JL wd k o (Xn ys (some p1))).2.map λp=>((ys,some (JL wd k o (Xn ys (some p1))).1),p)
def WyAt (w:World) (B:Nat) (b:Nat) (g:Option Nat) (wy:Wy) (x:Option Addr×Nat×Nat) (m:Bool) (k:BA) (a o:Nat):Prop:=
 (wy=([],none)/\x=(none,0,0)/\m=false/\k=⟨#[]⟩/\a=0/\o=0)\/
 ∃gp,x=(some ⟨gp,0,none⟩,wy.1.length,wy.1.length)/\B<=gp/\gp ≠ b/\some gp ≠ g/\w.heap[gp]? =some (.cells (vvA (wy.1.map encS)) 366)/\m=true/\wy.2=some (k.data.toList,(a,o))
def ToW (E:Nat->Addr) (w:World) (b:Nat) (g:Option Nat) (wd:Nat) (r:Option (Wy×PS)) (e:Ending) (w':World):Prop:=
 ∃x1 x2 x3 m k a o g',e=.returned (.agg #[.slice x1 x2 x3,.bool m,.string k,.int .u64 (a:Nat),.int .u8 (o:Nat)])/\Jh E w' b g' wd (r.map (·.2))/\Jm w g g'/\Tch (λk=>k=b\/some k=g) w w'/\
  ∀wy p2,r=some (wy,p2)->WyAt w' w.heap.size b g' wy (x1,x2,x3) m k a o
theorem JgP (ys:List Stp) (p:PS):JO (Xn ys (some p))<=p.len:=by
 unfold Xn
 split
 ·exact Ql _
 ·exact Nat.zero_le _
theorem JkV (E:Nat->Addr) (b:Nat) (hb12:18<=b) (g:Option Nat) (wd:Nat) (hw:wd<=32) (v1:Option Addr) (v2 v3:Nat) (l:List Stp) (m:Bool) (k:BA) (a o:Nat) (ho:o<256) (p:PS) (w:World) (hE:Env E w) (hp:Jc w b g wd .nilIface p) (hv:VAt w.heap.size w (.slice v1 v2 v3) (l.map encS)) (hvb:Ja0 b g (.slice v1 v2 v3)) (hl:l.length<1000) (hs:∀s∈l,s.1<65536) (ht:p.takes (.slice v1 v2 v3)) (hd:p.len<=60000000):
  Calls prog 146 #[.pointer (some ⟨b,0,none⟩),.agg #[.slice v1 v2 v3,.bool m,.string k,.int .u64 (a:Int),.int .u8 (o:Int)]] w λe w'=>ToW E w b g wd (p.way wd l m k (a,o)) e w':=by
 have hlt:=hp.lt
 have tA:=Tch.allocs NoB w (.cells #[.slice v1 v2 v3,.bool m,.string k,.int .u64 (a:Int),.int .u8 (o:Int)] 258) (.cells #[.slice none 0 0,.bool false,.string ⟨#[]⟩,.int .u64 0,.int .u8 0] 258)
 have HR0:=Run.start (st:=some p) hb12 hE hp tA
 have hvn:(Value.slice v1 v2 v3)=.slice none 0 0->l=[]:=λe=>by
  have:=hv.shape
  obtain ⟨a,c,h⟩:=this
  rw [e] at h
  simp at h
  cases l with
  | nil=>rfl
  | cons x l=>simp at h
 have HF:Hid (∀ys p2,p.lstS wd l=some (ys,p2)->p2.len<=p.len+2+(wd+2) * (8 * (wd+1))/\ys.length<=8 * (wd+1)):=λys p2 h=>(Jgw ht hvn h).2
 have HW:Hid ((wd+2) * (8 * (wd+1))<=34 * 264):=Nat.mul_le_mul (by omega) (by omega)
 have HC:Hid (∀W,Tch NoB w W->Calls prog 216 _ W _):=λW hT=>Jj9 E b hb12 g wd hw (.slice v1 v2 v3) l p W (hE.tch hT noE) (hp.tch hT (λh=>h) (λ_ _ h=>h)) ((hv.tch hT noE).up hT.size) hvb hl hs ht (by omega)
 have HKB:Hid (∀W,Tch NoB w W->Calls prog 217 _ W _):=λW hT=>Jfs b wd (by omega) W ((hp.tch hT (λh=>h) (λ_ _ h=>h)) |> λh=>Jh.width (E:=E) (st:=some p) h)
 have HPL:Hid _:=hd
 have hmf:∀(fn:Fn) (first cap:Array Value) (w:World),(Instr.makeFunc fn first cap).run prog w=.ok (.func fn first cap) w:=λ_ _ _ _=>rfl
 have HT0:Hid _:=tA
 have RUN:Hid _:=HR0
 have hwu:IntKind.u64.wrap ((8 * (wd+1):Nat):Int)=((8 * (wd+1):Nat):Int):=JB _ (by omega) (by omega)
 have HB0:=heap_alloc2_old w (.cells #[.slice v1 v2 v3,.bool m,.string k,.int .u64 (a:Int),.int .u8 (o:Int)] 258) (.cells #[.slice none 0 0,.bool false,.string ⟨#[]⟩,.int .u64 0,.int .u8 0] 258)
 have HB1:=heap_alloc2_new w (.cells #[.slice v1 v2 v3,.bool m,.string k,.int .u64 (a:Int),.int .u8 (o:Int)] 258) (.cells #[.slice none 0 0,.bool false,.string ⟨#[]⟩,.int .u64 0,.int .u8 0] 258)
 have BX0:Hid (_=_):=HB0
 have BX1:Hid (_=_):=HB1
 clear hE hp hv hvb hs ht HR0 tA HB0 HB1 hvn hd hl
 generalize hKB:(8 * (wd+1):Nat)=kb at *
 have HKE:Hid _:=hKB
 clear hKB
 go_enter func146,ntmps146
 go_upto_region 1 with fail
 go_cut [5] (λv wx=>∃x1 x2 x3 g1,v=.slice x1 x2 x3/\Hid (Run E w ((w.alloc (.cells #[.slice v1 v2 v3,.bool m,.string k,.int .u64 (a:Int),.int .u8 (o:Int)] 258)).alloc (.cells #[.slice none 0 0,.bool false,.string ⟨#[]⟩,.int .u64 0,.int .u8 0] 258)) wx b g g1 wd ((p.lstS wd l).map (·.2)))/\Hid (∀ys p2,p.lstS wd l=some (ys,p2)->∃gp,x1=some ⟨gp,0,none⟩/\x2=ys.length/\x3=ys.length/\w.heap.size<=gp/\gp ≠ b/\wx.heap[gp]? =some (.cells (vvA (ys.map encS)) 366)/\some gp ≠ g1))
 case first=>
  have HT1:Hid (Tch NoB w _):=HT0.o.trans (Tch.drewN NoB _ 1) noE
  have HRUN1:Hid (Run _ _ _ _ _ _ _ _ _):=RUN.out.next (Tch.drewN NoB _ 1)
  clear HF HW HPL HT0 RUN BX0 BX1
  go_region_with (first
   | (go_at_call 217;refine (HKB.o _ HT1.o).mono ?_;rintro _ _ ⟨rfl,rfl⟩)
   | (go_at_call 216;refine (HC.o _ HT1.o).mono ?_;rintro _ w1 ⟨x1,x2,x3,rfl,hst,hx⟩;obtain ⟨g1,R1⟩:=HRUN1.o.step hst;have HX:Hid (∀ys p2,p.lstS wd l=some (ys,p2)->∃gp,x1=some ⟨gp,0,none⟩/\x2=ys.length/\x3=ys.length/\w.heap.size<=gp/\gp ≠ b/\w1.heap[gp]? =some (.cells (vvA (ys.map encS)) 366)/\some gp ≠ g1):=(λys p2 hq=>by
      obtain ⟨gp,q1,q2,q3,q4,q5,q6⟩:=hx ys p2 hq
      have hz:=HT1.o.size
      refine ⟨gp,q1,q2,q3,by omega,by omega,q5,q6 g1 ?_⟩
      have:=R1.port
      rw [hq] at this
      exact this);have HR1:Hid _:=R1;clear R1 hx hst))
  all_goals
   go_wp2
   go_meet
   exact ⟨x1,x2,x3,g1,rfl,HR1,HX⟩
 case rest=>
 obtain ⟨x1,x2,x3,g1,rfl,HR1,HX⟩:=hcut
 obtain ⟨w1,hw1⟩:∃w1,w1=wc:=⟨wc,rfl⟩
 subst hw1
 clear HC HKB hwu hmf RUN
 have HRS:Hid (Calls prog 219 _ w1 _):=JiI E b g1 wd (p.lstS wd l) x1 x2 x3 w1 HR1.o.env HR1.o.port (λys p2 h=>by have:=(HF.o ys p2 h).2;have:=HKE.o;omega) (λys p2 h=>by obtain ⟨gp,q1,q2,q3,q4,q5,q6,q7⟩:=HX.o ys p2 h;exact ⟨gp,q1,q2,q3,q5,q6,q7⟩)
 go_wp2_with fail
 refine HRS.o.mono ?_
 rintro _ w2 ⟨rfl,hst⟩
 obtain ⟨g2,R2⟩:=HR1.o.step hst
 have HX2:Hid (∀ys p2,p.lstS wd l=some (ys,p2)->∃gp,x1=some ⟨gp,0,none⟩/\x2=ys.length/\x3=ys.length/\w.heap.size<=gp/\gp ≠ b/\w2.heap[gp]? =some (.cells (vvA (ys.map encS)) 366)/\some gp ≠ g2):=λys p2 h=>by
  obtain ⟨gp,q1,q2,q3,q4,q5,q6,q7⟩:=HX.o ys p2 h
  obtain ⟨r1,r2⟩:=JfL hst R2.port q6 q5 q7
  exact ⟨gp,q1,q2,q3,q4,q5,r1,r2⟩
 have bx2:=(R2.box (k:=w.heap.size) (Ql _) BX0.out).1
 have c1:w2.cell? ⟨w.heap.size,1,none⟩=some (.bool m):=Ja bx2
 have c2:w2.cell? ⟨w.heap.size,2,none⟩=some (.string k):=Ja bx2
 have c3:w2.cell? ⟨w.heap.size,3,none⟩=some (.int .u64 (a:Int)):=Ja bx2
 have c4:w2.cell? ⟨w.heap.size,4,none⟩=some (.int .u8 (o:Int)):=Ja bx2
 have HLEN:Hid (JO (XM (p.lstS wd l))<=80000000):=by
  show JO (XM (p.lstS wd l))<=80000000
  cases hq:p.lstS wd l with
  | none=>simp [XM,JO]
  | some r=>
   obtain ⟨ys,p2⟩:=r
   have h1:=JgP ys p2
   have h2:=(HF.o ys p2 hq).1
   have h3:=HW.o
   have h4:=HPL.o
   simp only [XM]
   omega
 have RUN2:Hid _:=R2
 clear R2 hst HX HRS HR1 bx2
 have HMO:Hid (Calls prog 221 _ w2 _):=Jlz E b g2 wd m _ w2 RUN2.out.port
 have HWAY:Hid (p.way wd l m k (a,o)=match p.lstS wd l with
 | none=>none
 | some (ys,p1)=>
  if ys.length=0/\Zw m (Xn ys (some p1))=false then (Xn ys (some p1)).map λp=>(([],none),p)
  else (JL wd k (a,o) (Xn ys (some p1))).2.map λp=>((ys,some (JL wd k (a,o) (Xn ys (some p1))).1),p)):=(by unfold PS.way;rfl)
 go_upto_region 3 with fail
 go_cut [28] (λv wx=>v=.bool (decide (x2=0/\Zw m (XM (p.lstS wd l))=false))/\Hid (Tch NoB w2 wx))
 case first=>
  clear HF HW HPL BX0 BX1 HLEN HX2 HT0
  by_cases hx0:x2=0
  ·have hx0i:((x2:Nat):Int)=0:=by omega
   have HX0:Hid (x2=0):=hx0
   clear hx0
   go_wp2_with fail
   refine HMO.o.mono ?_
   rintro _ w3 ⟨rfl,ht⟩
   have HT3:Hid _:=ht
   clear ht
   go_wp2
   go_meet
   refine ⟨?_,HT3⟩
   rw [show decide (x2=0/\Zw m (XM (p.lstS wd l))=false)= !Zw m (XM (p.lstS wd l)) by simp [HX0.o]]
  ·have hx0i:¬((x2:Nat):Int)=0:=by omega
   go_wp2
   go_meet
   exact ⟨by simp [hx0],Tch.refl _ _⟩
 case rest=>
 obtain ⟨rfl,HT23⟩:=hcut
 obtain ⟨w3,hw3⟩:∃w3,w3=wc:=⟨wc,rfl⟩
 subst hw3
 have R3:=RUN2.out.next HT23.o
 have bx3:=(R3.box (k:=w.heap.size) (Ql _) BX0.out).1
 have c1:w3.cell? ⟨w.heap.size,1,none⟩=some (.bool m):=Ja bx3
 have c2:w3.cell? ⟨w.heap.size,2,none⟩=some (.string k):=Ja bx3
 have c3:w3.cell? ⟨w.heap.size,3,none⟩=some (.int .u64 (a:Int)):=Ja bx3
 have c4:w3.cell? ⟨w.heap.size,4,none⟩=some (.int .u8 (o:Int)):=Ja bx3
 have HX3:Hid (∀ys p2,p.lstS wd l=some (ys,p2)->∃gp,x1=some ⟨gp,0,none⟩/\x2=ys.length/\x3=ys.length/\w.heap.size<=gp/\gp ≠ b/\w3.heap[gp]? =some (.cells (vvA (ys.map encS)) 366)/\some gp ≠ g2):=λys p2 h=>by
  obtain ⟨gp,q1,q2,q3,q4,q5,q6,q7⟩:=HX2.o ys p2 h
  exact ⟨gp,q1,q2,q3,q4,q5,(HT23.o.block gp (Jb q6) (λh=>h)).trans q6,q7⟩
 have RUN3:Hid _:=R3
 clear R3 bx3 HX2 HT23 HMO RUN2 HF HW HPL HT0
 by_cases hc:x2=0/\Zw m (XM (p.lstS wd l))=false
 ·have HCC:Hid (_/\_):=hc
  rw [decide_eq_true hc]
  clear hc
  have rR:=(RUN3.out.box (k:=w.heap.size+1) (by omega) BX1.out).1
  have e0:w3.cell? ⟨w.heap.size+1,0,none⟩=some (.slice none 0 0):=Ja rR
  have e1:w3.cell? ⟨w.heap.size+1,1,none⟩=some (.bool false):=Ja rR
  have e2:w3.cell? ⟨w.heap.size+1,2,none⟩=some (.string ⟨#[]⟩):=Ja rR
  have e3:w3.cell? ⟨w.heap.size+1,3,none⟩=some (.int .u64 0):=Ja rR
  have e4:w3.cell? ⟨w.heap.size+1,4,none⟩=some (.int .u8 0):=Ja rR
  have fR:∀j,w3.frozen? ⟨w.heap.size+1,j,none⟩=false:=λj=>Qg _ _ _ _ _ rR
  have RR:Hid (_=_):=rR
  clear rR
  go_wp2
  rw [set5 _ _ _ _ _ _ _ _ _ _ _ _ _ RR.out]
  have hst:=RUN3.out.done (k:=w.heap.size+1) (cs:= #[.slice none 0 0,.bool false,.string ⟨#[]⟩,.int .u64 0,.int .u8 0]) (by omega) BX1.out (by decide)
  refine QJ (v:=.agg #[.slice none 0 0,.bool false,.string ⟨#[]⟩,.int .u64 0,.int .u8 0]) (Qq results146 _ _ (w.heap.size+1) _ _ (0,0) _ rfl (Qi _ _ _ _ _ _ RR.out) underlying258 rfl (by kernel_rfl)) rfl ?_
  obtain ⟨g',h1,h2,h3⟩:=hst
  obtain ⟨hx0,hm0⟩:=HCC.o
  refine ⟨none,0,0,false,⟨#[]⟩,0,0,g',rfl,?_,h2,h3,?_⟩
  ·rw [HWAY.o]
   cases hq:p.lstS wd l with
   | none=>rw [hq] at h1;exact h1
   | some r=>
    obtain ⟨ys,p1⟩:=r
    rw [hq] at h1 hm0
    obtain ⟨_,_,q2,_⟩:=HX3.o ys p1 hq
    simp only [XM] at h1 hm0
    dsimp only
    rw [if_pos ⟨by omega,hm0⟩,Option.map_map]
    cases hr:Xn ys (some p1) with
    | none=>rw [hr] at h1;exact h1
    | some p2=>rw [hr] at h1;exact h1
  ·intro wy p2 h
   rw [HWAY.o] at h
   cases hq:p.lstS wd l with
   | none=>rw [hq] at h;cases h
   | some r=>
    obtain ⟨ys,p1⟩:=r
    rw [hq] at h hm0
    obtain ⟨_,_,q2,_⟩:=HX3.o ys p1 hq
    simp only [XM] at hm0
    dsimp only at h
    rw [if_pos ⟨by omega,hm0⟩] at h
    cases hr:Xn ys (some p1) with
    | none=>rw [hr] at h;cases h
    | some p2=>rw [hr] at h;cases h;exact .inl ⟨rfl,rfl,rfl,rfl,rfl,rfl⟩
 ·have HCC:Hid (¬(_/\_)):=hc
  rw [decide_eq_false hc]
  clear hc
  have HLF:Hid (Calls prog 222 _ w3 _):=Jhm E b hb12 g2 wd (by omega) k a o ho _ w3 RUN3.out.env RUN3.out.port HLEN.o
  go_wp2_with fail
  refine HLF.o.mono ?_
  rintro _ w4 ⟨rfl,hst⟩
  obtain ⟨g4,R4⟩:=RUN3.out.step hst
  have HX4:Hid (∀ys p2,p.lstS wd l=some (ys,p2)->∃gp,x1=some ⟨gp,0,none⟩/\x2=ys.length/\x3=ys.length/\w.heap.size<=gp/\gp ≠ b/\w4.heap[gp]? =some (.cells (vvA (ys.map encS)) 366)/\some gp ≠ g4):=λys p2 h=>by
   obtain ⟨gp,q1,q2,q3,q4,q5,q6,q7⟩:=HX3.o ys p2 h
   obtain ⟨r1,r2⟩:=JfL hst R4.port q6 q5 q7
   exact ⟨gp,q1,q2,q3,q4,q5,r1,r2⟩
  have rR:=(R4.box (k:=w.heap.size+1) (by omega) BX1.out).1
  have e0:w4.cell? ⟨w.heap.size+1,0,none⟩=some (.slice none 0 0):=Ja rR
  have e1:w4.cell? ⟨w.heap.size+1,1,none⟩=some (.bool false):=Ja rR
  have e2:w4.cell? ⟨w.heap.size+1,2,none⟩=some (.string ⟨#[]⟩):=Ja rR
  have e3:w4.cell? ⟨w.heap.size+1,3,none⟩=some (.int .u64 0):=Ja rR
  have e4:w4.cell? ⟨w.heap.size+1,4,none⟩=some (.int .u8 0):=Ja rR
  have fR:∀j,w4.frozen? ⟨w.heap.size+1,j,none⟩=false:=λj=>Qg _ _ _ _ _ rR
  have RR:Hid (_=_):=rR
  have RUN4:Hid _:=R4
  clear rR R4 hst HLF HX3 RUN3
  go_wp2
  rw [set5 _ _ _ _ _ _ _ _ _ _ _ _ _ RR.out]
  have hst:=RUN4.out.done (k:=w.heap.size+1) (cs:= #[.slice x1 x2 x3,.bool true,.string ⟨(JL wd k (a,o) (XM (p.lstS wd l))).1.1.toArray⟩,.int .u64 ((JL wd k (a,o) (XM (p.lstS wd l))).1.2.1:Int),.int .u8 ((JL wd k (a,o) (XM (p.lstS wd l))).1.2.2:Int)]) (by omega) BX1.out (by decide)
  refine QJ (v:=.agg #[.slice x1 x2 x3,.bool true,.string ⟨(JL wd k (a,o) (XM (p.lstS wd l))).1.1.toArray⟩,.int .u64 ((JL wd k (a,o) (XM (p.lstS wd l))).1.2.1:Int),.int .u8 ((JL wd k (a,o) (XM (p.lstS wd l))).1.2.2:Int)]) (Qq results146 _ _ (w.heap.size+1) _ _ (0,0) _ rfl (Qi _ _ _ _ _ _ RR.out) underlying258 rfl (by kernel_rfl)) rfl ?_
  obtain ⟨g',h1,h2,h3⟩:=hst
  have hgg:g'=g4:=h1.same (RUN4.out.port.row RR.out (by decide) (RUN4.out.box (k:=w.heap.size+1) (by omega) BX1.out).2)
  refine ⟨x1,x2,x3,true,⟨(JL wd k (a,o) (XM (p.lstS wd l))).1.1.toArray⟩,(JL wd k (a,o) (XM (p.lstS wd l))).1.2.1,(JL wd k (a,o) (XM (p.lstS wd l))).1.2.2,g',rfl,?_,h2,h3,?_⟩
  ·rw [HWAY.o]
   cases hq:p.lstS wd l with
   | none=>rw [hq] at h1;exact h1
   | some r=>
    obtain ⟨ys,p1⟩:=r
    have hcc:=HCC.o
    rw [hq] at h1 hcc
    obtain ⟨_,_,q2,_⟩:=HX4.o ys p1 hq
    simp only [XM] at h1 hcc
    dsimp only
    rw [if_neg (by rw [<-q2];exact hcc),Option.map_map]
    cases hr:(JL wd k (a,o) (Xn ys (some p1))).2 with
    | none=>rw [hr] at h1;exact h1
    | some p2=>rw [hr] at h1;exact h1
  ·intro wy p2 h
   rw [HWAY.o] at h
   cases hq:p.lstS wd l with
   | none=>rw [hq] at h;cases h
   | some r=>
    obtain ⟨ys,p1⟩:=r
    have hcc:=HCC.o
    rw [hq] at h hcc
    obtain ⟨gp,q1,q2,q3,q4,q5,q6,q7⟩:=HX4.o ys p1 hq
    simp only [XM] at hcc
    dsimp only at h
    rw [if_neg (by rw [<-q2];exact hcc)] at h
    cases hr:(JL wd k (a,o) (Xn ys (some p1))).2 with
    | none=>rw [hr] at h;cases h
    | some p3=>
     rw [hr] at h
     cases h
     refine .inr ⟨gp,by rw [q1,q2,q3],q4,q5,by rw [hgg];exact q7,?_,rfl,rfl⟩
     have hne:gp ≠ w.heap.size+1:=by
      intro e
      have:=RR.out
      rw [<-e,q6] at this
      simp at this
     exact (setRow_other _ _ _ _ hne).trans q6

def Ys (s:Stp):List UInt8:=beL s.1 2 2++s.2.data.toList
def endB:Option KO->List UInt8
 | none=>[]
 | some (k,o)=>k++outB o
def wayB (wy:Wy):List UInt8:=beL wy.1.length 2 2++(wy.1.flatMap Ys++endB wy.2)
def Jah (wd:Nat) (s:Stp):Prop:=s.1<8 * (wd+1)/\s.2.size=wd
structure WyOk (wd:Nat) (wy:Wy):Prop where
 steps:∀s∈wy.1,Jah wd s
 rise:YW wy.1 wy.1.length
 len:wy.1.length<=8 * (wd+1)
 bare:wy.2=none->wy.1=[]
 key:∀x,wy.2=some x->x.1.length=wd+1/\(x.1.getD wd 0).toNat<3/\Jv x.2
theorem JdE (x:BA):(⟨x.data.toList.toArray⟩:BA)=x:=by cases x;simp
theorem JlS {wd:Nat} (hw:wd<=1000) {s:Stp} (h:Jah wd s) (d:List UInt8):PS.step wd s (.wr d)=some (s,.wr (d++Ys s)):=by
 obtain ⟨h1,h2⟩:=h
 unfold PS.step
 rw [(XN s.1 2 0 (by omega)).wr]
 dsimp only
 rw [if_neg (by omega),(Zv s.2.data.toList [] wd (by rw [<-h2];simp)).wr]
 dsimp only
 rw [JdE,Qs];rfl
theorem JlQ {wd:Nat} (hw:wd<=1000) {s:Stp} (z:Stp) (h:Jah wd s) (q r:List UInt8):PS.step wd z (.rd q (Ys s++r))=some (s,.rd (q++Ys s) r):=by
 obtain ⟨h1,h2⟩:=h
 unfold PS.step Ys
 rw [Qs,(XN s.1 2 z.1 (by omega)).rd]
 dsimp only
 rw [if_neg (by omega),(Zv s.2.data.toList z.2.data.toList wd (by rw [<-h2];simp)).rd]
 dsimp only
 rw [JdE,Qs]
theorem JkM {wd:Nat} (hw:wd<=1000):∀(l:List Stp) (_:∀s∈l,Jah wd s) (d:List UInt8),PS.many (Jbk wd).f l (.wr d)=some (l,.wr (d++l.flatMap Ys)):=by
 intro l
 induction l with
 | nil=>intro _ d;simp [PS.many]
 | cons s l ih=>
  intro h d
  simp only [PS.many,QG]
  rw [show (Jbk wd).f s (.wr d)=PS.step wd s (.wr d) from rfl,JlS hw (h s (by simp))]
  dsimp only
  rw [ih (λs hs=>h s (by simp [hs])),Qs]
theorem JkL {wd:Nat} (hw:wd<=1000):∀(l:List Stp) (_:∀s∈l,Jah wd s) (q r:List UInt8),PS.many (Jbk wd).f (List.replicate l.length (0,⟨#[]⟩)) (.rd q (l.flatMap Ys++r))=some (l,.rd (q++l.flatMap Ys) r):=by
 intro l
 induction l with
 | nil=>intro _ q r;simp [PS.many]
 | cons s l ih=>
  intro h q r
  simp only [Qp,List.replicate_succ,PS.many,QG,Qs]
  rw [show (Jbk wd).f ((0,⟨#[]⟩):Stp) _=PS.step wd ((0,⟨#[]⟩):Stp) _ from rfl,JlQ hw _ (h s (by simp))]
  dsimp only
  rw [ih (λs hs=>h s (by simp [hs])),Qs]
theorem Jlw {wd:Nat} (hw:wd<=1000) (l:List Stp) (h:∀s∈l,Jah wd s) (hl:l.length<=8 * (wd+1)) (d:List UInt8):PS.lstS wd l (.wr d)=some (l,.wr (d++(beL l.length 2 2++l.flatMap Ys))):=by
 unfold PS.lstS PS.lst
 rw [(XN l.length 2 0 (by omega)).wr]
 dsimp only
 rw [if_neg (by omega)]
 have e:Jy ((0,⟨#[]⟩):Stp) l l.length=l:=by unfold Jy;cases l <;> simp
 rw [e,JkM hw l h,Qs]
theorem Jlv {wd:Nat} (hw:wd<=1000) (l:List Stp) (h:∀s∈l,Jah wd s) (hl:l.length<=8 * (wd+1)) (q r:List UInt8):PS.lstS wd [] (.rd q (beL l.length 2 2++(l.flatMap Ys++r)))=some (l,.rd (q++(beL l.length 2 2++l.flatMap Ys)) r):=by
 unfold PS.lstS PS.lst
 rw [Qv,(XN l.length 2 0 (by omega)).rd]
 dsimp only
 rw [if_neg (by omega)]
 have e:Jy ((0,⟨#[]⟩):Stp) [] l.length=List.replicate l.length (0,⟨#[]⟩):=by simp [Jy]
 rw [e,JkL hw l h,Qs]
theorem Jnf {wd:Nat} (k:BA) (o:Nat×Nat) (h1:k.data.toList.length=wd+1) (h2:(k.data.toList.getD wd 0).toNat<3) (h3:Jv o) (d:List UInt8):JL wd k o (some (.wr d))=((k.data.toList,o),some (.wr (d++(k.data.toList++outB o)))):=by
 have e1:Ji k.data.toList (wd+1) (some (.wr d))=(k.data.toList,some (.wr (d++k.data.toList))):=JM ((Zv k.data.toList [] (wd+1) h1).wr d)
 have e2:YF wd k.data.toList (some (.wr d))=(k.data.toList,some (.wr (d++k.data.toList))):=by unfold YF;rw [e1];dsimp only;rw [if_neg (by omega)]
 have e3:JG o.1 8 (some (.wr (d++k.data.toList)))=(o.1,some (.wr (d++k.data.toList++beL o.1 8 8))):=JT ((XN o.1 8 0 (by have:=h3.1;omega)).wr _)
 have e4:JG o.2 1 (some (.wr (d++k.data.toList++beL o.1 8 8)))=(o.2,some (.wr (d++k.data.toList++beL o.1 8 8++beL o.2 1 1))):=JT ((XN o.2 1 0 (by have:=h3.2;omega)).wr _)
 unfold JL stO
 rw [e2]
 dsimp only
 rw [e3]
 dsimp only
 rw [e4]
 simp [outB,List.append_assoc]
theorem Jne {wd:Nat} (k z:BA) (o y:Nat×Nat) (h1:k.data.toList.length=wd+1) (h2:(k.data.toList.getD wd 0).toNat<3) (h3:Jv o) (q r:List UInt8):JL wd z y (some (.rd q (k.data.toList++outB o++r)))=((k.data.toList,o),some (.rd (q++(k.data.toList++outB o)) r)):=by
 have e1:Ji z.data.toList (wd+1) (some (.rd q (k.data.toList++(outB o++r))))=(k.data.toList,some (.rd (q++k.data.toList) (outB o++r))):=JM ((Zv k.data.toList z.data.toList (wd+1) h1).rd q _)
 have e2:YF wd z.data.toList (some (.rd q (k.data.toList++(outB o++r))))=(k.data.toList,some (.rd (q++k.data.toList) (outB o++r))):=by unfold YF;rw [e1];dsimp only;rw [if_neg (by omega)]
 have e3:JG y.1 8 (some (.rd (q++k.data.toList) (outB o++r)))=(o.1,some (.rd (q++k.data.toList++beL o.1 8 8) (beL o.2 1 1++r))):=by unfold outB;rw [Qs];exact JT ((XN o.1 8 y.1 (by have:=h3.1;omega)).rd _ _)
 have e4:JG y.2 1 (some (.rd (q++k.data.toList++beL o.1 8 8) (beL o.2 1 1++r)))=(o.2,some (.rd (q++k.data.toList++beL o.1 8 8++beL o.2 1 1) r)):=JT ((XN o.2 1 y.2 (by have:=h3.2;omega)).rd _ _)
 unfold JL stO
 rw [Qs,e2]
 dsimp only
 rw [e3]
 dsimp only
 rw [e4]
 simp [outB,List.append_assoc]
def wyK (wy:Wy):BA:=match wy.2 with | none=>⟨#[]⟩ | some x=>⟨x.1.toArray⟩
def wyO (wy:Wy):Nat×Nat:=match wy.2 with | none=>(0,0) | some x=>x.2
theorem Jm0 {wd:Nat} (hw:wd<=1000) {wy:Wy} (h:WyOk wd wy) (d:List UInt8):PS.way wd wy.1 wy.2.isSome (wyK wy) (wyO wy) (.wr d)=some (wy,.wr (d++wayB wy)):=by
 obtain ⟨l,e⟩:=wy
 unfold PS.way
 rw [Jlw hw l h.steps h.len]
 dsimp only
 have hr:Xn l (some (PS.wr (d++(beL l.length 2 2++l.flatMap Ys))))=some (PS.wr (d++(beL l.length 2 2++l.flatMap Ys))):=by unfold Xn;rw [if_pos h.rise]
 rw [hr]
 cases e with
 | none=>
  obtain rfl:l=[]:=h.bare rfl
  rw [if_pos ⟨rfl,rfl⟩]
  simp [wayB,endB]
 | some x=>
  obtain ⟨k,o⟩:=x
  obtain ⟨h1,h2,h3⟩:=h.key _ rfl
  rw [if_neg (by simp [Zw])]
  have e1:=Jnf (wd:=wd) ⟨k.toArray⟩ o h1 h2 h3 (d++(beL l.length 2 2++l.flatMap Ys))
  simp only [wyK,wyO]
  rw [e1]
  simp [wayB,endB,List.append_assoc]
theorem JmZ {wd:Nat} (hw:wd<=1000) {wy:Wy} (h:WyOk wd wy) (k:BA) (o:Nat×Nat) (q:List UInt8):PS.way wd [] false k o (.rd q (wayB wy))=some (wy,.rd (q++wayB wy) []):=by
 obtain ⟨l,e⟩:=wy
 unfold PS.way
 have e0:wayB (l,e)=beL l.length 2 2++(l.flatMap Ys++endB e):=rfl
 rw [e0,Jlv hw l h.steps h.len]
 dsimp only
 have hr:∀p,Xn l (some p)=some p:=λp=>by unfold Xn;rw [if_pos h.rise]
 rw [hr]
 cases e with
 | none=>
  obtain rfl:l=[]:=h.bare rfl
  rw [if_pos ⟨rfl,by simp [Zw,endB]⟩]
  simp [endB]
 | some x=>
  obtain ⟨k',o'⟩:=x
  obtain ⟨h1,h2,h3⟩:=h.key _ rfl
  rw [if_neg (by simp [Zw,endB];intro _ h;exact absurd h (by intro e;simp [e] at h1))]
  have e1:=Jne (wd:=wd) ⟨k'.toArray⟩ k o' o h1 h2 h3 (q++(beL l.length 2 2++l.flatMap Ys)) []
  simp only [QC] at e1
  simp only [endB]
  rw [e1]
  simp [List.append_assoc]
theorem Tr.bit_lt {b b':Nat} {l' r' t r:Tr} (ht:t=.br b' l' r') (h:(Tr.br b t r).Wf\/(Tr.br b r t).Wf):b<b':=by
 subst ht
 obtain ⟨x,hx⟩:=List.exists_mem_of_ne_nil _ (Tr.coins_ne l')
 obtain ⟨y,hy⟩:=List.exists_mem_of_ne_nil _ (Tr.coins_ne r')
 apply Nat.lt_of_not_le
 intro hle
 rcases h with ⟨⟨_,_,h0,h1,_⟩,_,k0,k1,k2⟩ | ⟨_,⟨_,_,h0,h1,_⟩,k0,k1,k2⟩
 ·have e0:=h0 x hx
  have e1:=h1 y hy
  by_cases he:b'=b
  ·subst he
   have:=k0 y (by simp [Tr.coins,hy])
   omega
  ·have:=k2 x (by simp [Tr.coins,hx]) y (by simp [Tr.coins,hy]) b' (by omega)
   omega
 ·have e0:=h0 x hx
  have e1:=h1 y hy
  by_cases he:b'=b
  ·subst he
   have:=k1 x (by simp [Tr.coins,hx])
   omega
  ·have:=k2 x (by simp [Tr.coins,hx]) y (by simp [Tr.coins,hy]) b' (by omega)
   omega
theorem Jd6 {s:Stp} {l:List Stp} (h:YW l l.length) (hs:∀x,l.head? =some x->s.1<x.1):YW (s :: l) (s :: l).length:=by
 intro i h1 h2 x y hx hy
 obtain ⟨j,rfl⟩:∃j,i=j+1:=⟨i - 1,by omega⟩
 simp only [Nat.add_sub_cancel,List.getElem?_cons_succ] at hx hy
 cases j with
 | zero=>
  simp only [List.getElem?_cons_zero,Qh] at hx
  subst hx
  exact hs y (by rw [List.head?_eq_getElem?];exact hy)
 | succ j=>
  simp only [List.getElem?_cons_succ] at hx
  exact h (j+1) (by omega) (by simp at h2;omega) x y (by simpa using hx) hy
theorem Tr.way_head (d:List UInt8->BA) (k:Key) (t:Tr) (x:Stp) (h:(t.way d k).1.head? =some x):∃l r,t=.br x.1 l r:=by
 cases t with
 | leaf=>simp [way] at h
 | br b l r=>
  simp only [way] at h
  split at h
  ·simp at h;subst h;exact ⟨l,r,rfl⟩
  ·simp at h;subst h;exact ⟨l,r,rfl⟩
theorem Tr.way_rise (d:List UInt8->BA) (k:Key) (t:Tr) (hw:t.Wf):YW (t.way d k).1 (t.way d k).1.length:=by
 induction t with
 | leaf=>intro i h1 h2;simp [way] at h2
 | br b l r ihl ihr=>
  have hw':=hw
  obtain ⟨w1,w2,_⟩:=hw
  simp only [way]
  split
  ·refine Jd6 (ihl w1) (λx hx=>?_)
   obtain ⟨l',r',e⟩:=Tr.way_head d k l x hx
   exact Tr.bit_lt e (.inl hw')
  ·refine Jd6 (ihr w2) (λx hx=>?_)
   obtain ⟨l',r',e⟩:=Tr.way_head d k r x hx
   exact Tr.bit_lt e (.inr hw')
theorem Tr.way_steps (d:List UInt8->BA) (wd:Nat) (hd:∀l,(d l).size=wd) (k:Key) (t:Tr) (h:TrOk wd t):∀s∈(t.way d k).1,Jah wd s:=by
 induction t with
 | leaf=>intro s hs;cases hs
 | br b l r ihl ihr=>
  obtain ⟨hb,h1,h2⟩:=h
  intro s hs
  simp only [way] at hs
  split at hs
  ·simp only [List.mem_cons] at hs
   rcases hs with rfl | hs
   ·exact ⟨hb,by rw [Tr.dig_text,hd]⟩
   ·exact ihl h1 s hs
  ·simp only [List.mem_cons] at hs
   rcases hs with rfl | hs
   ·exact ⟨hb,by rw [Tr.dig_text,hd]⟩
   ·exact ihr h2 s hs
theorem Tr.near_ok (wd:Nat) (k:Key) (t:Tr) (h:TrOk wd t):(t.near k).1.length=wd+1/\((t.near k).1.getD wd 0).toNat<3/\Jv (t.near k).2:=by
 induction t with
 | leaf=>exact h
 | br b l r ihl ihr=>
  obtain ⟨_,h1,h2⟩:=h
  simp only [near]
  split
  ·exact ihl h1
  ·exact ihr h2
theorem Jkv (n:Nat) (l:List Stp) (h:YW l l.length) (hb:∀s∈l,s.1<n):l.length<=n:=by
 have key:∀i (hi:i<l.length),i<=l[i].1:=by
  intro i
  induction i with
  | zero=>intro _;omega
  | succ i ih=>
   intro hi
   have h1:=ih (by omega)
   have h2:=h (i+1) (by omega) hi l[i] l[i+1] (by simp) (by simp)
   omega
 by_cases h0:l.length=0
 ·omega
 ·have h1:=key (l.length - 1) (by omega)
  have h2:=hb l[l.length - 1] (Qx _)
  omega
theorem Jc0 (d:List UInt8->BA) (wd:Nat) (hd:∀l,(d l).size=wd) (k:Key) (st:Option Tr) (hw:∀t,st=some t->t.Wf/\TrOk wd t):WyOk wd (Yr d k st):=by
 cases st with
 | none=>exact ⟨λs hs=>(by cases hs),λi h1 h2=>(by simp [Yr] at h2),by simp [Yr],λ_=>rfl,λx hx=>(by cases hx)⟩
 | some t=>
  obtain ⟨h1,h2⟩:=hw t rfl
  have hs:=Tr.way_steps d wd hd k t h2
  exact ⟨hs,Tr.way_rise d k t h1,Jkv _ _ (Tr.way_rise d k t h1) (λs h=>(hs s h).1),λh=>(by cases h),λx hx=>(by cases hx;rw [Tr.way_near];exact Tr.near_ok wd k t h2)⟩
theorem JjN {wd:Nat}:∀(l:List Stp),(∀s∈l,Jah wd s)->(l.flatMap Ys).length=(wd+2) * l.length:=by
 intro l
 induction l with
 | nil=>intro _;rfl
 | cons s l ih=>
  intro h
  have h1:=(h s (by simp)).2
  have e:s.2.data.toList.length=wd:=by rw [<-h1];simp
  rw [QG,Qe,ih (λs hs=>h s (by simp [hs])),Ys,Qe,Je,e,Qp,Nat.mul_add]
  omega
theorem Jf5 {wd:Nat} {wy:Wy} (h:WyOk wd wy):(wayB wy).length<=2+8 * (wd+1) * (2+wd)+wd+10:=by
 obtain ⟨l,e⟩:=wy
 have h1:=JjN l h.steps
 have h2:=h.len
 simp only at h2
 have h3:(wd+2) * l.length<=(wd+2) * (8 * (wd+1)):=Nat.mul_le_mul_left _ h2
 have h4:(wd+2) * (8 * (wd+1))=8 * (wd+1) * (2+wd):=by rw [Nat.mul_comm,Nat.add_comm wd 2]
 simp only [wayB,Qe,Je,h1]
 cases e with
 | none=>simp [endB];omega
 | some x=>
  obtain ⟨k,o⟩:=x
  have:=(h.key _ rfl).1
  simp only at this
  simp only [endB,Qe,outB,Je]
  omega
