import Derived.Test.YtighkdnooglfjaaGreatDoorOcChJ
import Derived.Test.YtighkdnooglfjaaGreatDoorOcWyU
namespace Go.Proofs.YtighkdnooglfjaaGreatDoor
open Go.Proofs.Tryz
set_option maxRecDepth 100000
set_option maxHeartbeats 1000000
open Go.RowKit

def subP (d:List UInt8->BA) (wd m:Nat) (bh:BA) (st:Option Tr) (text:List UInt8):Except Er (BA×Option Tr):=
 match (PS.rd [] text).hdr wd (0,⟨#[]⟩,⟨#[]⟩,⟨#[]⟩) with
 | some (h,⟨.inl (pre,body)⟩)=>match (PS.rd pre body).body wd [] with
  | some (ts,⟨.inl (_,[])⟩)=>if h ≠ (m+1,d (72 :: bh.data.toList),d (66 :: body),h.2.2.2) then .error .tip else match JR d st ts with
   | .error e=>.error e
   | .ok st'=>if h.2.2.2 ≠ Xi d st' then .error .root else .ok (⟨(text.take (text.length - body.length)).toArray⟩,st')
  | _=>.error .form
 | _=>.error .form
theorem Jc5 (d:List UInt8->BA) (wd m:Nat) (bh:BA) (st:Option Tr) (ch:Ch) (hl:ch.length=m+1) (hla:ch.last=(bh,st)) (text:List UInt8):
  Xo d wd ch text=match subP d wd m bh st text with | .error e=>.error e | .ok x=>.ok (ch++[x]):=by
 unfold Xo subP Zl
 rw [hl,hla]
 dsimp only
 cases (PS.rd [] text).hdr wd (0,⟨#[]⟩,⟨#[]⟩,⟨#[]⟩) with
 | none=>rfl
 | some x=>
  obtain ⟨h,p⟩:=x
  cases p using PS.on with
  | wr d=>rfl
  | rd pre body=>
   dsimp only
   cases (PS.rd pre body).body wd [] with
   | none=>rfl
   | some y=>
    obtain ⟨ts,p⟩:=y
    cases p using PS.on with
    | wr d=>rfl
    | rd q r=>
     cases r with
     | cons a l=>rfl
     | nil=>
      dsimp only
      split
      ·rfl
      ·cases JR d st ts with
       | error e=>rfl
       | ok st'=>dsimp only;split <;> rfl
def NoTo (E:Nat->Addr) (er:Nat) (w:World) (e:Ending) (w':World):Prop:=Tch NoB w w'/\∃t u,e=.returned (.iface t u)/\Jl E er w' (.iface t u)
theorem Je9 (E:Nat->Addr) {w:World} (hE:Env E w) {cb wd fl r:Nat} (hw:wd<=32) {bs:List BV} {lv:Value} (h:Jt w cb wd fl r bs lv) (s:BA) (hs:s.size<=1100000) (hh:(PS.rd [] s.data.toList).hdr wd (0,⟨#[]⟩,⟨#[]⟩,⟨#[]⟩)=none):
  Calls prog 46 #[.pointer (some ⟨cb,0,none⟩),.string s] w λe w'=>NoTo E 7 w e w':=by
 have hsz:=hE.size
 have c0:w.cell? ⟨cb,0,none⟩=some (.int .i64 (wd:Int)):=Ja h.row
 have HHD:Hid (∀W,Tch NoB w W->Jc W w.heap.size none (wd:Int) .nilIface (.rd [] s.data.toList)->Calls prog 86 #[.pointer (some ⟨w.heap.size,0,none⟩),.agg #[.int .u64 0,.string ⟨#[]⟩,.string ⟨#[]⟩,.string ⟨#[]⟩]] W λe w'=>∃(n:Nat) (x1 x2 x3:BA),e=.returned (.agg #[.int .u64 (n:Int),.string x1,.string x2,.string x3])/\RdTo E W w' w.heap.size (wd:Int) none):=λW hT hp=>by
  have:=JdL E w.heap.size hsz wd 0 ⟨#[]⟩ ⟨#[]⟩ ⟨#[]⟩ (some (.rd [] s.data.toList)) W (hE.tch hT noE) ⟨hp,_,_,rfl⟩ (by simp only [JN,PS.len,Qv,QA];have:s.data.size<=1100000:=hs;omega)
  refine this.mono λe w' k=>?_
  rw [JgL wd _ _ hh] at k
  exact ⟨_,_,_,_,k.1,k.2⟩
 clear hE h hh hs
 go_enter func46,ntmps46
 go_wp2_with fail
 refine (Xj _ _ _).mono ?_
 rintro _ w1 ⟨rfl,hp1,ht1⟩
 have HT1:Hid (Tch NoB w w1):=ht1
 have HP1:Hid (Jc w1 w.heap.size none (wd:Int) .nilIface (.rd [] s.data.toList)):=hp1
 clear ht1 hp1 c0
 go_wp2_with fail
 refine (HHD.o w1 HT1.o HP1.o).mono ?_
 rintro _ w2 ⟨n,x1,x2,x3,rfl,⟨q,rr,t,u,hp2,he2⟩,ht2⟩
 have hA:=Ta NoB w2 (.cells #[.int .u64 (n:Int),.string x1,.string x2,.string x3] 167)
 have HT2:Hid (Tch NoB w _):=(HT1.o.trans ht2 (λj hj=>.inr (Nat.le_of_eq hj.symm))).go hA
 have HP2:Hid (Jc _ w.heap.size none (wd:Int) (.iface t u) (.rd q rr)):=hp2.tch hA (λh=>h) (λ_ _ h=>h)
 have HE2:Hid (Jl E 7 _ (.iface t u)):=he2.next hA
 clear hp2 he2 ht2 HHD HP1 HT1 hA
 go_wp2_with fail
 refine (JcP w.heap.size none (wd:Int) _ q rr _ HP2.o).mono ?_
 rintro _ w3 ⟨rfl,ht3⟩
 have HT3:Hid (Tch NoB w w3):=HT2.o.go ht3
 have HP3:Hid (Jc w3 w.heap.size none (wd:Int) (.iface t u) (.rd q rr)):=HP2.o.tch ht3 (λh=>h) (λ_ _ h=>h)
 have HE3:Hid (Jl E 7 w3 (.iface t u)):=HE2.o.next ht3
 clear ht3 HT2 HP2 HE2
 go_wp2_with fail
 refine (Jjt w.heap.size none wd none 0 0 _ t u w3 HP3.o).mono ?_
 rintro _ w4 ⟨rfl,hp4,ht4⟩
 have HT4:Hid (Tch NoB w w4):=HT3.o.go ht4
 have HP4:Hid (Jc w4 w.heap.size none (wd:Int) (.iface t u) (.rd q rr)):=hp4
 have HE4:Hid (Jl E 7 w4 (.iface t u)):=HE3.o.next ht4
 clear ht4 hp4 HT3 HP3 HE3
 go_wp2_with fail
 refine (Jd2 w.heap.size none (wd:Int) t u _ w4 HP4.o).mono ?_
 rintro _ w5 ⟨rfl,ht5⟩
 have HT5:Hid (Tch NoB w w5):=HT4.o.go ht5
 have HE5:Hid (Jl E 7 w5 (.iface t u)):=HE4.o.next ht5
 clear ht5 HT4 HP4 HE4
 go_wp2_with fail
 refine (Xy _ _ _ _).mono ?_
 rintro _ _ ⟨rfl,rfl⟩
 go_wp2
 go_ret
 exact ⟨HT5.o.go (Ta _ _ _),_,_,rfl,.wrap _ _ _ (Qf _ _) (HE5.o.next (Ta _ _ _))⟩
theorem JgS (E:Nat->Addr) {w W:World} (hE:Env E w) (wd:Nat) (hw:wd<=32) (s:BA) (hs:s.size<=1100000) (y:HdL) (p:PS) (hh:(PS.rd [] s.data.toList).hdr wd (0,⟨#[]⟩,⟨#[]⟩,⟨#[]⟩)=some (y,p)) (hT:Tch NoB w W) (hp:Jc W w.heap.size none (wd:Int) .nilIface (.rd [] s.data.toList)):
  Calls prog 86 #[.pointer (some ⟨w.heap.size,0,none⟩),.agg #[.int .u64 0,.string ⟨#[]⟩,.string ⟨#[]⟩,.string ⟨#[]⟩]] W λe w'=>e=.returned (.agg #[.int .u64 (y.1:Int),.string y.2.1,.string y.2.2.1,.string y.2.2.2])/\RdTo E W w' w.heap.size (wd:Int) (some p):=by
 have:=JdL E w.heap.size hE.size wd 0 ⟨#[]⟩ ⟨#[]⟩ ⟨#[]⟩ (some (.rd [] s.data.toList)) W (hE.tch hT noE) ⟨hp,_,_,rfl⟩ (by simp only [JN,PS.len,Qv,QA];have:s.data.size<=1100000:=hs;omega)
 refine this.mono λe w' k=>?_
 obtain ⟨e1,e2⟩:=JcV wd _ _ _ _ hh
 rw [e1] at k
 rw [e2] at k
 exact k
theorem Jhs (E:Nat->Addr) {w W:World} (hE:Env E w) (wd:Nat) (hw:wd<=32) (pre body:List UInt8) (hl:pre.length+body.length<=1100000) (hT:Tch NoB w W) (hp:Jc W w.heap.size none (wd:Int) .nilIface (.rd pre body)):
  Calls prog 78 #[.pointer (some ⟨w.heap.size,0,none⟩),.slice none 0 0] W λe w'=>ToB E W w.heap.size none wd ((PS.rd pre body).body wd []) e w':=
 Je6 E w.heap.size hE.size none wd hw (.slice none 0 0) [] [] (.rd pre body) W (hE.tch hT noE) hp (.inl ⟨rfl,rfl⟩) rfl (by simp) (λ_ _ _=>rfl) (λj x t h=>by simp at h) (by simp only [PS.len];omega)
theorem Jfa (E:Nat->Addr) {w:World} (hE:Env E w) {cb wd fl r:Nat} (hw:wd<=32) {bs:List BV} {lv:Value} (h:Jt w cb wd fl r bs lv) (s:BA) (hs:s.size<=1100000) (y:HdL) (pre body:List UInt8) (hh:(PS.rd [] s.data.toList).hdr wd (0,⟨#[]⟩,⟨#[]⟩,⟨#[]⟩)=some (y,.rd pre body)) (hl:pre.length+body.length<=1100000) (hb:∀ts q,(PS.rd pre body).body wd [] ≠ some (ts,.rd q [])):
  Calls prog 46 #[.pointer (some ⟨cb,0,none⟩),.string s] w λe w'=>NoTo E 7 w e w':=by
 have hsz:=hE.size
 have c0:w.cell? ⟨cb,0,none⟩=some (.int .i64 (wd:Int)):=Ja h.row
 have HHD:Hid (∀W,Tch NoB w W->Jc W w.heap.size none (wd:Int) .nilIface (.rd [] s.data.toList)->Calls prog 86 #[.pointer (some ⟨w.heap.size,0,none⟩),.agg #[.int .u64 0,.string ⟨#[]⟩,.string ⟨#[]⟩,.string ⟨#[]⟩]] W λe w'=>e=.returned (.agg #[.int .u64 (y.1:Int),.string y.2.1,.string y.2.2.1,.string y.2.2.2])/\RdTo E W w' w.heap.size (wd:Int) (some (.rd pre body))):=λW hT hp=>JgS E hE wd hw s hs y _ hh hT hp
 have HBO:Hid (∀W,Tch NoB w W->Jc W w.heap.size none (wd:Int) .nilIface (.rd pre body)->Calls prog 78 #[.pointer (some ⟨w.heap.size,0,none⟩),.slice none 0 0] W λe w'=>ToB E W w.heap.size none wd ((PS.rd pre body).body wd []) e w'):=λW hT hp=>Jhs E hE wd hw pre body hl hT hp
 have HDN:Hid (∀W g,Tch NoB w W->Jh E W w.heap.size g (wd:Int) (((PS.rd pre body).body wd []).map (·.2))->Calls prog 88 #[.pointer (some ⟨w.heap.size,0,none⟩)] W λe w'=>Tch NoB W w'/\∃t u,e=.returned (.iface t u)/\Jl E 7 w' (.iface t u)):=λW g hT hp=>by
  cases hx:(PS.rd pre body).body wd [] with
  | none=>
   rw [hx] at hp
   exact JcO E w.heap.size wd none (λp h=>by cases h) W (hE.tch hT noE) g hp
  | some z=>
   obtain ⟨ts,p⟩:=z
   obtain ⟨b1,r1,_,_,e1,_⟩:=ZF wd hw _ _ _ _ hx
   subst e1
   rw [hx] at hp
   cases r1 with
   | nil=>exact absurd hx (hb _ _)
   | cons a l=>exact JcO E w.heap.size wd (some (.rd (pre++b1) (a :: l))) (λp h=>⟨_,_,(Option.some.inj h).symm⟩) W (hE.tch hT noE) g hp
 clear hE h hh hs hb hl
 go_enter func46,ntmps46
 go_wp2_with fail
 refine (Xj _ _ _).mono ?_
 rintro _ w1 ⟨rfl,hp1,ht1⟩
 have HT1:Hid (Tch NoB w w1):=ht1
 have HP1:Hid (Jc w1 w.heap.size none (wd:Int) .nilIface (.rd [] s.data.toList)):=hp1
 clear ht1 hp1 c0
 go_wp2_with fail
 refine (HHD.o w1 HT1.o HP1.o).mono ?_
 rintro _ w2 ⟨rfl,⟨hp2,_⟩,ht2⟩
 have hA:=Ta NoB w2 (.cells #[.int .u64 (y.1:Int),.string y.2.1,.string y.2.2.1,.string y.2.2.2] 167)
 have HT2:Hid (Tch NoB w _):=(HT1.o.trans ht2 (λj hj=>.inr (Nat.le_of_eq hj.symm))).go hA
 have HP2:Hid (Jc _ w.heap.size none (wd:Int) .nilIface (.rd pre body)):=hp2.tch hA (λh=>h) (λ_ _ h=>h)
 clear hp2 ht2 HHD HP1 HT1 hA
 go_wp2_with fail
 refine (JcP w.heap.size none (wd:Int) _ pre body _ HP2.o).mono ?_
 rintro _ w3 ⟨rfl,ht3⟩
 have HT3:Hid (Tch NoB w w3):=HT2.o.go ht3
 have HP3:Hid (Jc w3 w.heap.size none (wd:Int) .nilIface (.rd pre body)):=HP2.o.tch ht3 (λh=>h) (λ_ _ h=>h)
 clear ht3 HT2 HP2
 go_wp2_with fail
 refine (HBO.o w3 HT3.o HP3.o).mono ?_
 rintro _ w4 ⟨⟨z1,z2,z3⟩,g4,rfl,hp4,_,ht4,_⟩
 have HT4:Hid (Tch NoB w w4):=Xt (b:=w.heap.size) (Ql _) HT3.o ht4
 have HP4:Hid (Jh E w4 w.heap.size g4 (wd:Int) (((PS.rd pre body).body wd []).map (·.2))):=hp4
 clear ht4 hp4 HT3 HP3
 go_wp2_with fail
 refine (HDN.o w4 g4 HT4.o HP4.o).mono ?_
 rintro _ w5 ⟨ht5,t,u,rfl,he5⟩
 have HT5:Hid (Tch NoB w w5):=HT4.o.go ht5
 have HE5:Hid (Jl E 7 w5 (.iface t u)):=he5
 clear ht5 HT4 HP4 he5 HDN HBO
 go_wp2_with fail
 refine (Xy _ _ _ _).mono ?_
 rintro _ _ ⟨rfl,rfl⟩
 go_wp2
 go_ret
 exact ⟨HT5.o.go (Ta _ _ _),_,_,rfl,.wrap _ _ _ (Qf _ _) (HE5.o.next (Ta _ _ _))⟩

theorem JgY (l:List UInt8):(⟨l.toArray⟩:BA).data.toList=l:=rfl
theorem JgQ (E:Nat->Addr) (wd:Nat) (hw:wd<=32) (h:HdL) (hh:HdOk wd h) (w:World) (hE:Env E w):
  Calls prog 212 #[.int .i64 (wd:Int),.string ⟨(hdrB h).toArray⟩] w λe w'=>e=.returned (.tuple #[.string h.2.2.2,.nilIface])/\Tch NoB w w':=by
 have hlen:(hdrB h).length<=1000:=by
  obtain ⟨h1,h2,h3,h4⟩:=hh
  unfold hdrB
  simp only [Qe,Je,QA]
  have e2:h.2.1.data.size=wd:=h2
  have e3:h.2.2.1.data.size=wd:=h3
  have e4:h.2.2.2.data.size=wd:=h4
  omega
 have hrd:(PS.rd [] (hdrB h)).hdr wd (0,⟨#[]⟩,⟨#[]⟩,⟨#[]⟩)=some (h,.rd (hdrB h) []):=by
  have:=(JeI wd h (0,⟨#[]⟩,⟨#[]⟩,⟨#[]⟩) hh).rd [] []
  rw [QC] at this
  exact this
 have HHD:Hid (∀W,Tch NoB w W->Jc W w.heap.size none (wd:Int) .nilIface (.rd [] (hdrB h))->Calls prog 86 #[.pointer (some ⟨w.heap.size,0,none⟩),.agg #[.int .u64 0,.string ⟨#[]⟩,.string ⟨#[]⟩,.string ⟨#[]⟩]] W λe w'=>e=.returned (.agg #[.int .u64 (h.1:Int),.string h.2.1,.string h.2.2.1,.string h.2.2.2])/\RdTo E W w' w.heap.size (wd:Int) (some (.rd (hdrB h) []))):=λW hT hp=>JgS E hE wd hw ⟨(hdrB h).toArray⟩ (by rw [Ju];omega) h _ hrd hT hp
 obtain ⟨n,s1,s2,s3⟩:=h
 dsimp only at HHD ⊢
 clear hE hh hlen hrd
 have HL:Hid (∀hb,hb=hdrB (n,s1,s2,s3)->_):=λhb (_:hb=hdrB (n,s1,s2,s3))=>trivial
 clear HL
 generalize hhb:hdrB (n,s1,s2,s3)=hb at *
 clear hhb
 go_enter func212,ntmps212
 go_wp2_with fail
 refine (Xj _ _ _).mono ?_
 rintro _ w1 ⟨rfl,hp1,(HT1:Hid _)⟩
 have HP1:Hid (Jc w1 w.heap.size none (wd:Int) .nilIface (.rd [] hb)):=hp1
 clear hp1
 go_wp2_with fail
 refine (HHD w1 HT1 HP1).mono ?_
 rintro _ w2 ⟨rfl,⟨hp2,_⟩,ht2⟩
 obtain ⟨W3,(HW3:Hid _)⟩:∃W3,W3=w2.alloc (.cells #[.int .u64 (n:Int),.string s1,.string s2,.string s3] 167):=⟨_,rfl⟩
 have hA:Tch NoB w2 W3:=by rw [HW3];exact Ta _ _ _
 have HT2:Hid _:=(HT1.trans ht2 (λj hj=>.inr (Nat.le_of_eq hj.symm))).go hA
 have HP2:Hid (Jc W3 w.heap.size none (wd:Int) .nilIface (.rd hb [])):=hp2.tch hA (λh=>h) (λ_ _ h=>h)
 have hr3:W3.heap[w2.heap.size]? =some (.cells #[.int .u64 (n:Int),.string s1,.string s2,.string s3] 167):=by rw [HW3];exact Qf _ _
 obtain ⟨-, -, -,c3⟩:=rows hr3
 have C3:Hid _:=hr3
 have HDN:Hid (∀W,Tch NoB W3 W->Calls prog 88 #[.pointer (some ⟨w.heap.size,0,none⟩)] W λe w'=>e=.returned .nilIface/\Tch NoB W w'):=λW hT=>Jan w.heap.size (wd:Int) hb W (HP2.tch hT (λh=>h) (λ_ _ h=>h))
 clear hp2 ht2 HHD HP1 HT1 hA hr3 HP2
 go_upto_region 3 with fail
 rw [<-HW3.o]
 have HC:Hid (∀W,Tch NoB W3 W->W.cell? ⟨w2.heap.size,3,none⟩=some (.string s3)):=λW hT=>Ja ((hT.block _ (Jb C3) (λh=>h)).trans C3)
 go_region_with (go_at_call 88;refine (HDN _ (Td _ _ 1)).mono ?_;rintro _ w4 ⟨rfl,ht4⟩;have HT4:Hid _:=(Td NoB W3 1).go ht4;have c4:=HC _ HT4.o;clear ht4)
 all_goals
  go_wp2
  go_ret2
  exact ⟨rfl,HT2.go HT4⟩
abbrev qV (wd:Nat) (state kb:BA):Value:=.agg #[.int .i64 (wd:Int),.string state,.string kb]
theorem Jmi (E:Nat->Addr) (wd:Nat) (h1:1<=wd) (hw:wd<=32) (h:HdL) (hh:HdOk wd h) (c:BA×Int) (hc:Jn wd c) (w:World) (hE:Env E w):
  Calls prog 143 #[.int .i64 (wd:Int),.string ⟨(hdrB h).toArray⟩,.agg #[.string c.1,.int .i64 c.2]] w λe w'=>e=.returned (.tuple #[qV wd h.2.2.2 ⟨(Jd c).toArray⟩,.nilIface])/\Tch NoB w w':=by
 have HST:Hid (∀W,Tch NoB w W->_):=λW hT=>JgQ E wd hw h hh W (hE.tch hT noE)
 have HK:Hid (∀W,Tch NoB w W->_):=λW hT=>Jau E wd hw c hc W (hE.tch hT noE)
 have HCW:Hid (∀W,_):=λW=>Zt wd W h1 hw
 generalize h.2.2.2=st at *
 generalize (⟨(hdrB h).toArray⟩:BA)=hb at *
 obtain ⟨s,N⟩:=c
 dsimp only at HK ⊢
 generalize (⟨(Jd (s,N)).toArray⟩:BA)=kb at *
 obtain ⟨W,(HW:Hid _)⟩:∃W,W=(w.alloc (.cells #[.string s,.int .i64 N] 49)).alloc (.cells #[.int .i64 0,.string ⟨#[]⟩,.string ⟨#[]⟩] 248):=⟨_,rfl⟩
 have hA:=ha2 HW
 have hr0:=hno HW
 have hr1:=hnn HW
 have HB:Hid (∀V,Tch NoB W V->V.heap[w.heap.size]? =some (.cells #[.string s,.int .i64 N] 49)/\V.heap[w.heap.size+1]? =some (.cells #[.int .i64 0,.string ⟨#[]⟩,.string ⟨#[]⟩] 248)):=λV hT=>⟨(hT.block _ (Jb hr0) (λh=>h)).trans hr0,(hT.block _ (Jb hr1) (λh=>h)).trans hr1⟩
 have HA:Hid _:=hA
 clear hA hr0 hr1
 go_enter func143,ntmps143
 go_upto_region 1 with fail
 rw [<-HW.o]
 go_wp2_with fail
 refine (HCW W).mono ?_
 rintro _ w1 ⟨rfl,rfl⟩
 have HT1:Hid (Tch NoB W W):=Te _ _
 go_wp2_with fail
 refine (HST W (HA.go HT1)).mono ?_
 rintro _ w2 ⟨rfl,ht2⟩
 have HT2:Hid _:=HT1.go ht2
 obtain ⟨b0,b1⟩:=HB w2 HT2.o
 obtain ⟨c0,c1⟩:=rows b0
 go_wp2_with fail
 refine (HK w2 (HA.go HT2)).mono ?_
 rintro _ w3 ⟨rfl,ht3⟩
 have HT3:Hid _:=HT2.go ht3
 obtain ⟨_,(R3:Hid _)⟩:=HB w3 HT3.o
 obtain ⟨r0,r1,r2⟩:=rows R3
 have fR:∀j,w3.frozen? ⟨w.heap.size+1,j,none⟩=false:=λj=>Qg _ _ _ _ _ R3
 clear ht3 HK HT2 c0 c1
 go_wp2
 rw [set3 _ _ _ _ _ _ _ _ _ R3.o]
 refine QJ (v:=.tuple #[qV wd st kb,.nilIface]) (Jk results143 _ _ (w.heap.size+1) _ _ (0,0) _ rfl (Qi _ _ _ _ _ _ R3) underlying248 rfl (by kernel_rfl)) rfl ⟨rfl,?_⟩
 exact (HA.go HT3).trans (Ts _ _ _) (λj hj=>.inr (by omega))
def YN (o:Option (Nat×Nat)):Value:=match o with
 | some o=>.agg #[.int .i64 1,.int .u64 (o.1:Int),.int .u8 (o.2:Int)]
 | none=>.agg #[.int .i64 2,.int .u64 0,.int .u8 0]
