import Derived.Test.YtighkdnooglfjaaGreatDoorPcChJ
import Derived.Test.YtighkdnooglfjaaGreatDoorPcChK
import Derived.Test.YtighkdnooglfjaaGreatDoorPcLdE
namespace Go.Proofs.YtighkdnooglfjaaGreatDoor
open Go.Proofs.Tryz
set_option maxRecDepth 100000
set_option maxHeartbeats 1000000
open Go.RowKit

def subP (d:List UInt8->BA) (wd m:Nat) (bh:BA) (st:Option Tr) (text:List UInt8):Except Er (BA×Option Tr):=
 match (PS.rd [] text).hdr wd (0,⟨#[]⟩,⟨#[]⟩,⟨#[]⟩) with
 | some (h,⟨.inl (pre,body)⟩)=>match (PS.rd pre body).body wd [] with
  | some (ts,⟨.inl (_,[])⟩)=>if h ≠ (m+1,d (72 :: bh.data.toList),d (66 :: body),h.2.2.2) then .error .tip else match JC d st ts with
   | .error e=>.error e
   | .ok st'=>if h.2.2.2 ≠ JT d st' then .error .root else .ok (⟨(text.take (text.length - body.length)).toArray⟩,st')
  | _=>.error .form
 | _=>.error .form
theorem Jes (d:List UInt8->BA) (wd m:Nat) (bh:BA) (st:Option Tr) (ch:Ch) (hl:ch.length=m+1) (hla:ch.last=(bh,st)) (text:List UInt8):
  JY d wd ch text=match subP d wd m bh st text with | .error e=>.error e | .ok x=>.ok (ch++[x]):=by
 unfold JY subP XQ
 rw [hl,hla]
 dsimp only
 cases (PS.rd [] text).hdr wd (0,⟨#[]⟩,⟨#[]⟩,⟨#[]⟩) with
 | none=>rfl
 | some x=>
  obtain ⟨h,p⟩:=x
  cases p using PS.on with
  | wr d=>rfl
  | rd pre body=>
   dsimp only
   cases (PS.rd pre body).body wd [] with
   | none=>rfl
   | some y=>
    obtain ⟨ts,p⟩:=y
    cases p using PS.on with
    | wr d=>rfl
    | rd q r=>
     cases r with
     | cons a l=>rfl
     | nil=>
      dsimp only
      split
      ·rfl
      ·cases JC d st ts with
       | error e=>rfl
       | ok st'=>dsimp only;split <;> rfl
def NoTo (E:Nat->Addr) (er:Nat) (w:World) (e:Ending) (w':World):Prop:=Tch NoB w w'/\∃t u,e=.returned (.iface t u)/\Jj E er w' (.iface t u)
theorem Jdf (E:Nat->Addr) {w:World} (hE:Env E w) {cb wd fl r:Nat} (hw:wd<=32) {bs:List BV} {lv:Value} (h:JO w cb wd fl r bs lv) (s:BA) (hs:s.size<=1100000) (hh:(PS.rd [] s.data.toList).hdr wd (0,⟨#[]⟩,⟨#[]⟩,⟨#[]⟩)=none):
  Calls prog 46 #[.pointer (some ⟨cb,0,none⟩),.string s] w λe w'=>NoTo E 7 w e w':=by
 have hsz:=hE.size
 have c0:w.cell? ⟨cb,0,none⟩=some (.int .i64 (wd:Int)):=Ja h.row
 have HHD:Hid (∀W,Tch NoB w W->Jc W w.heap.size none (wd:Int) .nilIface (.rd [] s.data.toList)->Calls prog 86 #[.pointer (some ⟨w.heap.size,0,none⟩),.agg #[.int .u64 0,.string ⟨#[]⟩,.string ⟨#[]⟩,.string ⟨#[]⟩]] W λe w'=>∃(n:Nat) (x1 x2 x3:BA),e=.returned (.agg #[.int .u64 (n:Int),.string x1,.string x2,.string x3])/\RdTo E W w' w.heap.size (wd:Int) none):=λW hT hp=>by
  have:=Jb7 E w.heap.size hsz wd 0 ⟨#[]⟩ ⟨#[]⟩ ⟨#[]⟩ (some (.rd [] s.data.toList)) W (hE.tch hT noE) ⟨hp,_,_,rfl⟩ (by simp only [JH,PS.len,Qv,QA];have:s.data.size<=1100000:=hs;omega)
  refine this.mono λe w' k=>?_
  rw [Jep wd _ _ hh] at k
  exact ⟨_,_,_,_,k.1,k.2⟩
 clear hE h hh hs
 go_enter func46,ntmps46
 go_wp2_with fail
 refine (Yx _ _ _).mono ?_
 rintro _ w1 ⟨rfl,hp1,ht1⟩
 have HT1:Hid (Tch NoB w w1):=ht1
 have HP1:Hid (Jc w1 w.heap.size none (wd:Int) .nilIface (.rd [] s.data.toList)):=hp1
 clear ht1 hp1 c0
 go_wp2_with fail
 refine (HHD.o w1 HT1.o HP1.o).mono ?_
 rintro _ w2 ⟨n,x1,x2,x3,rfl,⟨q,rr,t,u,hp2,he2⟩,ht2⟩
 have hA:=Ta NoB w2 (.cells #[.int .u64 (n:Int),.string x1,.string x2,.string x3] 167)
 have HT2:Hid (Tch NoB w _):=(HT1.o.trans ht2 (λj hj=>.inr (Nat.le_of_eq hj.symm))).go hA
 have HP2:Hid (Jc _ w.heap.size none (wd:Int) (.iface t u) (.rd q rr)):=hp2.tch hA (λh=>h) (λ_ _ h=>h)
 have HE2:Hid (Jj E 7 _ (.iface t u)):=he2.next hA
 clear hp2 he2 ht2 HHD HP1 HT1 hA
 go_wp2_with fail
 refine (Jbx w.heap.size none (wd:Int) _ q rr _ HP2.o).mono ?_
 rintro _ w3 ⟨rfl,ht3⟩
 have HT3:Hid (Tch NoB w w3):=HT2.o.go ht3
 have HP3:Hid (Jc w3 w.heap.size none (wd:Int) (.iface t u) (.rd q rr)):=HP2.o.tch ht3 (λh=>h) (λ_ _ h=>h)
 have HE3:Hid (Jj E 7 w3 (.iface t u)):=HE2.o.next ht3
 clear ht3 HT2 HP2 HE2
 go_wp2_with fail
 refine (Jgr w.heap.size none wd none 0 0 _ t u w3 HP3.o).mono ?_
 rintro _ w4 ⟨rfl,hp4,ht4⟩
 have HT4:Hid (Tch NoB w w4):=HT3.o.go ht4
 have HP4:Hid (Jc w4 w.heap.size none (wd:Int) (.iface t u) (.rd q rr)):=hp4
 have HE4:Hid (Jj E 7 w4 (.iface t u)):=HE3.o.next ht4
 clear ht4 hp4 HT3 HP3 HE3
 go_wp2_with fail
 refine (Jci w.heap.size none (wd:Int) t u _ w4 HP4.o).mono ?_
 rintro _ w5 ⟨rfl,ht5⟩
 have HT5:Hid (Tch NoB w w5):=HT4.o.go ht5
 have HE5:Hid (Jj E 7 w5 (.iface t u)):=HE4.o.next ht5
 clear ht5 HT4 HP4 HE4
 go_wp2_with fail
 refine (XE _ _ _ _).mono ?_
 rintro _ _ ⟨rfl,rfl⟩
 go_wp2
 go_ret
 exact ⟨HT5.o.go (Ta _ _ _),_,_,rfl,.wrap _ _ _ (Qf _ _) (HE5.o.next (Ta _ _ _))⟩
theorem Jhq (E:Nat->Addr) {w W:World} (hE:Env E w) (wd:Nat) (hw:wd<=32) (s:BA) (hs:s.size<=1100000) (y:HdL) (p:PS) (hh:(PS.rd [] s.data.toList).hdr wd (0,⟨#[]⟩,⟨#[]⟩,⟨#[]⟩)=some (y,p)) (hT:Tch NoB w W) (hp:Jc W w.heap.size none (wd:Int) .nilIface (.rd [] s.data.toList)):
  Calls prog 86 #[.pointer (some ⟨w.heap.size,0,none⟩),.agg #[.int .u64 0,.string ⟨#[]⟩,.string ⟨#[]⟩,.string ⟨#[]⟩]] W λe w'=>e=.returned (.agg #[.int .u64 (y.1:Int),.string y.2.1,.string y.2.2.1,.string y.2.2.2])/\RdTo E W w' w.heap.size (wd:Int) (some p):=by
 have:=Jb7 E w.heap.size hE.size wd 0 ⟨#[]⟩ ⟨#[]⟩ ⟨#[]⟩ (some (.rd [] s.data.toList)) W (hE.tch hT noE) ⟨hp,_,_,rfl⟩ (by simp only [JH,PS.len,Qv,QA];have:s.data.size<=1100000:=hs;omega)
 refine this.mono λe w' k=>?_
 obtain ⟨e1,e2⟩:=JbB wd _ _ _ _ hh
 rw [e1] at k
 rw [e2] at k
 exact k
theorem JeP (E:Nat->Addr) {w W:World} (hE:Env E w) (wd:Nat) (hw:wd<=32) (pre body:List UInt8) (hl:pre.length+body.length<=1100000) (hT:Tch NoB w W) (hp:Jc W w.heap.size none (wd:Int) .nilIface (.rd pre body)):
  Calls prog 78 #[.pointer (some ⟨w.heap.size,0,none⟩),.slice none 0 0] W λe w'=>ToB E W w.heap.size none wd ((PS.rd pre body).body wd []) e w':=
 Jdd E w.heap.size hE.size none wd hw (.slice none 0 0) [] [] (.rd pre body) W (hE.tch hT noE) hp (.inl ⟨rfl,rfl⟩) rfl (by simp) (λ_ _ _=>rfl) (λj x t h=>by simp at h) (by simp only [PS.len];omega)
theorem Jdg (E:Nat->Addr) {w:World} (hE:Env E w) {cb wd fl r:Nat} (hw:wd<=32) {bs:List BV} {lv:Value} (h:JO w cb wd fl r bs lv) (s:BA) (hs:s.size<=1100000) (y:HdL) (pre body:List UInt8) (hh:(PS.rd [] s.data.toList).hdr wd (0,⟨#[]⟩,⟨#[]⟩,⟨#[]⟩)=some (y,.rd pre body)) (hl:pre.length+body.length<=1100000) (hb:∀ts q,(PS.rd pre body).body wd [] ≠ some (ts,.rd q [])):
  Calls prog 46 #[.pointer (some ⟨cb,0,none⟩),.string s] w λe w'=>NoTo E 7 w e w':=by
 have hsz:=hE.size
 have c0:w.cell? ⟨cb,0,none⟩=some (.int .i64 (wd:Int)):=Ja h.row
 have HHD:Hid (∀W,Tch NoB w W->Jc W w.heap.size none (wd:Int) .nilIface (.rd [] s.data.toList)->Calls prog 86 #[.pointer (some ⟨w.heap.size,0,none⟩),.agg #[.int .u64 0,.string ⟨#[]⟩,.string ⟨#[]⟩,.string ⟨#[]⟩]] W λe w'=>e=.returned (.agg #[.int .u64 (y.1:Int),.string y.2.1,.string y.2.2.1,.string y.2.2.2])/\RdTo E W w' w.heap.size (wd:Int) (some (.rd pre body))):=λW hT hp=>Jhq E hE wd hw s hs y _ hh hT hp
 have HBO:Hid (∀W,Tch NoB w W->Jc W w.heap.size none (wd:Int) .nilIface (.rd pre body)->Calls prog 78 #[.pointer (some ⟨w.heap.size,0,none⟩),.slice none 0 0] W λe w'=>ToB E W w.heap.size none wd ((PS.rd pre body).body wd []) e w'):=λW hT hp=>JeP E hE wd hw pre body hl hT hp
 have HDN:Hid (∀W g,Tch NoB w W->Jf E W w.heap.size g (wd:Int) (((PS.rd pre body).body wd []).map (·.2))->Calls prog 88 #[.pointer (some ⟨w.heap.size,0,none⟩)] W λe w'=>Tch NoB W w'/\∃t u,e=.returned (.iface t u)/\Jj E 7 w' (.iface t u)):=λW g hT hp=>by
  cases hx:(PS.rd pre body).body wd [] with
  | none=>
   rw [hx] at hp
   exact Jbs E w.heap.size wd none (λp h=>by cases h) W (hE.tch hT noE) g hp
  | some z=>
   obtain ⟨ts,p⟩:=z
   obtain ⟨b1,r1,_,_,e1,_⟩:=Zt wd hw _ _ _ _ hx
   subst e1
   rw [hx] at hp
   cases r1 with
   | nil=>exact absurd hx (hb _ _)
   | cons a l=>exact Jbs E w.heap.size wd (some (.rd (pre++b1) (a :: l))) (λp h=>⟨_,_,(Option.some.inj h).symm⟩) W (hE.tch hT noE) g hp
 clear hE h hh hs hb hl
 go_enter func46,ntmps46
 go_wp2_with fail
 refine (Yx _ _ _).mono ?_
 rintro _ w1 ⟨rfl,hp1,ht1⟩
 have HT1:Hid (Tch NoB w w1):=ht1
 have HP1:Hid (Jc w1 w.heap.size none (wd:Int) .nilIface (.rd [] s.data.toList)):=hp1
 clear ht1 hp1 c0
 go_wp2_with fail
 refine (HHD.o w1 HT1.o HP1.o).mono ?_
 rintro _ w2 ⟨rfl,⟨hp2,_⟩,ht2⟩
 have hA:=Ta NoB w2 (.cells #[.int .u64 (y.1:Int),.string y.2.1,.string y.2.2.1,.string y.2.2.2] 167)
 have HT2:Hid (Tch NoB w _):=(HT1.o.trans ht2 (λj hj=>.inr (Nat.le_of_eq hj.symm))).go hA
 have HP2:Hid (Jc _ w.heap.size none (wd:Int) .nilIface (.rd pre body)):=hp2.tch hA (λh=>h) (λ_ _ h=>h)
 clear hp2 ht2 HHD HP1 HT1 hA
 go_wp2_with fail
 refine (Jbx w.heap.size none (wd:Int) _ pre body _ HP2.o).mono ?_
 rintro _ w3 ⟨rfl,ht3⟩
 have HT3:Hid (Tch NoB w w3):=HT2.o.go ht3
 have HP3:Hid (Jc w3 w.heap.size none (wd:Int) .nilIface (.rd pre body)):=HP2.o.tch ht3 (λh=>h) (λ_ _ h=>h)
 clear ht3 HT2 HP2
 go_wp2_with fail
 refine (HBO.o w3 HT3.o HP3.o).mono ?_
 rintro _ w4 ⟨⟨z1,z2,z3⟩,g4,rfl,hp4,_,ht4,_⟩
 have HT4:Hid (Tch NoB w w4):=Xp (b:=w.heap.size) (Ql _) HT3.o ht4
 have HP4:Hid (Jf E w4 w.heap.size g4 (wd:Int) (((PS.rd pre body).body wd []).map (·.2))):=hp4
 clear ht4 hp4 HT3 HP3
 go_wp2_with fail
 refine (HDN.o w4 g4 HT4.o HP4.o).mono ?_
 rintro _ w5 ⟨ht5,t,u,rfl,he5⟩
 have HT5:Hid (Tch NoB w w5):=HT4.o.go ht5
 have HE5:Hid (Jj E 7 w5 (.iface t u)):=he5
 clear ht5 HT4 HP4 he5 HDN HBO
 go_wp2_with fail
 refine (XE _ _ _ _).mono ?_
 rintro _ _ ⟨rfl,rfl⟩
 go_wp2
 go_ret
 exact ⟨HT5.o.go (Ta _ _ _),_,_,rfl,.wrap _ _ _ (Qf _ _) (HE5.o.next (Ta _ _ _))⟩
