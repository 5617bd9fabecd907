import Derived.Test.YtighkdnooglfjaaGreatDoorPcTxS
namespace Go.Proofs.YtighkdnooglfjaaGreatDoor
open Tryz
set_option maxRecDepth 100000
set_option maxHeartbeats 400000
open Go.RowKit

theorem JV (wd:Int) (w:World):
  Calls prog 77 #[.int .i64 wd] w λe w'=>e=.returned (.pointer (some ⟨w.heap.size,0,none⟩))/\Jc w' w.heap.size none wd .nilIface (.wr [])/\Tch NoB w w':=by
 go_enter func77,ntmps77
 go_wp2
 go_ret
 refine ⟨rfl,⟨.slice none 0 0,rfl,Bs.nil _ _,?_⟩,Ta _ _ _⟩
 exact Qf _ _
theorem Yx (wd:Int) (s:BA) (w:World):
  Calls prog 85 #[.int .i64 wd,.string s] w λe w'=>e=.returned (.pointer (some ⟨w.heap.size,0,none⟩))/\Jc w' w.heap.size none wd .nilIface (.rd [] s.data.toList)/\Tch NoB w w':=by
 go_enter func85,ntmps85
 go_wp2
 go_ret
 refine ⟨rfl,⟨rfl,?_⟩,Ta _ _ _⟩
 exact Qf _ _
theorem Jhy (b:Nat) (g:Option Nat) (wd:Int) (done:List UInt8) (w:World) (hp:Jc w b g wd .nilIface (.wr done)):
  Calls prog 79 #[.pointer (some ⟨b,0,none⟩)] w λe w'=>e=.returned (.tuple #[.string ⟨done.toArray⟩,.nilIface])/\∃n,w'=w.drewN n:=by
 have ce:=hp.errCell
 obtain ⟨v,_,hbs,hrow⟩:=hp
 have c3:w.cell? ⟨b,3,none⟩=some v:=Ja hrow
 have hst:=λn=>Xv (P:=prog) (w:=w.drewN n) (l:=done) hbs 52 9 5 underlying52 underlying5 underlying9
 have hst0:=hst 0
 rw [World.drewN_zero] at hst0
 have hst1:=hst 1
 rw [<-World.drew_is_drewN] at hst1
 clear hst hrow hbs
 generalize (⟨done.toArray⟩:BA)=r at *
 go_enter func79,ntmps79
 go_wp2
 go_ret2
 exact ⟨rfl,0,rfl⟩
theorem Jf5 (b:Nat) (g:Option Nat) (wd:Int) (t:TypeId) (u:Value) (p:PS) (w:World) (hp:Jc w b g wd (.iface t u) p):
  Calls prog 79 #[.pointer (some ⟨b,0,none⟩)] w λe w'=>e=.returned (.tuple #[.string ⟨#[]⟩,.iface t u])/\∃n,w'=w.drewN n:=by
 have ce:=hp.errCell
 clear hp
 go_enter func79,ntmps79
 go_wp2
 go_region
 all_goals go_wp2
 all_goals go_ret2
 all_goals exact ⟨rfl,1,rfl⟩
theorem Jbx (b:Nat) (g:Option Nat) (wd:Int) (e:Value) (pre rest:List UInt8) (w:World) (hp:Jc w b g wd e (.rd pre rest)):
  Calls prog 87 #[.pointer (some ⟨b,0,none⟩)] w λe w'=>e=.returned (.string ⟨rest.toArray⟩)/\Tch NoB w w':=by
 obtain ⟨-, -, -,c3,c4⟩:=rows hp.2
 have hsz:pre.length<=(⟨(pre++rest).toArray⟩:BA).size:=by rw [JB,Qe];omega
 have hx:(⟨(pre++rest).toArray⟩:BA).extract pre.length (⟨(pre++rest).toArray⟩:BA).size=⟨rest.toArray⟩:=by rw [Jhp,List.drop_left'];rfl
 generalize (⟨rest.toArray⟩:BA)=rt at *
 generalize (⟨(pre++rest).toArray⟩:BA)=r at *
 generalize pre.length=n at *
 go_enter func87,ntmps87
 go_wp2
 go_region
 all_goals go_wp2
 all_goals go_ret
 all_goals exact ⟨rfl,Td _ w 1⟩
theorem Jap (E:Nat->Addr) (b:Nat) (g:Option Nat) (wd:Int) (st:Option PS) (hw:∀p,st=some p->∃d,p=.wr d) (w:World) (hp:Jf E w b g wd st):
  Calls prog 79 #[.pointer (some ⟨b,0,none⟩)] w λe w'=>Tch NoB w w'/\match st with
   | some (⟨.inr d⟩)=>e=.returned (.tuple #[.string ⟨d.toArray⟩,.nilIface])
   | _=>∃t u,e=.returned (.tuple #[.string ⟨#[]⟩,.iface t u])/\Jj E 7 w' (.iface t u):=by
 cases st with
 | none=>
  obtain ⟨p,t,u,h1,h2⟩:=hp
  refine (Jf5 b g wd t u p w h1).mono ?_
  rintro e w' ⟨rfl,n,rfl⟩
  exact ⟨Td _ w n,t,u,rfl,h2.tch (Td NoB w n) (λ_ _ _ _ h=>h)⟩
 | some p=>
  obtain ⟨d,rfl⟩:=hw p rfl
  refine (Jhy b g wd d w hp).mono ?_
  rintro e w' ⟨rfl,n,rfl⟩
  exact ⟨Td _ w n,rfl⟩

theorem Jcj (b:Nat) (g:Option Nat) (wd:Int) (e x:Value) (pre rest:List UInt8) (w:World) (hp:Jc w b g wd e (.rd pre rest)):
  Calls prog 140 #[.pointer (some ⟨b,0,none⟩),x] w λe w'=>e=.returned (.bool (!rest.isEmpty))/\Tch NoB w w':=by
 obtain ⟨-, -, -,c3,c4⟩:=rows hp.2
 have hsz:(⟨(pre++rest).toArray⟩:BA).size=pre.length+rest.length:=by rw [JB,Qe]
 have hb:decide (pre.length<(⟨(pre++rest).toArray⟩:BA).size)= !rest.isEmpty:=by
  rw [hsz]
  cases rest with
  | nil=>simp
  | cons a l=>simp
 have HB:Hid _:=hb
 clear hp hb hsz
 generalize (⟨(pre++rest).toArray⟩:BA)=r at *
 generalize pre.length=n at *
 go_enter func140,ntmps140
 go_wp2
 go_region
 all_goals go_wp2
 all_goals go_ret
 all_goals exact ⟨by rw [<-HB.o];rfl,Td _ w 1⟩
theorem Jhb (b:Nat) (wd:Int) (pre:List UInt8) (w:World) (hp:Jc w b none wd .nilIface (.rd pre [])):
  Calls prog 88 #[.pointer (some ⟨b,0,none⟩)] w λe w'=>e=.returned .nilIface/\Tch NoB w w':=by
 have ce:=hp.errCell
 have HM:Hid (∀x W,Tch NoB w W->_):=λx W hT=>Jcj b none wd .nilIface x pre [] W (hp.tch hT (λh=>h) (λ_ _ h=>h))
 have HE:Hid (∀W,Tch NoB w W->_):=λW hT=>(hp.tch hT (λh=>h) (λ_ _ h=>h)).errCell
 go_enter func88,ntmps88
 go_wp2_with fail
 refine (HM _ w (Te _ _)).mono ?_
 rintro _ w1 ⟨rfl,(HT:Hid _)⟩
 have c1:=HE w1 HT
 clear HM HE
 go_wp2
 go_ret
 exact ⟨rfl,HT⟩
theorem Jci (b:Nat) (g:Option Nat) (wd:Int) (t:TypeId) (u:Value) (p:PS) (w:World) (hp:Jc w b g wd (.iface t u) p):
  Calls prog 88 #[.pointer (some ⟨b,0,none⟩)] w λe w'=>e=.returned (.iface t u)/\Tch NoB w w':=by
 have ce:=hp.errCell
 clear hp
 go_enter func88,ntmps88
 go_wp2
 go_ret
 first
  | exact ⟨rfl,Te _ _⟩
  | exact ⟨rfl,Td _ w 1⟩
theorem JcS (E:Nat->Addr) (b:Nat) (wd:Int) (pre rest:List UInt8) (hr:rest ≠ []) (w:World) (hE:Env E w) (hp:Jc w b none wd .nilIface (.rd pre rest)):
  Calls prog 88 #[.pointer (some ⟨b,0,none⟩)] w λe w'=>∃t u,e=.returned (.iface t u)/\Jj E 7 w' (.iface t u)/\Tch NoB w w':=by
 have ce:=hp.errCell
 have hne:(!rest.isEmpty)=true:=by cases rest with | nil=>exact absurd rfl hr | cons a l=>rfl
 have HM:Hid (∀x,Calls prog 140 #[.pointer (some ⟨b,0,none⟩),x] w λe w'=>e=.returned (.bool true)/\Tch NoB w w'):=λx=>by
  have:=Jcj b none wd .nilIface x pre rest w hp
  rw [hne] at this
  exact this
 have HF:Hid (∀W,Tch NoB w W->_):=λW hT=>(hE.tch hT noE).form
 go_enter func88,ntmps88
 go_wp2_with fail
 refine (HM _).mono ?_
 rintro _ w1 ⟨rfl,(HT:Hid _)⟩
 have c1:=HF w1 HT
 clear HM HF
 go_wp2_with fail
 refine (XE _ _ _ _).mono ?_
 rintro _ _ ⟨rfl,rfl⟩
 go_wp2
 go_ret
 exact ⟨_,_,rfl,.wrap _ _ _ (Qf _ _) .base,HT.trans (Ta NoB _ _) noE⟩
theorem Jbs (E:Nat->Addr) (b:Nat) (wd:Int) (st:Option PS) (hr:∀p,st=some p->∃q r,p=.rd q r) (w:World) (hE:Env E w) (g:Option Nat) (hp:Jf E w b g wd st):
  Calls prog 88 #[.pointer (some ⟨b,0,none⟩)] w λe w'=>Tch NoB w w'/\match st with
   | some (⟨.inl (_,[])⟩)=>e=.returned .nilIface
   | _=>∃t u,e=.returned (.iface t u)/\Jj E 7 w' (.iface t u):=by
 cases st with
 | none=>
  obtain ⟨p,t,u,h1,h2⟩:=hp
  refine (Jci b g wd t u p w h1).mono ?_
  rintro e w' ⟨rfl,h⟩
  exact ⟨h,t,u,rfl,h2.tch h (λ_ _ _ _ h=>h)⟩
 | some p=>
  obtain ⟨q,r,rfl⟩:=hr p rfl
  have hg:g=none:=hp.1
  subst hg
  cases r with
  | nil=>exact (Jhb b wd q w hp).mono λe w' ⟨h1,h2⟩=>⟨h2,h1⟩
  | cons a l=>exact (JcS E b wd q (a :: l) (by simp) w hE hp).mono λe w' ⟨t,u,h1,h2,h3⟩=>⟨h3,t,u,h1,h2⟩
