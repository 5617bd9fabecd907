import Derived.Test.YtighkdnooglfjaaGreatDoorNcKSh
namespace Go.Proofs.YtighkdnooglfjaaGreatDoor
open Go.Proofs.Tryz
set_option maxRecDepth 100000
set_option maxHeartbeats 1000000
open Go.RowKit

theorem JkC {w:World} (xb:Nat) (a b:Int) (p0:Option Addr) (pn p1:Nat) (R:World->World->Prop) (hP:∀W,Tch NoB w W->Calls prog 17 #[.pointer (some ⟨xb,0,none⟩),.slice p0 pn p1] W λe w'=>e=.returned (.bool true)/\R W w'):
  Calls prog 20 #[.pointer (some ⟨xb,0,none⟩),.agg #[.int .i64 1,.int .i64 a,.int .i64 b,.slice p0 pn p1]] w λe w'=>e=.returned (.bool true)/\∃W,Tch NoB w W/\R W w':=by
 have HP:Hid (∀W,Tch NoB w W->_):=hP
 clear hP
 go_enter func20,ntmps20
 go_wp2_with fail
 refine (HP.o _ (Ta _ _ _)).mono ?_
 rintro _ w1 ⟨rfl,hR⟩
 have HR:Hid (R _ w1):=hR
 clear hR HP
 go_wp2
 go_ret
 exact ⟨rfl,_,Ta _ _ _,HR.o⟩
theorem JkB {w:World} (xb:Nat) (kd a b:Int) (p0:Option Addr) (pn p1:Nat) (h1:¬kd=1) (h2:¬kd=2):
  Calls prog 20 #[.pointer (some ⟨xb,0,none⟩),.agg #[.int .i64 kd,.int .i64 a,.int .i64 b,.slice p0 pn p1]] w λe w'=>e=.returned (.bool true)/\Tch NoB w w':=by
 go_enter func20,ntmps20
 go_wp2
 go_ret
 exact ⟨rfl,Ta _ _ _⟩
theorem JS.coins {E:Nat->Addr} {wd base:Nat} {L:Led E wd base} {w:World} {xb lb:Nat} {F:Nat->Prop} {fl:Nat} {ch:Ch} {vst:Value} {sl:List Sl} {states:List (List Held)} (h:JS L w xb lb F fl ch vst sl states):∀l∈states,∀x∈l,Jk wd x.1:=λl hl x hx=>by
 obtain ⟨i,hi,rfl⟩:=List.getElem_of_mem hl
 have hc:i<ch.length:=by have:=h.len;omega
 exact ((h.book i ch[i] states[i] (Nat.zero_le _) (Qd hc) (Qd hi)).ok x hx).1
theorem JS.len2 {E:Nat->Addr} {wd base:Nat} {L:Led E wd base} {w:World} {xb lb:Nat} {F:Nat->Prop} {fl:Nat} {ch:Ch} {vst:Value} {sl:List Sl} {states:List (List Held)} (h:JS L w xb lb F fl ch vst sl states):∃va vc,vst=.slice va states.length vc/\w.cell? ⟨xb,2,none⟩=some (.slice va states.length vc)/\w.cell? ⟨xb,0,none⟩=some (.pointer (some ⟨lb,0,none⟩)):=by
 have hsl:=h.len.1
 obtain ⟨g,cap,hv,_⟩:=h.st.at (λe=>by have:=h.len;rw [e] at this;simp at this;omega)
 have hr:=h.row
 rw [hv,hsl] at hr
 exact ⟨_,_,by rw [hv,hsl],Ja hr,Ja hr⟩
theorem Jh9 {E:Nat->Addr} {wd base:Nat} (L:Led E wd base) (Q:LedQ L) (hw1:1<=wd) (hw:wd<=32) {w:World} {xb lb:Nat} {F:Nat->Prop} {ch:Ch} {vst:Value} {sl:List Sl} {states:List (List Held)} (hF:Xc E base w) (hS:JS L w xb lb F 0 ch vst sl states) (hl:states.length<=1000000000/\∀l∈states,l.length<1000000000):
  (∀V (c:Int),Tch NoB w V-> -9223372036854775808<=c->c<9223372036854775808->Calls prog 23 #[.pointer (some ⟨xb,0,none⟩),.int .i64 c] V λe w'=>Tch NoB V w'/\∃(s:BA) (N:Int),Jk wd (s,N)/\e=.returned (.agg #[.string s,.int .i64 N]))/\
  (∀V (n:Nat) (s:BA) (N:Int),Tch NoB w V->n<states.length->Jk wd (s,N)->Calls prog 21 #[.pointer (some ⟨xb,0,none⟩),.int .i64 (n:Int),.agg #[.string s,.int .i64 N]] V λe w'=>e=.returned (.bool true)/\Tch NoB V w')/\
  (∀V (h:Int) (s:BA) (N:Int),Tch NoB w V->¬(0<=h/\h<(states.length:Int))->Calls prog 24 #[.pointer (some ⟨lb,0,none⟩),.int .i64 h,.agg #[.string s,.int .i64 N]] V λe w'=>e=.returned (.tuple #[.string ⟨#[]⟩,.int .i64 7])/\Tch NoB V w'):=by
 refine ⟨λV c hT h1 h2=>?_,λV n s N hT hn hco=>?_,λV h s N hT hh=>?_⟩
 ·refine (Jjp L hw1 hw xb lb F 0 ch vst sl states c h1 h2 V (hF.tch hT (λ_ e=>e.elim)).env (hS.next hT) hS.coins hl.1 (λl h=>Nat.le_of_lt (hl.2 l h))).mono ?_
  rintro e w' ⟨ht,⟨s,N⟩,hc,he⟩
  exact ⟨ht,s,N,hc,he⟩
 ·exact JkD L Q hw1 hw xb lb F 0 ch vst sl states n hn (Nat.zero_le _) (s,N) hco V (hF.tch hT (λ_ e=>e.elim)) (hS.next hT) hl.1 hl.2
 ·refine Q.qout h (s,N) (L.keep hS.led hT (λ_ e=>e.elim)) (hF.tch hT (λ_ e=>e.elim)) ?_
  have hc:=hS.len
  rw [hc.2.1]
  exact hh
