import Derived.Test.YtighkdnooglfjaaGreatDoorBxKText
import Derived.Deep.DeepCutAuto
namespace Go.Proofs.YtighkdnooglfjaaGreatDoor
open Tryz
set_option maxRecDepth 100000
set_option maxHeartbeats 2000000
open Go.RowKit

theorem JdE (n:Int) (w:World):Calls prog 66 #[.int .i64 n] w λe w'=>e=.returned (.int .i64 n)/\w'=w:=by
 go_enter func66,ntmps66
 go_wp2
 go_ret
 exact ⟨rfl,rfl⟩
theorem Ji1 (c:Int) (n:Nat) (h1: -9223372036854775808<=c) (h2:c<9223372036854775808) (hn:0<n) (hn2:n<9223372036854775808):
  ∃r:Nat,r<n/\∀w,Calls prog 69 #[.int .i64 c,.int .i64 (n:Int)] w λe w'=>e=.returned (.int .i64 (r:Int))/\w'=w:=by
 obtain ⟨d,hd,hd1,hd2,hdc⟩:∃d:Int,(0<=d)/\d<9223372036854775808/\(c<0->wrap64 (-(wrap64 (c+1)))=d)/\(¬c<0->c=d):=by
  by_cases h:c<0
  ·refine ⟨-(c+1),by omega,by omega,λ_=>?_,λh'=>absurd h h'⟩
   have e1:wrap64 (c+1)=c+1:=by simp only [wrap64];omega
   rw [e1]
   simp only [wrap64];omega
  ·exact ⟨c,by omega,by omega,λh'=>absurd h' h,λ_=>rfl⟩
 obtain ⟨m,rfl⟩:=Int.eq_ofNat_of_zero_le hd
 have hne:¬(n:Int)=0:=by omega
 refine ⟨m % n,Nat.mod_lt _ hn,λw=>?_⟩
 by_cases hc:c<0
 ·have HD2:Hid (wrap64 (-(wrap64 (c+1)))=(m:Int)):=hd2 hc
  clear h1 h2 hd hd1 hd2 hdc
  go_enter func69,ntmps69
  go_wp2
  go_ret
  exact ⟨by show Ending.returned (Value.int .i64 ((wrap64 (-wrap64 (c+1))).tmod n))=_;rw [HD2.o];rfl,rfl⟩
 ·obtain rfl:=hdc hc
  clear h1 h2 hd hd1 hd2 hdc
  go_enter func69,ntmps69
  go_wp2
  go_ret
  exact ⟨rfl,rfl⟩
theorem JlT (s:BA) (hs:s.size<=1000000) (c more:Int) (h1: -9223372036854775808<=c) (h2:c<9223372036854775808):
  ∃q:BA,q.size<=s.size/\∀w,Calls prog 182 #[.string s,.int .i64 c,.int .i64 more] w λe w'=>e=.returned (.string q)/\Tch NoB w w':=by
 by_cases h0:s.size=0
 ·refine ⟨s,Ql _,λw=>?_⟩
  obtain rfl:s=⟨#[]⟩:=by
   obtain ⟨a⟩:=s
   have:a= #[]:=Array.eq_empty_of_size_eq_zero h0
   rw [this]
  clear h0 hs
  go_enter func182,ntmps182
  go_wp2
  go_ret
  exact ⟨rfl,Te _ _⟩
 ·have hse:s.toList.isEmpty=false:=by
   rw [List.isEmpty_eq_false_iff]
   intro e
   apply h0
   have:=congrArg List.length e
   rw [ByteArray.toList_eq,QA] at this
   exact this
  by_cases hm:more=0
  ·subst hm
   refine ⟨s,Ql _,λw=>?_⟩
   go_enter func182,ntmps182
   go_wp2
   go_ret
   exact ⟨rfl,Te _ _⟩
  ·obtain ⟨r,hr,hpk⟩:=Ji1 c s.size h1 h2 (by omega) (by omega)
   have HPK:Hid (∀w,Calls _ _ _ w _):=hpk
   obtain ⟨x,hx⟩:∃x:Nat,s[r].toNat=x:=⟨_,rfl⟩
   obtain ⟨b,hb,hbw⟩:∃b:Nat,b<256/\((x:Int)+more) % 256=(b:Int):=⟨(((x:Int)+more) % 256).toNat,by omega,by omega⟩
   have hsum:¬9223372036854775807<r+1:=by omega
   have e1:(⟨#[UInt8.ofNat b]⟩:BA).size=1:=rfl
   have hq:(s.extract 0 r++(⟨#[UInt8.ofNat b]⟩:BA)++s.extract (r+1) s.size).size<=s.size:=by
    rw [ByteArray.size_append,ByteArray.size_append,ByteArray.size_extract,ByteArray.size_extract,e1]
    omega
   refine ⟨_,hq,λw=>?_⟩
   have hby:=JaT b (w.alloc (.cells #[.int .u8 (b:Int)] 5)).drew w.heap.size hb (Ja (Qf _ _))
   have hr1:(r:Int)<(s.size:Int):=by omega
   have hrl:r<=s.size:=by omega
   have hrm:r+1<=s.size:=by omega
   have hrb:(r:Int)+1<=(s.size:Int):=by omega
   clear hpk hq
   go_enter func182,ntmps182
   go_wp2_with fail
   refine (HPK.o _).mono ?_
   rintro _ X ⟨rfl,hX⟩
   rw [hX]
   clear hX X HPK
   go_upto_region 4 with fail
   go_region
   all_goals
    go_wp2
    go_ret
    exact ⟨rfl,Tch.box w _⟩
