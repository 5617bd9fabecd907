import Derived.Test.YtighkdnooglfjaaGreatDoorBxRot
namespace Go.Proofs.YtighkdnooglfjaaGreatDoor

theorem Jbo (k:IntKind) (j:Nat) (hj:j<=k.bits) (hk:∀n:Int,0<=n->n<2 ^ j->k.wrap n=n) (a b:Nat) (ha:a<2 ^ j) (hb:b<2 ^ j):bits .xor k a b=((a ^^^ b:Nat):Int):=by
 have hp:2 ^ j<=2 ^ k.bits:=Nat.pow_le_pow_right (by decide) hj
 have ha':a % 2 ^ k.bits=a:=Nat.mod_eq_of_lt (Nat.lt_of_lt_of_le ha hp)
 have hb':b % 2 ^ k.bits=b:=Nat.mod_eq_of_lt (Nat.lt_of_lt_of_le hb hp)
 simp only [bits,BitVec.ofInt_natCast,BitVec.toNat_xor,BitVec.toNat_ofNat,ha',hb']
 refine hk _ (Int.natCast_nonneg _) ?_
 have:=Nat.xor_lt_two_pow ha hb
 exact_mod_cast this
def U32 (x:Int):Prop:=0<=x/\x<4294967296
theorem w63 (n:Int) (h₀:0<=n) (h₁:n<2 ^ 63):IntKind.i64.wrap n=n:=by rw [IntKind.wrap_i64];omega
theorem w32 (n:Int) (h₀:0<=n) (h₁:n<2 ^ 32):IntKind.u32.wrap n=n:=by rw [IntKind.wrap_u32];omega
theorem U32.nat {x:Int} (h:U32 x):∃a:Nat,x=(a:Int)/\a<2 ^ 32:=⟨x.toNat,by have:=h.1;omega,by have:=h.1;have:=h.2;omega⟩
theorem lt63 {a:Nat} (h:a<2 ^ 32):a<2 ^ 63:=Nat.lt_trans h (by decide)
theorem JaO {x y:Int} (hx:U32 x) (hy:U32 y):bits .and .i64 x y=bits .and .u32 x y:=by
 obtain ⟨a,rfl,ha⟩:=hx.nat
 obtain ⟨b,rfl,hb⟩:=hy.nat
 rw [(bits_nat .i64 63 (by decide) w63 a b (lt63 ha) (lt63 hb)).1,(bits_nat .u32 32 (by decide) w32 a b ha hb).1]
theorem Yk {x y:Int} (hx:U32 x) (hy:U32 y):bits .xor .i64 x y=bits .xor .u32 x y:=by
 obtain ⟨a,rfl,ha⟩:=hx.nat
 obtain ⟨b,rfl,hb⟩:=hy.nat
 rw [Jbo .i64 63 (by decide) w63 a b (lt63 ha) (lt63 hb),Jbo .u32 32 (by decide) w32 a b ha hb]
theorem Jj8 (n:Int):U32 (IntKind.u32.wrap n):=by rw [IntKind.wrap_u32];unfold U32;omega
theorem Xa (op:BinOp) (x y:Int):U32 (bits op .u32 x y):=by
 unfold bits
 split <;> exact Jj8 _
theorem Jcc (x:Int):U32 (x % 4294967296):=by unfold U32;omega
theorem Zd (n:Nat) (x:Int):U32 (rr n x):=Xa _ _ _
theorem Jg9 {x:Int} (h:U32 x) (n:Nat):U32 (x / 2 ^ n):=by
 obtain ⟨a,rfl,ha⟩:=h.nat
 have e:(a:Int) / 2 ^ n=((a / 2 ^ n:Nat):Int):=by simp
 rw [e]
 have:=Nat.div_le_self a (2 ^ n)
 exact ⟨Int.natCast_nonneg _,by omega⟩
theorem Jie {x:Int} (h:U32 x) (n:Nat) (h1:1<=n) (h2:n<=31):bits .or .i64 (x / 2 ^ n) (x * 2 ^ (32 - n)) % 4294967296=rr n x/\0<=bits .or .i64 (x / 2 ^ n) (x * 2 ^ (32 - n))/\0<=x * 2 ^ (32 - n)/\x * 2 ^ (32 - n)<9223372036854775808:=by
 obtain ⟨a,rfl,ha⟩:=h.nat
 have e1:(a:Int) / 2 ^ n=((a / 2 ^ n:Nat):Int):=by simp
 have e2:(a:Int) * 2 ^ (32 - n)=((a * 2 ^ (32 - n):Nat):Int):=by simp
 have hq:a / 2 ^ n<2 ^ 32:=Nat.lt_of_le_of_lt (Nat.div_le_self _ _) ha
 have hp:2 ^ (32 - n)<=2 ^ 31:=Nat.pow_le_pow_right (by decide) (by omega)
 have hm:a * 2 ^ (32 - n)<2 ^ 63:=by
  have h3:a * 2 ^ (32 - n)<=a * 2 ^ 31:=Nat.mul_le_mul_left _ hp
  have h4:a * 2 ^ 31<2 ^ 32 * 2 ^ 31:=(Nat.mul_lt_mul_right (by decide)).2 ha
  have h5:(2:Nat) ^ 32 * 2 ^ 31=2 ^ 63:=by decide
  omega
 unfold rr
 rw [e1,e2,(bits_nat .i64 63 (by decide) w63 _ _ (lt63 hq) hm).2]
 have e3:((a * 2 ^ (32 - n):Nat):Int) % 4294967296=((a * 2 ^ (32 - n) % 2 ^ 32:Nat):Int):=by simp
 rw [e3,(bits_nat .u32 32 (by decide) w32 _ _ (Nat.mod_lt _ (by decide)) hq).2]
 refine ⟨?_,Int.natCast_nonneg _,Int.natCast_nonneg _,by omega⟩
 have e4:(((a / 2 ^ n ||| a * 2 ^ (32 - n):Nat)):Int) % 4294967296=(((a / 2 ^ n ||| a * 2 ^ (32 - n)) % 2 ^ 32:Nat):Int):=by simp
 rw [e4,Nat.or_mod_two_pow,Nat.mod_eq_of_lt hq,Nat.or_comm]
theorem JkV {x:Int} (h:U32 x):bits .xor .u32 IntKind.u32.max x=4294967295 - x:=by
 obtain ⟨a,rfl,ha⟩:=h.nat
 have e:IntKind.u32.max=((4294967295:Nat):Int):=by decide
 rw [e,Jbo .u32 32 (by decide) w32 _ _ (by decide) ha]
 have e2:4294967295 ^^^ a=4294967295 - a:=by
  have:=BitVec.toNat_not (x:=BitVec.ofNat 32 a)
  rw [<-BitVec.allOnes_xor,BitVec.toNat_xor,BitVec.toNat_allOnes,BitVec.toNat_ofNat,Nat.mod_eq_of_lt ha] at this
  simpa using this
 rw [e2]
 omega
theorem Jkd (b0 b1 b2 b3:UInt8):word b0 b1 b2 b3=(b0.toNat:Int) * 16777216+(b1.toNat:Int) * 65536+(b2.toNat:Int) * 256+(b3.toNat:Int):=by
 have h0:=UInt8.toNat_lt b0
 have h1:=UInt8.toNat_lt b1
 have h2:=UInt8.toNat_lt b2
 have h3:=UInt8.toNat_lt b3
 unfold word
 generalize b0.toNat=a0 at *
 generalize b1.toNat=a1 at *
 generalize b2.toNat=a2 at *
 generalize b3.toNat=a3 at *
 have m0:(a0:Int) % 4294967296 * 16777216 % 4294967296=(a0:Int) * 16777216:=by omega
 have m1:(a1:Int) % 4294967296 * 65536 % 4294967296=(a1:Int) * 65536:=by omega
 have m2:(a2:Int) % 4294967296 * 256 % 4294967296=(a2:Int) * 256:=by omega
 have m3:(a3:Int) % 4294967296=(a3:Int):=by omega
 rw [m0,m1,m2,m3]
 rw [bits_join .u32 32 (by decide) w32 24 ((a0:Int) * 16777216) ((a1:Int) * 65536) (by omega) (by omega) (by omega) (by omega) (by omega) (by omega)]
 rw [bits_join .u32 32 (by decide) w32 16 ((a0:Int) * 16777216+(a1:Int) * 65536) ((a2:Int) * 256) (by omega) (by omega) (by omega) (by omega) (by omega) (by omega)]
 rw [bits_join .u32 32 (by decide) w32 8 ((a0:Int) * 16777216+(a1:Int) * 65536+(a2:Int) * 256) (a3:Int) (by omega) (by omega) (by omega) (by omega) (by omega) (by omega)]
theorem JfL (b:List UInt8):∀k,∀x∈Wl b k,U32 x
 | 0,x,h=>by cases h
 | k+1,x,h=>by
  unfold Wl stW at h
  rcases List.mem_append.1 h with h | h
  ·exact JfL b k x h
  ·rw [List.mem_singleton] at h
   rw [h]
   unfold nxW
   split
   ·exact Xa _ _ _
   ·exact Jcc _
