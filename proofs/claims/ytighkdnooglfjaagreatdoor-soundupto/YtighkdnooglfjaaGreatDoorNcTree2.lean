import Derived.Test.YtighkdnooglfjaaGreatDoorNcIds2
namespace Go.Proofs.YtighkdnooglfjaaGreatDoor
set_option maxRecDepth 100000
set_option maxHeartbeats 1000000
open Go.RowKit

theorem JlR (x:UInt8):lz8 x<=8:=by
 unfold lz8
 repeat (first | omega | split)
theorem Jky:∀(k:Nat) (a b:List UInt8),a.take k=b.take k->k<=a.length->a.length=b.length->fd a b=8 * k+fd (a.drop k) (b.drop k):=by
 intro k
 induction k with
 | zero=>intro a b _ _ _;simp
 | succ k ih=>
  intro a b h hl hab
  cases a with
  | nil=>simp at hl
  | cons x a=>cases b with
   | nil=>simp at hab
   | cons y b=>
    simp only [List.take_succ_cons,QH] at h
    obtain ⟨rfl,h⟩:=h
    simp only [fd,if_true,List.drop_succ_cons]
    rw [ih a b h (by simpa using hl) (by simpa using hab)]
    omega
theorem Jml (k:Nat) (a b:List UInt8) (ha:k<a.length) (hb:k<b.length) (h:a[k] ≠ b[k]):fd (a.drop k) (b.drop k)=lz8 (a[k] ^^^ b[k]):=by
 rw [List.drop_eq_getElem_cons ha,List.drop_eq_getElem_cons hb]
 simp only [fd,h,if_false]
theorem Jht (a b:List UInt8) (hl:a.length=b.length) (hne:a ≠ b) (h1:a.length<=1000000) (w:World):
  Calls Tryz.prog 271 #[.string ⟨a.toArray⟩,.string ⟨b.toArray⟩] w λe w'=>e=.returned (.int .i64 (fd a b:Int))/\∃n,w'=w.drewN n:=by
 have hsa:=Js a
 have hsb:=Js b
 have HA:Hid (∀k (h:k<(⟨a.toArray⟩:BA).size) (h':k<a.length),(⟨a.toArray⟩:BA)[k]'h=a[k]'h'):=λk h h'=>by show (⟨a.toArray⟩:BA).data[k]=_;simp
 have HB:Hid (∀k (h:k<(⟨b.toArray⟩:BA).size) (h':k<b.length),(⟨b.toArray⟩:BA)[k]'h=b[k]'h'):=λk h h'=>by show (⟨b.toArray⟩:BA).data[k]=_;simp
 have HL:Hid _:=hl
 generalize (⟨a.toArray⟩:BA)=A at *
 generalize (⟨b.toArray⟩:BA)=B at *
 have HSA:Hid _:=hsa
 have HSB:Hid _:=hsb
 go_enter Tryz.func271,Tryz.ntmps271
 go_wp2
 go_loopw [5] (λi wr=>∃k:Nat,i=.int .i64 (k:Int)/\k<a.length/\Hid (a.take k=b.take k)/\∃n,wr=w.drewN n) (λi _=>a.length - (intOf i).toNat)
 case atStart=>
  refine ⟨0,rfl,?_,(by show _=_;simp),0,rfl⟩
  cases a with
  | nil=>have:=HL.o;simp at this;exact absurd (List.length_eq_zero_iff.1 this.symm).symm hne
  | cons x a=>simp
 case round=>
  obtain ⟨k,rfl,hk,htk,n,rfl⟩:=hrel
  have hka:k<A.size:=by rw [HSA.o];exact hk
  have hkb:k<B.size:=by rw [HSB.o,<-HL.o];exact hk
  have hkb':k<b.length:=by rw [<-HL.o];exact hk
  have eA:=HA k hka hk
  have eB:=HB k hkb hkb'
  by_cases heq:A[k]=B[k]
  ·have hb:((A[k].toNat:Int) == (B[k].toNat:Int))=true:=by rw [heq];simp
   have HEQ:Hid (a[k]=b[k]'hkb'):=by show _=_;rw [<-eA,<-eB,heq]
   clear heq eA eB
   go_wp2
   go_region
   go_wp2
   have htk1:a.take (k+1)=b.take (k+1):=by
    rw [QP hk,QP hkb',htk.out,HEQ.o]
   refine ⟨⟨k+1,by go_num,?_,htk1,n+1,rfl⟩,by simp [intOf];omega⟩
   by_cases hl:k+1<a.length
   ·exact hl
   ·exfalso
    rw [QQ (by omega),QQ (by have:=HL.o;omega)] at htk1
    exact hne htk1
  ·have hb:((A[k].toNat:Int) == (B[k].toNat:Int))=false:=by
    rw [beq_eq_false_iff_ne]
    intro e
    exact heq (UInt8.toNat_inj.1 (by omega))
   have HR:Hid (fd a b=8 * k+lz8 (A[k] ^^^ B[k])):=by
    show _=_
    rw [Jky k a b htk.out (by omega) HL.o,Jml k a b hk hkb' (by rw [<-eA,<-eB];exact heq),eA,eB]
   have hx:bits .xor .u8 (A[k].toNat:Int) (B[k].toNat:Int)=((A[k] ^^^ B[k]).toNat:Int):=by
    rw [u8_xor_nat _ _ (UInt8.toNat_lt _) (UInt8.toNat_lt _),UInt8.toNat_xor]
   have hlz:=JlT (A[k] ^^^ B[k])
   rw [<-hx] at hlz
   have hl8:=JlR (A[k] ^^^ B[k])
   have hw8:IntKind.i64.wrap (8 * (k:Int))=8 * (k:Int):=by simp [IntKind.wrap,IntKind.bits,IntKind.signed];omega
   have hws:IntKind.i64.wrap (8 * (k:Int)+(lz8 (A[k] ^^^ B[k]):Int))=8 * (k:Int)+(lz8 (A[k] ^^^ B[k]):Int):=by simp [IntKind.wrap,IntKind.bits,IntKind.signed];omega
   clear hx
   clear heq eA eB
   go_wp2
   go_region
   go_wp2
   go_region_with (go_at_call 334;refine (hlz _).mono ?_;rintro _ _ ⟨rfl,rfl⟩)
   all_goals go_wp2
   all_goals go_ret
   all_goals exact ⟨Jea (by rw [HR.o];go_num),n+2,rfl⟩
