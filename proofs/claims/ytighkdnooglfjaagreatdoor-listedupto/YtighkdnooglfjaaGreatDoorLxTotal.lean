import Derived.Test.YtighkdnooglfjaaGreatDoorLxIds2
namespace Go.Proofs.YtighkdnooglfjaaGreatDoor
open Tryz
set_option maxRecDepth 100000
set_option maxHeartbeats 1000000
open Go.RowKit

theorem Jeg(x y:Nat)(w:World):(callFunc 340 #[.int .u64 (x:Int),.int .u64 (y:Int),.int .u64 0]).run prog w =
  .ok (.value (.tuple #[.int .u64 (((x+y) % 18446744073709551616:Nat):Int),.int .u64 (((x+y)/18446744073709551616:Nat):Int)])) w:=by
 rw[run_callFunc_extern func340 (by kernel_rfl) (by kernel_rfl) (by kernel_rfl) (e:=add64Entry) (by kernel_rfl),run_add64 x y 0 (by omega) (by omega) (by omega) (by omega)];simp only[Result.andThen]
 congr 5<;>omega
theorem JhW(l:List (Nat×Nat))(k:Nat)(h:k<l.length):JO l (k+1)=JO l k+l[k].1:=by
 unfold JO;rw[QQ h];simp only[List.map_append,List.sum_append,List.map_cons,List.map_nil,List.sum_cons,List.sum_nil];omega
theorem JlQ(l:List (Nat×Nat))(k:Nat):JO l k<=JO l l.length:=by
 unfold JO;rw[List.take_length]
 conv=>rhs;rw[<-List.take_append_drop k l]
 simp only[List.map_append,List.sum_append];omega
theorem JfK(x y:Nat)(h:x+y<18446744073709551616)(w:World):(callFunc 340 #[.int .u64 (x:Int),.int .u64 (y:Int),.int .u64 0]).run prog w =
  .ok (.value (.tuple #[.int .u64 ((x+y:Nat):Int),.int .u64 0])) w:=by
 rw[Jeg,Nat.mod_eq_of_lt h,Nat.div_eq_of_lt h];rfl
theorem JiL(x y:Nat)(hx:x<18446744073709551616)(hy:y<18446744073709551616)(h:18446744073709551616<=x+y):∃z:Int,∀w:World,(callFunc 340 #[.int .u64 (x:Int),.int .u64 (y:Int),.int .u64 0]).run prog w =
  .ok (.value (.tuple #[.int .u64 z,.int .u64 1])) w:=by
 refine⟨(((x+y) % 18446744073709551616:Nat):Int),λw=>?_⟩;rw[Jeg,show (x+y)/18446744073709551616=1 by omega];rfl
theorem Jj5(E:Nat->Addr)(gi oi c:Nat)(l:List (Nat×Nat))(hc:l.length<1000000)(hsm:∀x∈l,x.1<18446744073709551616)(w:World)(hE:Env E w)(hgi:gi<w.heap.size)(h1:∀i (h:i<l.length),w.cell? ⟨gi,oi+i*2,none⟩=some (.int .u64 ((l[i].1:Nat):Int))/\w.cell? ⟨gi,oi+i*2+1,none⟩=some (.int .u8 ((l[i].2:Nat):Int))):
  Calls prog 285 #[.slice (some ⟨gi,oi,none⟩) l.length c] w λe w'=>Tch NoB w w'/\((JO l l.length<18446744073709551616/\e=.returned (.tuple #[.int .u64 ((JO l l.length:Nat):Int),.nilIface]))\/(18446744073709551616<=JO l l.length/\e=.returned (.tuple #[.int .u64 0,eV E 3]))):=by
 have HSM:Hid _:=hsm;have HE:Hid (Env E w):=hE;have H1:Hid _:=h1;have HQ:Hid (JO l l.length<18446744073709551616\/18446744073709551616<=JO l l.length):=Nat.lt_or_ge _ _;clear hsm hE h1;go_enter func285,ntmps285;go_wp2;go_loopw [4,10] (λs i wr=>∃k:Nat,k<=l.length/\s=.int .u64 ((JO l k:Nat):Int)/\i=.int .i64 k/\Hid (JO l k<18446744073709551616)/\Hid (Tch NoB w wr)) (λ_ i _=>l.length-(intOf i).toNat)
 case atStart=>exact⟨0,by omega,rfl,rfl,(by decide:(0:Nat)<18446744073709551616),Te _ w⟩
 case round=>
  obtain⟨k,hk,rfl,rfl,hS,hT⟩:=hrel
  by_cases hlt:k<l.length
  ·obtain⟨f0,f1⟩:=H1.o k hlt;have c0:=(hT.out.cell (p:=⟨gi,oi+k*2,none⟩) hgi (λh=>h)).trans f0;have c1:=(hT.out.cell (p:=⟨gi,oi+k*2+1,none⟩) hgi (λh=>h)).trans f1;have hlti:(k:Int)<(l.length:Int):=(by omega);have hy:Hid (l[k].1<18446744073709551616):=HSM.o _ (Qx hlt);have HN:Hid (JO l (k+1)=JO l k+l[k].1):=JhW l k hlt;have HFK:Hid (JO l k+l[k].1<18446744073709551616\/18446744073709551616<=JO l k+l[k].1):=Nat.lt_or_ge _ _;clear f0 f1;generalize l[k].1=y at *;generalize (l[k].2)=z at *
   rcases HFK.o with hs|hs
   ·have ha:=JfK (JO l k) y hs;have HSL:Hid _:=hs;clear hs HFK;generalize JO l k=S at *;go_wp2;go_roundw
    case rel=>exact⟨k+1,by omega,by rw[HN.o,Int.natCast_add],by go_num,by rw[HN.o];exact HSL,hT.out.trans (Ta NoB _ _) noE⟩
    case measure=>simp[intOf];omega
   ·obtain⟨zz,ha⟩:=JiL (JO l k) y hS.out hy.out hs;have HSL:Hid (18446744073709551616<=JO l (k+1)):=(by rw[HN.o];exact hs:18446744073709551616<=JO l (k+1))
    have hsum:=(HE.o.tch (hT.out.trans (Ta NoB _ (.cells #[.int .u64 (y:Int),.int .u8 (z:Int)] 80)) noE) noE).sum;clear hs HFK;generalize JO l k=S at *;have TL:Hid (Tch NoB w _):=hT.out.trans (Ta NoB wr (.cells #[.int .u64 (y:Int),.int .u8 (z:Int)] 80)) noE;go_wp2;go_region
    all_goals go_wp2
    all_goals go_ret2
    all_goals exact⟨TL.out.trans (Td NoB _ 1) noE,.inr ⟨Qm HSL.o (JlQ l (k+1)),rfl⟩⟩
  ·have HK:Hid (k=l.length):=(by omega:k=l.length)
   have hge:¬(k:Int)<(l.length:Int):=(by omega);generalize hSS:JO l k=S at *;have HSS:Hid _:=hSS;clear hSS;go_wp2;go_ret2;have e:JO l l.length=S:=(by rw[<-HK.o];exact HSS.o);exact⟨hT.out,.inl ⟨by rw[e];exact hS.out,by rw[e];rfl⟩⟩
theorem Jj4(w:World):
  Calls prog 285 #[.slice none 0 0] w λe w'=>e=.returned (.tuple #[.int .u64 0,.nilIface])/\w=w':=by
 go_enter func285,ntmps285;go_wp2;go_loopw [4,10] (λs i wr=>s=.int .u64 0/\i=.int .i64 0/\wr=w) (λ_ _ _=>0)
 case atStart=>exact⟨rfl,rfl,rfl⟩
 case round=>obtain⟨rfl,rfl,rfl⟩:=hrel;go_wp2;go_ret2;exact⟨rfl,rfl⟩
theorem JeM(E:Nat->Addr)(B:Nat)(v:Value)(l:List (Nat×Nat))(hc:l.length<1000000)(hsm:∀x∈l,x.1<18446744073709551616)(w:World)(hE:Env E w)(h:Jq B w v l):
  Calls prog 285 #[v] w λe w'=>Tch NoB w w'/\((JO l l.length<18446744073709551616/\e=.returned (.tuple #[.int .u64 ((JO l l.length:Nat):Int),.nilIface]))\/(18446744073709551616<=JO l l.length/\e=.returned (.tuple #[.int .u64 0,eV E 3]))):=by
 rcases h with⟨rfl,rfl⟩|⟨gi,oi,c,rfl,_,h2,h3⟩
 ·refine(Jj4 w).mono ?_;rintro _ _⟨rfl,rfl⟩;exact⟨Te _ _,.inl ⟨by decide,rfl⟩⟩
 ·exact Jj5 E gi oi c l hc hsm w hE h2 h3

theorem JdT(E:Nat->Addr)(B:Nat)(v1 v2:Value)(l1 l2:List (Nat×Nat))(hc1:l1.length<1000000)(hc2:l2.length<1000000)(hs1:∀x∈l1,x.1<18446744073709551616)(hs2:∀x∈l2,x.1<18446744073709551616)(w:World)(hE:Env E w)(h1:Jq B w v1 l1)(h2:Jq B w v2 l2):
  Calls Tryz.prog 208 #[v1,v2] w λe w'=>Tch NoB w w'/\((¬XC l1 l2/\e=.returned .nilIface)\/(XC l1 l2/\∃v,e=.returned v/\Jp E 3 w' v)):=by
 obtain⟨ia1,ic1,hv1⟩:=h1.shape;obtain⟨ia2,ic2,hv2⟩:=h2.shape;have HT1:Hid (Calls _ _ _ _ _):=JeM E B v1 l1 hc1 hs1 w hE h1;have HT2:Hid (∀W,Tch NoB w W->Calls _ _ _ _ _):=λW hW=>JeM E B v2 l2 hc2 hs2 W (hE.tch hW noE) (h2.tch hW noE);have HE:Hid (Env E w):=hE;clear hE h1 h2 hs1 hs2;subst hv1 hv2;go_enter Tryz.func208,Tryz.ntmps208;go_wp2_with fail;refine HT1.o.mono ?_;rintro _ w1⟨ht1,⟨ha,rfl⟩|⟨ha,rfl⟩⟩
 ·have K1:Hid _:=ht1;have HA:Hid (_<_):=ha;clear ht1 ha HT1;generalize hS1:JO l1 l1.length=S1 at *;have HS1:Hid (_=S1):=hS1;clear hS1;go_wp2_with fail;refine(HT2.o w1 K1.out).mono ?_;rintro _ w2⟨ht2,⟨hb,rfl⟩|⟨hb,rfl⟩⟩
  ·have K2:Hid (Tch _ w w2):=K1.out.trans ht2 noE;have HB:Hid (_<_):=hb;clear ht2 hb HT2;generalize hS2:JO l2 l2.length=S2 at *;have HS2:Hid (_=S2):=hS2;clear hS2;have hsum:=(HE.o.tch K2.out noE).sum
   by_cases hlt:S1<S2
   ·have hlti:(S1:Int)<(S2:Int):=(by omega);go_wp2_with fail;refine(Xk _ _ _ _).mono ?_;rintro _ _⟨rfl,rfl⟩;go_wp2;go_ret;exact⟨K2.out.trans (Ta NoB _ _) noE,.inr ⟨.inr (.inr (by rw[HS1.o,HS2.o];exact hlt)),_,rfl,.wrap _ _ _ (Qf _ _) .base⟩⟩
   ·have hlti:¬(S1:Int)<(S2:Int):=(by omega);go_wp2;go_ret;have q1:=HA.o;have q2:=HB.o;exact⟨K2.out,.inl ⟨by unfold XC;rw[HS1.o,HS2.o];omega,rfl⟩⟩
  ·have K2:Hid (Tch _ w w2):=K1.out.trans ht2 noE;have HB:Hid (_<=_):=hb;clear ht2 hb HT2;go_wp2_with fail;refine(Xk _ _ _ _).mono ?_;rintro _ _⟨rfl,rfl⟩;go_wp2;go_ret;exact⟨K2.out.trans (Ta NoB _ _) noE,.inr ⟨.inr (.inl HB.o),_,rfl,.wrap _ _ _ (Qf _ _) .base⟩⟩
 ·have K1:Hid _:=ht1;have HA:Hid (_<=_):=ha;clear ht1 ha HT1 HT2;go_wp2_with fail;refine(Xk _ _ _ _).mono ?_;rintro _ _⟨rfl,rfl⟩;go_wp2;go_ret;exact⟨K1.out.trans (Ta NoB _ _) noE,.inr ⟨.inl HA.o,_,rfl,.wrap _ _ _ (Qf _ _) .base⟩⟩
