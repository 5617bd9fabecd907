import Derived.Test.YtighkdnooglfjaaGreatDoorLxLiW
namespace Go.Proofs.YtighkdnooglfjaaGreatDoor
open Tryz
set_option maxRecDepth 100000
set_option maxHeartbeats 4000000
open Go.RowKit

variable {e:BA}{b:ByL}{s:List BA}{d:List UInt8->BA}{base:Nat}{st1 st2:Option Tr}{α:Type}{v:Value}{w w':World}
def kGet{α:Type}(o:List (BA×α))(k:BA):Option α:=(o.find? (λq=>decide (q.1=k))).map (·.2)
theorem Jda{b:List (BA×α)}(hd:(b.map (·.1)).Nodup){n:α}:kGet b e=some n↔(e,n)∈b:=by
 induction b with
 | nil=>simp[kGet]
 | cons q r ih=>
  obtain⟨q1,q2⟩:=q;rw[List.map_cons,List.nodup_cons]at hd;have ih:=ih hd.2;unfold kGet at ih ⊢;rw[List.find?_cons]
  by_cases h:q1=e
  ·subst h;simp only[decide_true,Option.map_some,Qh,List.mem_cons,Qw,true_and];refine⟨λh=>.inl h.symm,λh=>h.elim (λh=>h.symm) (λh=>absurd (List.mem_map_of_mem (f:=(·.1)) h) hd.1)⟩
  ·simp only[h,decide_false,ih,List.mem_cons,Qw];exact⟨λh=>.inr h,λk=>k.elim (λk=>absurd k.1.symm h) (λk=>k)⟩
theorem Jji{b:List (BA×α)} :kGet b e=none↔e ∉ b.map (·.1):=by
 simp only[kGet,Option.map_eq_none_iff,List.find?_eq_none,decide_eq_true_eq,QK,not_exists,not_and]
abbrev OuL:=List (BA×(Nat×Nat))
theorem JgE{o:OuL}{p:Nat}(h:MpAt w p (outE o))(hd:(o.map (·.1)).Nodup)(k:BA)(c:Bool):(Instr.lookup 268 (.map (some p)) (.string k) c).run prog w=.ok (if c then .tuple #[ouV ((kGet o k).getD (0,0)),.bool (kGet o k).isSome] else ouV ((kGet o k).getD (0,0))) w:=by
 cases hk:kGet o k with
 | none=>exact JaU (enc:=ouV) Jez h (Jji.1 hk) c
 | some a=>exact Jcg (enc:=ouV) Jez h hd ((Jda hd).1 hk) c
abbrev Chg:=BA×Bool×Bool×(Nat×Nat)×(Nat×Nat)
def Zz(o1 o2:OuL)(k:BA):Option Chg:=if (kGet o1 k).isSome=true/\(kGet o2 k).isSome=true/\(kGet o1 k).getD (0,0)=(kGet o2 k).getD (0,0) then none else some (k,(kGet o1 k).isSome,(kGet o2 k).isSome,(kGet o1 k).getD (0,0),(kGet o2 k).getD (0,0))
def chC(c:Chg):Array Value:= #[.string (c.1.extract 0 (c.1.size-1)),.int .i64 ((c.1.data.toList.getD (c.1.size-1) 0).toNat:Int),.bool c.2.1,.bool c.2.2.1,.int .u64 (c.2.2.2.1.1:Int),.int .u8 (c.2.2.2.1.2:Int),.int .u64 (c.2.2.2.2.1:Int),.int .u8 (c.2.2.2.2.2:Int)]
def ChgO(base:Nat)(w:World)(v:Value)(l:List Chg):Prop:=w.ownsRow base 119 8 v l.length (l.flatMap λc=>(chC c).toList)
theorem Jk0:(prog.info? 119).map (λi=>(i.zero,i.size,i.bytes))=some (some (.agg #[.string ⟨#[]⟩,.int .i64 0,.bool false,.bool false,.int .u64 0,.int .u8 0,.int .u64 0,.int .u8 0]),8,64):=by kernel_rfl
theorem JdA{l:List Chg}(h:ChgO base w v l)(k:Nat)(x:Chg)(hk:w.heap[k]? =some (.cells (chC x) 119))(hl:l.length<=1000000000)(ty:TypeId)(hb:base<=w.heap.size):
  ∃v' w',(Builtin.append_ #[114,114] ty #[v,.slice (some ⟨k,0,none⟩) 1 1]).run prog w=.ok v' w'/\ChgO base w' v' (l++[x])/\World.grownBy w w' v.ownBlock:=by
 obtain⟨i,hi,hp⟩:=Option.map_eq_some_iff.1 Jk0;simp only[Qw]at hp;obtain⟨hz,hsz,hby⟩:=hp;obtain⟨v',w',hr,h2,h3,_⟩:=run_append_own (P:=prog) w base 114 ty 119 i _ 8 64 underlying114 hi hz hsz hby rfl (by omega) v l.length _ h ⟨k,0,none⟩ 1 1 (chC x).toList rfl (λj u hu=>by
  rw[Addr.add_lit];show w.cell? ⟨k,0+j,none⟩=some u;rw[Nat.zero_add,Ja hk,<-Array.getElem?_toList];exact hu) (λu hu=>by
  simp only[chC,List.mem_cons,QD,or_false]at hu
  rcases hu with rfl|rfl|rfl|rfl|rfl|rfl|rfl|rfl<;>rfl) (by simp only[maxLen];omega) (by omega) hb
 refine⟨v',w',hr,?_,h3⟩;unfold ChgO;rw[Qe,List.flatMap_append];simpa using h2
theorem ChgO.own{l:List Chg}(h:ChgO base w v l):∀k,v.ownBlock=some k->base<=k:=by
 intro k hk;obtain⟨_,⟨h,_⟩|⟨g,_,cur,h3,h4,_⟩⟩:=h
 ·rw[h]at hk;cases hk
 ·rw[h3]at hk;simp only[Value.ownBlock,Qh]at hk;rw[<-hk];exact h4
theorem ChgO.next{l:List Chg}(h:ChgO base w v l)(k:Tch NoB w w'):ChgO base w' v l:=by
 obtain⟨h1,h2⟩:=h;refine⟨h1,h2.imp_right ?_⟩;rintro⟨g,cap,cur,h3,h4,h5,h6⟩;exact⟨g,cap,cur,h3,h4,(k.block _ (Jb h5) (λh=>h)).trans h5,h6⟩
theorem ChgO.shape{l:List Chg}(h:ChgO base w v l):∃a c,v=.slice a l.length c:=by
 obtain⟨_,⟨h,h0⟩|⟨g,cap,_,h,_⟩⟩:=h
 ·exact⟨none,0,by rw[h,h0]⟩
 ·exact⟨_,_,h⟩
structure CgI(o1 o2:OuL)(ks:List BA)(base:Nat)(w0:World)(k:Nat)(v:Value)(W:World):Prop where
 own:ChgO base W v ((ks.take k).filterMap (Zz o1 o2))
 tch:Tch (λj=>base<=j) w0 W
def JiJ(o1 o2:OuL)(w:World)(v:Value)(w':World):Prop:=∃s:List BA,(s.Nodup/\∀x,x∈s↔x∈o1.map (·.1)\/x∈o2.map (·.1))/\ChgO w.heap.size w' v ((Xj s).filterMap (Zz o1 o2))/\Tch NoB w w'
theorem JfZ(po1 po2:Nat)(o1 o2:OuL)(w:World)(h1:MpAt w po1 (outE o1))(h2:MpAt w po2 (outE o2))(d1:(o1.map (·.1)).Nodup)(d2:(o2.map (·.1)).Nodup)(hk1:∀q∈o1,1<=q.1.size/\q.1.size<=1000)(hk2:∀q∈o2,1<=q.1.size/\q.1.size<=1000)(hl:o1.length+o2.length<=1000000000):
  Calls prog 152 #[.map (some po1),.map (some po2)] w λe w'=>∃v,e=.returned v/\JiJ o1 o2 w v w':=by
 have HCL:Hid (Calls prog 235 #[.map (some po1)] w _):=JiU po1 _ w h1;have HP:Hid (po1<w.heap.size/\po2<w.heap.size):=⟨(Jb h1),(Jb h2)⟩
 have HF:Hid (MpAt w po1 (outE o1)/\MpAt w po2 (outE o2)/\(o1.map (·.1)).Nodup/\(o2.map (·.1)).Nodup):=⟨h1,h2,d1,d2⟩
 have HKS:Hid ((∀q∈o1,1<=q.1.size/\q.1.size<=1000)/\(∀q∈o2,1<=q.1.size/\q.1.size<=1000)/\o1.length+o2.length<=1000000000):=⟨hk1,hk2,hl⟩
 clear h1 h2 d1 d2 hk1 hk2 hl;go_enter func152,ntmps152;go_wp2_with fail;refine HCL.o.mono ?_;rintro _ w1⟨rfl,hm1,ht1⟩;have HT1:Hid (Tch NoB w w1):=ht1;have HCP:Hid (Calls prog 236 #[.map (some w.heap.size),.map (some po2)] w1 _):=JkK w.heap.size po2 o1 o2 w1 hm1 (HF.o.2.1.next ht1 (λh=>h)) HF.o.2.2.1 (by have:=HP.o;omega);clear hm1 ht1 HCL;go_wp2_with fail;refine HCP.o.mono ?_;rintro _ w2⟨rfl,⟨l,hm2,hcp⟩,ht2⟩;have HT2:Hid (Tch NoB w w2):=HT1.o.trans ht2 (λj hj=>.inr (by omega));have HM2:Hid (MpAt w2 w.heap.size (outE l)):=hm2;have HCO:Hid (Jkg o1 o2 l):=hcp;have HLL:Hid (l.length<=1000000000):=by have:=XS (l.map (·.1)) (o1.map (·.1)++o2.map (·.1)) hcp.1 (λx hx=>by rw[QE];exact(hcp.2 x).1 hx);have h3:=HKS.o.2.2;simp only[QL,Qe]at this;show l.length<=1000000000;omega
 have HKO:Hid (Calls prog 237 #[.map (some w.heap.size)] w2 _):=Jmr w.heap.size w2;clear hm2 hcp ht2 HCP;go_wp2_with fail;refine HKO.o.mono ?_;rintro _ w3⟨rfl,hw3⟩;have t3:Tch NoB w2 w3:=by rw[hw3];exact Ta _ _ _
 have HSO:Hid (Calls prog 233 #[.func (.func 306) #[] #[.pointer (some ⟨w2.heap.size,0,none⟩)]] w3 _):=JeI 306 _ l.length (λs=>s.Perm (l.map (·.1))) (enters_of func306 (by kernel_rfl) rfl) w3 HLL.o (λs hs=>by rw[hs.length_eq,QL];exact HLL.o) (Jk6 w2.heap.size w3.heap.size 3 w.heap.size (by omega) ouV l w3 (by rw[hw3];exact Qf _ _) (HM2.o.next t3 (λh=>h)) rfl);have HT3:Hid (Tch NoB w w3):=HT2.o.go t3;clear hw3 t3 HKO;go_wp2_with fail;refine HSO.o.mono ?_;rintro _ w4⟨v4,s,rfl,hs,hst,ht4⟩;have HT4:Hid (Tch NoB w w4):=HT3.o.go ht4;have HS:Hid (s.Nodup/\∀x,x∈s↔x∈o1.map (·.1)\/x∈o2.map (·.1)):=⟨hs.nodup_iff.2 HCO.o.1,λx=>by rw[hs.mem_iff];exact HCO.o.2 x⟩
 obtain⟨a4,c4,rfl,hc4⟩:=hst;obtain⟨ks,hks⟩:∃ks,ks=Xj s:=⟨_,rfl⟩
 rw[<-hks]at hc4 ⊢;obtain⟨n,hn⟩:∃n,n=ks.length:=⟨_,rfl⟩
 rw[<-hn];have HN:Hid (n=ks.length):=hn;have HLK:Hid (ks.length<=1000000000):=by show ks.length<=1000000000;rw[hks,JaV,hs.length_eq,QL];exact HLL.o
 have hnb:n<=1000000000:=by rw[hn];exact HLK.o
 have HKZ:Hid (∀x∈ks,1<=x.size/\x.size<=1000):=λx hx=>by
  have hx2:x∈s:=by rw[hks]at hx;unfold Xj at hx;obtain⟨y,hy,rfl⟩:=QK.1 hx;obtain⟨t,ht,rfl⟩:=QK.1 ((List.mergeSort_perm _ _).mem_iff.1 hy);exact ht
  rcases(HS.o.2 x).1 hx2 with h|h
  ·obtain⟨q,hq,rfl⟩:=QK.1 h;exact HKS.o.1 q hq
  ·obtain⟨q,hq,rfl⟩:=QK.1 h;exact HKS.o.2.1 q hq
 have HC4:Hid (∀i (h:i<ks.length),∃g,a4=some ⟨g,0,none⟩/\w4.cell? ⟨g,i,none⟩=some (.string ks[i])):=hc4;have HI0:Hid (CgI o1 o2 ks w4.heap.size w4 0 (.slice none 0 0) w4):=⟨⟨rfl,.inl ⟨rfl,rfl⟩⟩,Te _ _⟩
 have HKQ:Hid (ks=Xj s):=hks;clear hs ht4 hc4 hn HSO hks HM2 HCO HLL HKS;go_wp2;go_loopw [6,20] (λv6 i wr=>∃k:Nat,k<=n/\i=.int .i64 (k:Int)/\(∃a m c,v6=.slice a m c)/\Hid (CgI o1 o2 ks w4.heap.size w4 k v6 wr)) (λ_ i _=>n-(intOf i).toNat)
 case atStart=>exact⟨0,Nat.zero_le _,rfl,⟨_,_,_,rfl⟩,HI0⟩
 case round=>
  obtain⟨k,hk,rfl,⟨a6,m6,c6,rfl⟩,HI⟩:=hrel
  by_cases hlt:k<n
  ·have hkl:k<ks.length:=(by rw[<-HN.o];exact hlt);obtain⟨g4,rfl,hc⟩:=HC4.o k hkl;obtain⟨x,hx⟩:∃x,x=ks[k]:=⟨_,rfl⟩
   rw[<-hx]at hc;have hkz:=HKZ.o x (by rw[hx];exact Qx hkl);have HTK:Hid (ks.take (k+1)=ks.take k++[x]):=(by show ks.take (k+1)=_;rw[hx];exact QQ hkl);have e0:wr.cell? ⟨g4,k,none⟩=some (.string x):=(HI.o.tch.cell (p:=⟨g4,k,none⟩) (Qr _ _ hc) (by have:=Qr _ _ hc;show ¬w4.heap.size<=g4;simp only at this;omega)).trans hc;have HLO:Hid (∀V c,Tch (λj=>w4.heap.size<=j) w4 V->(Instr.lookup 268 (.map (some po1)) (.string x) c).run prog V=.ok (if c then .tuple #[ouV ((kGet o1 x).getD (0,0)),.bool (kGet o1 x).isSome] else ouV ((kGet o1 x).getD (0,0))) V/\(Instr.lookup 268 (.map (some po2)) (.string x) c).run prog V=.ok (if c then .tuple #[ouV ((kGet o2 x).getD (0,0)),.bool (kGet o2 x).isSome] else ouV ((kGet o2 x).getD (0,0))) V):=λV c hV=>by
    have hp:=HP.o;have hz:=HT4.o.size;exact⟨JgE ((HF.o.1.next HT4.o (λh=>h)).next hV (by omega)) HF.o.2.2.1 x c,JgE ((HF.o.2.1.next HT4.o (λh=>h)).next hV (by omega)) HF.o.2.2.2 x c⟩
   obtain⟨tb,htb⟩:∃tb,tb=x.extract 0 (x.size-1):=⟨_,rfl⟩
   obtain⟨nb,hnb2⟩:∃nb:Nat,nb=(x.data.toList.getD (x.size-1) 0).toNat:=⟨_,rfl⟩
   have HTN:Hid (tb=x.extract 0 (x.size-1)/\nb=(x.data.toList.getD (x.size-1) 0).toNat):=⟨htb,hnb2⟩
   have HCN:Hid (∀V,Calls prog 239 #[.string x] V λe w'=>e=.returned (.agg #[.string tb,.int .i64 (nb:Int)])/\Tch NoB V w'):=λV=>by rw[htb,hnb2];exact Jl8 x hkz.1 hkz.2 V
   clear htb hnb2;have HOF:Hid (Zz o1 o2 x=if (kGet o1 x).isSome=true/\(kGet o2 x).isSome=true/\(kGet o1 x).getD (0,0)=(kGet o2 x).getD (0,0) then none else some (x,(kGet o1 x).isSome,(kGet o2 x).isSome,(kGet o1 x).getD (0,0),(kGet o2 x).getD (0,0))):=rfl;obtain⟨X1,hX1⟩:∃X1,X1=(kGet o1 x).getD (0,0):=⟨_,rfl⟩
   obtain⟨X2,hX2⟩:∃X2,X2=(kGet o2 x).getD (0,0):=⟨_,rfl⟩
   obtain⟨m1,hm1⟩:∃m1,m1=(kGet o1 x).isSome:=⟨_,rfl⟩
   obtain⟨m2,hm2⟩:∃m2,m2=(kGet o2 x).isSome:=⟨_,rfl⟩
   rw[<-hX1,<-hX2,<-hm1,<-hm2]at HLO HOF;clear hX1 hX2 hm1 hm2;obtain⟨x1,y1⟩:=X1;obtain⟨x2,y2⟩:=X2;simp only[ouV]at HLO;have HH1:Hid (∀V,Tch (λj=>w4.heap.size<=j) w4 V->Calls prog 238 #[.map (some po1),.string x] V λe w'=>e=.returned (.bool m1)/\Tch NoB V w'):=λV hV=>JcN (HLO.o V true hV).1;have HH2:Hid (∀V,Tch (λj=>w4.heap.size<=j) w4 V->Calls prog 238 #[.map (some po2),.string x] V λe w'=>e=.returned (.bool m2)/\Tch NoB V w'):=λV hV=>JcN (HLO.o V true hV).2;have hlti:(k:Int)<(n:Int):=(by omega);have hk0:(0:Int)<=(k:Int):=(by omega);clear hc hx hkl hkz;go_wp2_with fail;refine(HH1.o wr HI.o.tch).mono ?_;rintro _ w5⟨rfl,ht5⟩;have HT5:Hid (Tch NoB wr w5):=ht5;have HI5:Hid (Tch (λj=>w4.heap.size<=j) w4 w5):=HI.o.tch.go ht5;clear ht5 HH1 e0;go_wp2_with fail;refine(HH2.o w5 HI5.o).mono ?_;rintro _ w6⟨rfl,ht6⟩;have HT6:Hid (Tch NoB wr w6):=HT5.o.go ht6;have HI6:Hid (Tch (λj=>w4.heap.size<=j) w4 w6):=HI5.o.go ht6;clear ht6 HH2;go_upto_region 8 with fail;obtain⟨B,hB⟩:∃B:Bool,B=decide (m1=true/\m2=true/\(x1,y1)=(x2,y2)):=⟨_,rfl⟩
   have HB:Hid (B=decide (m1=true/\m2=true/\(x1,y1)=(x2,y2))):=hB;clear hB;obtain⟨l1,l2⟩:=HLO.o w6 false HI6.o;simp only[Bool.false_eq_true,if_false]at l1 l2;go_cut [6,8,9,10,20,42] (λv6 v8 v9 v10 v20 v42 wx=>v6=.slice a6 m6 c6/\v8=.string x/\v9=.bool m1/\v10=.bool m2/\v20=.int .i64 (k:Int)/\v42=.bool B/\wx=w6)
   case first=>
    cases m1
    ·have hBf:B=false:=(by rw[HB.o];simp);subst hBf;go_wp2;go_meet;exact⟨rfl,rfl,rfl,rfl,rfl,rfl,rfl⟩
    ·cases m2
     ·have hBf:B=false:=(by rw[HB.o];simp);subst hBf;go_wp2;go_meet;exact⟨rfl,rfl,rfl,rfl,rfl,rfl,rfl⟩
     ·by_cases hx:x1=x2
      ·subst hx
       by_cases hy:y1=y2
       ·subst hy;have hBf:B=true:=(by rw[HB.o];simp);subst hBf;go_wp2;go_meet;exact⟨rfl,rfl,rfl,rfl,rfl,rfl,rfl⟩
       ·have hBf:B=false:=(by rw[HB.o];simp[hy]);subst hBf;have hyi:¬(y1:Int)=(y2:Int):=(by omega);go_wp2;go_meet;exact⟨rfl,rfl,rfl,rfl,rfl,rfl,rfl⟩
      ·have hBf:B=false:=(by rw[HB.o];simp[hx]);subst hBf;have hxi:¬(x1:Int)=(x2:Int):=(by omega);go_wp2;go_meet;exact⟨rfl,rfl,rfl,rfl,rfl,rfl,rfl⟩
   case rest=>
   obtain⟨rfl,rfl,rfl,rfl,rfl,rfl,hwc⟩:=hcut;have hwc2:=hwc.symm;subst hwc2;clear hwc
   cases B
   ·have HNO:Hid (Zz o1 o2 x=some (x,m1,m2,(x1,y1),(x2,y2))):=by
     show Zz o1 o2 x=_;rw[HOF.o,if_neg (λh=>by have:=HB.o;rw[decide_eq_true h]at this;cases this)]
    have HAP:Hid (∀V,Tch NoB w6 V->∃a9 m9 c9 w9,(Builtin.append_ #[114,114] 114 #[.slice a6 m6 c6,.slice (some ⟨V.heap.size,0,none⟩) 1 1]).run prog (V.alloc (.cells #[.string tb,.int .i64 (nb:Int),.bool m1,.bool m2,.int .u64 (x1:Int),.int .u8 (y1:Int),.int .u64 (x2:Int),.int .u8 (y2:Int)] 119))=.ok (.slice a9 m9 c9) w9/\((Instr.lookup 268 (.map (some po1)) (.string x) false).run prog w9=.ok (.agg #[.int .u64 (x1:Int),.int .u8 (y1:Int)]) w9/\(Instr.lookup 268 (.map (some po2)) (.string x) false).run prog w9=.ok (.agg #[.int .u64 (x2:Int),.int .u8 (y2:Int)]) w9)/\Hid (CgI o1 o2 ks w4.heap.size w4 (k+1) (.slice a9 m9 c9) w9)):=λV hV=>by
     have tA:=Ta NoB V (.cells #[.string tb,.int .i64 (nb:Int),.bool m1,.bool m2,.int .u64 (x1:Int),.int .u8 (y1:Int),.int .u64 (x2:Int),.int .u8 (y2:Int)] 119);have tr:=(HT6.o.go hV).go tA;have hown:=HI.o.own.next tr;have hI2:=HI.o.tch.go tr;have hlen:((ks.take k).filterMap (Zz o1 o2)).length<=1000000000:=Qm (List.length_filterMap_le _ _) (by rw[QB];have:=HLK.o;omega);obtain⟨v9,w9,hrun,hown9,hg9⟩:=JdA hown V.heap.size (x,m1,m2,(x1,y1),(x2,y2)) (by rw[HTN.o.1,HTN.o.2];exact Qf _ _) hlen 114 hI2.size;obtain⟨a9,c9,hv9⟩:=hown9.shape;generalize (((ks.take k).filterMap (Zz o1 o2))++[(x,m1,m2,(x1,y1),(x2,y2))]).length=m9 at hv9;subst hv9;have t9:=hI2.trans (Tg hg9) (λj hj=>.inl (hown.own j hj.symm));have hl9:=HLO.o w9 false t9;simp only[Bool.false_eq_true,if_false]at hl9;refine⟨a9,m9,c9,w9,hrun,hl9,?_,t9⟩;rw[HTK.o,List.filterMap_append];simpa [HNO.o]using hown9
    have HLS:Hid (∀V,Tch NoB w6 V->(Instr.lookup 268 (.map (some po1)) (.string x) false).run prog V=.ok (.agg #[.int .u64 (x1:Int),.int .u8 (y1:Int)]) V/\(Instr.lookup 268 (.map (some po2)) (.string x) false).run prog V=.ok (.agg #[.int .u64 (x2:Int),.int .u8 (y2:Int)]) V):=λV hV=>by
     have:=HLO.o V false (HI6.o.go hV);simpa using this
    have HTd:Hid (Tch NoB w6 w6.drew):=Td _ w6 1;go_upto_region 9 with fail;obtain⟨l1,l2⟩:=HLS.o _ HTd.o;go_region_held3 (λV=>(Instr.lookup 268 (.map (some po1)) (.string x) false).run prog V=.ok (.agg #[.int .u64 (x1:Int),.int .u8 (y1:Int)]) V/\(Instr.lookup 268 (.map (some po2)) (.string x) false).run prog V=.ok (.agg #[.int .u64 (x2:Int),.int .u8 (y2:Int)]) V) (go_keep) ((first
     | (go_at_call 239;refine(HCN.o _).mono ?_;rintro _ w8⟨rfl,ht8⟩;have HT8:Hid (Tch NoB w6 w8):=HTd.o.go ht8;obtain⟨q1,q2⟩:=HLS.o _ HT8.o;obtain⟨q3,q4⟩:=HLS.o _ (HT8.o.go (Ta _ w8 (.cells #[.string tb,.int .i64 (nb:Int),.bool m1,.bool m2,.int .u64 (x1:Int),.int .u8 (y1:Int),.int .u64 (x2:Int),.int .u8 (y2:Int)] 119)));obtain⟨a9,m9,c9,w9,hrun9,⟨q5,q6⟩,HNEW⟩:=HAP.o w8 HT8.o;clear ht8)
     | (refine Yn rfl _ _ 114 rfl rfl rfl hrun9 ?_)))
    all_goals go_wp2
    all_goals go_roundw
    all_goals first
     | exact⟨k+1,by omega,by go_num,⟨_,_,_,rfl⟩,HNEW⟩
     | (simp[intOf];omega)
   ·have HNO:Hid (Zz o1 o2 x=none):=by
     show Zz o1 o2 x=_;rw[HOF.o,if_pos (of_decide_eq_true HB.o.symm)]
    have HNEW:Hid (CgI o1 o2 ks w4.heap.size w4 (k+1) (.slice a6 m6 c6) w6):=(by refine⟨?_,HI6.o⟩;rw[HTK.o,List.filterMap_append];simpa [HNO.o]using HI.o.own.next HT6.o);go_wp2;go_roundw
    case rel=>exact⟨k+1,by omega,by go_num,⟨_,_,_,rfl⟩,HNEW⟩
    case measure=>simp[intOf];omega
  ·have HK:Hid (k=n):=(by omega:k=n)
   have hge:¬(k:Int)<(n:Int):=(by omega);go_wp2;go_ret;have e:ks.take k=ks:=QR (by rw[HK.o,HN.o];exact Ql _);obtain⟨h5,h6⟩:=HI.o;rw[e]at h5;refine⟨_,rfl,s,HS.o,?_,HT4.o.trans h6 (λj hj=>.inr (by have:=HT4.o.size;omega))⟩;rw[<-HKQ.o];obtain⟨h7,h8⟩:=h5;refine⟨h7,h8.imp_right ?_⟩;rintro⟨g,cap,cur,h9,h10,h11⟩;exact⟨g,cap,cur,h9,by have:=HT4.o.size;omega,h11⟩

structure VwOk(b:ByL)(ok:BA->Prop)(v:Vw):Prop where
 nm:v.met.Nodup
 sub:∀e∈v.met,e∈b.map (·.1)
 out:v.outs.length<=v.met.length
 keys:∀q∈v.outs,ok q.1
theorem Yb.ok(hd:(b.map (·.1)).Nodup){ok:BA->Prop}(hb:∀q∈b,q.2.1=⟨#[76]⟩->ok q.2.2.1){v v':Vw}{s:Spot}(h:Yb v s (some v'))(hs:s.nd=Xb b s.dg)(hv:VwOk b ok v):VwOk b ok v':=by
 obtain⟨h1,h2,h3⟩:=h.went hs hv.nm hv.sub;refine⟨h1,h2,?_,?_⟩
 ·rcases h with⟨_,h⟩|⟨n,hn,⟨_,h⟩|⟨_,⟨_,⟨_,h⟩|⟨_,h⟩⟩|⟨_,⟨_,h⟩|⟨_,h⟩⟩|⟨_,_,h⟩⟩⟩<;>cases h<;>(have:=hv.out;simp only[Qe,Qp,Qv];omega)
 ·rcases h with⟨_,h⟩|⟨n,hn,⟨_,h⟩|⟨_,⟨hl,⟨_,h⟩|⟨_,h⟩⟩|⟨_,⟨_,h⟩|⟨_,h⟩⟩|⟨_,_,h⟩⟩⟩<;>cases h<;>first|exact hv.keys|skip
  intro q hq
  rcases QE.1 hq with hq|hq
  ·exact hv.keys q hq
  ·rw[Qt]at hq;rw[hq];rw[hs]at hn;exact hb _ ((JbZ hd).1 hn) hl
theorem JS.ok(hd:(b.map (·.1)).Nodup){ok:BA->Prop}(hb:∀q∈b,q.2.1=⟨#[76]⟩->ok q.2.2.1){st:List Spot}{v:Vw}{res:Option Vw}(h:JS b st v res):∀v',res=some v'->(∀s∈st,s.nd=Xb b s.dg)->VwOk b ok v->v.left.length+st.length<=v.met.length+1->VwOk b ok v'/\v'.left.length<=v'.met.length+1:=by
 induction h with
 | done v=>
  intro v' e _ hv hl
  cases e
  exact⟨hv,by simpa using hl⟩
 | bad=>intro v' e;cases e
 | step s r v v1 res h1 h2 ih=>
  intro v' e hst hv hl;have hs:=hst s QM;have hw:=h1.went hs hv.nm hv.sub;refine ih v' e (λx hx=>?_) (h1.ok hd hb hs hv) ?_
  ·rcases QE.1 hx with hx|hx
   ·exact Jg8 b s x hx
   ·exact hst x (QP _ hx)
  ·have:=Jg9 b s;simp only[Qe,Qp]at hl ⊢
   rcases hw.2.2 with h|⟨h3,h4,h5⟩
   ·omega
   ·rw[h5];simp only[Qv];omega
structure Jh9(b:ByL)(r1 r2:BA):Prop where
 nd:(b.map (·.1)).Nodup
 w1:¬JS b [Jt b r1 (-1)] ⟨[],[],[]⟩ none
 w2:¬JS b [Jt b r2 (-1)] ⟨[],[],[]⟩ none
 all:∀v1 v2,JS b [Jt b r1 (-1)] ⟨[],[],[]⟩ (some v1)->JS b [Jt b r2 (-1)] ⟨[],[],[]⟩ (some v2)->(∀d∈b.map (·.1),d∈v1.met\/d∈v2.met)/\v1.left.Perm v2.left
def Jas(b:ByL)(r1 r2:BA)(w:World)(v err:Value)(w':World):Prop:=Tch NoB w w'/\(((∃t u,err=.iface t u)/\¬Jh9 b r1 r2)\/(err=.nilIface/\∃v1 v2,JS b [Jt b r1 (-1)] ⟨[],[],[]⟩ (some v1)/\JS b [Jt b r2 (-1)] ⟨[],[],[]⟩ (some v2)/\(v1.outs.map (·.1)).Nodup/\(v2.outs.map (·.1)).Nodup/\∃s:List BA,(s.Nodup/\∀x,x∈s↔x∈v1.outs.map (·.1)\/x∈v2.outs.map (·.1))/\ChgO w.heap.size w' v ((Xj s).filterMap (Zz v1.outs v2.outs))))
theorem Jhg(E:Nat->Addr){wj:Nat}(hw1:1<=wj)(hw:wj<=32)(xs:List Jk)(hxs:∀x∈xs,XL wj x)(hl:xs.length<=400000000)(hr:ZJ (xs.map λx=>bsL (txtN x)))(h1 h2:HdL)(hh1:HdOk wj h1)(hh2:HdOk wj h2)(w:World)(hE:Env E w)(hT:Er3 w):
  Calls prog 95 #[.int .i64 (wj:Int),.string ⟨(hdrB h1).toArray⟩,.string ⟨(hdrB h2).toArray⟩,.string ⟨(szsB (xs.map λx=>bsL (txtN x))).toArray⟩] w λe w'=>∃v err,e=.returned (.tuple #[v,err])/\Jas (byOf wj xs) h1.2.2.2 h2.2.2.2 w v err w':=by
 have HCW:Hid (∀V,Calls prog 124 #[.int .i64 (wj:Int)] V _):=λV=>ZI wj V hw1 hw;have HRN:Hid (Calls prog 149 _ w _):=Jd5 E hw1 hw xs hxs (by omega) hr w hE hT;have HTR:Hid (∀(h:HdL)(p:Nat) V,HdOk wj h->((byOf wj xs).map (·.1)).Nodup->Tch NoB w V->MpAt V p (byE (byOf wj xs))->Calls prog 150 #[.agg #[.int .i64 (wj:Int),.map (some p)],.string ⟨(hdrB h).toArray⟩] V _):=λh p V hh hd hV hm=>callsIn_wide.1 (JmX E hw p (byOf wj xs) hd (by simp[byOf];omega) h hh V (hE.tch hV noE) (hT.tch hV noE) hm);have HER:Hid (∀V,Tch NoB w V->Er3 V):=λV hV=>hT.tch hV noE;have HOK:Hid (∀(r:BA) v,((byOf wj xs).map (·.1)).Nodup->JS (byOf wj xs) [Jt (byOf wj xs) r (-1)] ⟨[],[],[]⟩ (some v)->(∀q∈v.outs,1<=q.1.size/\q.1.size<=1000)/\v.outs.length<=400000000/\v.left.length<=1000000000):=λr v hd hk=>by
  obtain⟨k1,k2⟩:=hk.ok hd (ok:=λx=>1<=x.size/\x.size<=1000) (λq hq he=>by
   obtain⟨x,hx,rfl⟩:=QK.1 hq;dsimp only at he ⊢
   rcases hxs x hx with rfl|⟨t,rfl,ht⟩
   ·exact absurd he (by decide)
   ·cases t with
    | leaf k o=>
     have:=ht.1;simp only[JK];show 1<=k.toArray.size/\k.toArray.size<=1000;simp;omega
    | br bb l r=>exact absurd he (by simp[JK])) v rfl (λs hs=>by rw[Qt]at hs;rw[hs];rfl) ⟨List.nodup_nil,λ_ h=>(by cases h),by simp,λ_ h=>(by cases h)⟩ (by simp)
  have h3:=XS v.met ((byOf wj xs).map (·.1)) k1.nm k1.sub;have h4:(byOf wj xs).length=xs.length:=by simp[byOf]
  rw[QL,h4]at h3;have:=k1.out;exact⟨k1.keys,by omega,by omega⟩
 have HHH:Hid (HdOk wj h1/\HdOk wj h2):=⟨hh1,hh2⟩
 have HS1:=HTR.o h1;have HS2:=HTR.o h2;have HTR1:Hid _:=HS1;have HTR2:Hid _:=HS2;clear HS1 HS2 HTR hE hT hr hl hxs hh1 hh2;generalize (⟨(hdrB h1).toArray⟩:BA)=hb1 at *;generalize (⟨(hdrB h2).toArray⟩:BA)=hb2 at *;generalize h1.2.2.2=r1 at *;generalize h2.2.2.2=r2 at *;generalize (⟨(szsB (xs.map λx=>bsL (txtN x))).toArray⟩:BA)=tx at *;generalize byOf wj xs=b at *;go_enter func95,ntmps95;go_wp2_with fail;refine(HCW.o w).mono ?_;rintro _ _⟨rfl,rfl⟩;go_wp2_with fail;refine HRN.o.mono ?_;clear HRN HCW;rintro _ w1⟨ht1,p,hp,⟨rfl,hnd,hmp⟩|⟨hnn,t,u,rfl⟩⟩
 case inr=>have HT1:Hid (Tch NoB w w1):=ht1;have HNN:Hid (JaL b):=hnn;clear ht1 hnn;go_wp2_with fail;refine(Xk _ t u _).mono ?_;rintro _ _⟨rfl,rfl⟩;go_wp2;go_ret2;exact⟨_,_,rfl,(HT1.o.go (Ta _ _ _)).go (Ta _ _ _),.inl ⟨⟨_,_,rfl⟩,λh=>HNN.o h.nd⟩⟩
 obtain⟨W2,hW2⟩:∃W2,W2=w1.alloc (.cells #[.int .i64 (wj:Int),.map (some p)] 264):=⟨_,rfl⟩
 have t2:Tch NoB w W2:=by rw[hW2];exact ht1.go (Ta _ _ _)
 have hr2:W2.heap[w1.heap.size]? =some (.cells #[.int .i64 (wj:Int),.map (some p)] 264):=by rw[hW2];exact Qf _ _
 have HM2:Hid (MpAt W2 p (byE b)):=by show MpAt W2 p (byE b);rw[hW2];exact hmp.next (Ta NoB _ _) (λh=>h)
 have HTL:Hid (∀V,Tch NoB W2 V->V.cell? ⟨w1.heap.size,0,none⟩=some (.int .i64 (wj:Int))/\V.cell? ⟨w1.heap.size,1,none⟩=some (.map (some p))):=λV hV=>by
  have q:=(hV.block _ (Jb hr2) (λh=>h)).trans hr2;exact⟨Ja q,Ja q⟩
 have HT2:Hid (Tch NoB w W2):=t2;have HND:Hid ((b.map (·.1)).Nodup):=hnd;have HW2:Hid (W2=_):=hW2;obtain⟨c0,c1⟩:=HTL.o W2 (Te _ _);clear ht1 hnd hmp t2 hr2 hW2;go_upto_region 7 with fail;rw[<-HW2.o];go_wp2_with fail;refine(HTR1.o p W2 HHH.o.1 HND.o HT2.o HM2.o).mono ?_;clear HTR1 c0 c1;rintro _ w3⟨ht3,⟨v1,pm1,po1,lv1,hwk1,rfl,hv1⟩|⟨hwk,t,u,rfl⟩⟩
 case inr=>have HT3:Hid (Tch NoB w w3):=HT2.o.go ht3;have HWK:Hid (JS b [Jt b r1 (-1)] ⟨[],[],[]⟩ none):=hwk;clear ht3 hwk;go_wp2_with fail;refine(Xk _ t u _).mono ?_;rintro _ _⟨rfl,rfl⟩;go_wp2;go_ret2;exact⟨_,_,rfl,(HT3.o.go (Ta _ _ _)).go (Ta _ _ _),.inl ⟨⟨_,_,rfl⟩,λh=>h.w1 HWK.o⟩⟩
 obtain⟨a1,k1,hlv1⟩:=hv1.left.shape;generalize hn1:v1.left.length=n1 at hlv1;subst hlv1;obtain⟨W4,hW4⟩:∃W4,W4=w3.alloc (.cells #[.map (some pm1),.map (some po1),.slice a1 n1 k1] 270):=⟨_,rfl⟩
 have t4:Tch NoB w3 W4:=by rw[hW4];exact Ta _ _ _
 have hr4:W4.heap[w3.heap.size]? =some (.cells #[.map (some pm1),.map (some po1),.slice a1 n1 k1] 270):=by rw[hW4];exact Qf _ _
 have HV1:Hid (VwV W2.heap.size W4 pm1 po1 (.slice a1 n1 k1) v1):=hv1.next t4;have HT24:Hid (Tch NoB W2 W4):=ht3.go t4;have HK1:Hid (JS b [Jt b r1 (-1)] ⟨[],[],[]⟩ (some v1)):=hwk1;have HL1:Hid (∀V,Tch NoB W4 V->V.cell? ⟨w3.heap.size,0,none⟩=some (.map (some pm1))/\V.cell? ⟨w3.heap.size,1,none⟩=some (.map (some po1))/\V.cell? ⟨w3.heap.size,2,none⟩=some (.slice a1 n1 k1)):=λV hV=>by
  have q:=(hV.block _ (Jb hr4) (λh=>h)).trans hr4;exact⟨Ja q,Ja q,Ja q⟩
 have HW4:Hid (W4=_):=hW4;obtain⟨c0,c1⟩:=HTL.o W4 HT24.o;clear ht3 hwk1 hv1 t4 hr4 hW4 hn1;go_upto_region 10 with fail;rw[<-HW4.o];go_wp2_with fail;refine(HTR2.o p W4 HHH.o.2 HND.o (HT2.o.go HT24.o) (HM2.o.next HT24.o (λh=>h))).mono ?_;clear HTR2 c0 c1;rintro _ w5⟨ht5,⟨v2,pm2,po2,lv2,hwk2,rfl,hv2⟩|⟨hwk,t,u,rfl⟩⟩
 case inr=>have HT5:Hid (Tch NoB w w5):=(HT2.o.go HT24.o).go ht5;have HWK:Hid (JS b [Jt b r2 (-1)] ⟨[],[],[]⟩ none):=hwk;clear ht5 hwk;go_wp2_with fail;refine(Xk _ t u _).mono ?_;rintro _ _⟨rfl,rfl⟩;go_wp2;go_ret2;exact⟨_,_,rfl,(HT5.o.go (Ta _ _ _)).go (Ta _ _ _),.inl ⟨⟨_,_,rfl⟩,λh=>h.w2 HWK.o⟩⟩
 obtain⟨a2,k2,hlv2⟩:=hv2.left.shape;generalize hn2:v2.left.length=n2 at hlv2;subst hlv2;obtain⟨W6,hW6⟩:∃W6,W6=w5.alloc (.cells #[.map (some pm2),.map (some po2),.slice a2 n2 k2] 270):=⟨_,rfl⟩
 have t6:Tch NoB w5 W6:=by rw[hW6];exact Ta _ _ _
 have hr6:W6.heap[w5.heap.size]? =some (.cells #[.map (some pm2),.map (some po2),.slice a2 n2 k2] 270):=by rw[hW6];exact Qf _ _
 have HT46:Hid (Tch NoB W4 W6):=ht5.go t6;have HV2:Hid (VwV W4.heap.size W6 pm2 po2 (.slice a2 n2 k2) v2):=hv2.next t6;have HV1:Hid (VwV W2.heap.size W6 pm1 po1 (.slice a1 n1 k1) v1):=HV1.o.next HT46.o;have HK2:Hid (JS b [Jt b r2 (-1)] ⟨[],[],[]⟩ (some v2)):=hwk2;have HL2:Hid (∀V,Tch NoB W6 V->V.cell? ⟨w5.heap.size,0,none⟩=some (.map (some pm2))/\V.cell? ⟨w5.heap.size,1,none⟩=some (.map (some po2))/\V.cell? ⟨w5.heap.size,2,none⟩=some (.slice a2 n2 k2)):=λV hV=>by
  have q:=(hV.block _ (Jb hr6) (λh=>h)).trans hr6;exact⟨Ja q,Ja q,Ja q⟩
 have HW6:Hid (W6=_):=hW6;have HT6:Hid (Tch NoB w W6):=(HT2.o.go HT24.o).go HT46.o;have ho1:=HOK.o r1 v1 HND.o HK1.o;have ho2:=HOK.o r2 v2 HND.o HK2.o;have HCK:Hid (Calls prog 151 #[.agg #[.int .i64 (wj:Int),.map (some p)],.agg #[.map (some pm1),.map (some po1),.slice a1 n1 k1],.agg #[.map (some pm2),.map (some po2),.slice a2 n2 k2]] W6 _):=JiT (wj:Int) p b _ pm1 po1 _ v1 _ pm2 po2 _ v2 W6 (HM2.o.next (HT24.o.go HT46.o) (λh=>h)) HV1.o HV2.o ho1.2.2 ho2.2.2 (HER.o W6 HT6.o);have HCH:Hid (∀V,Tch NoB W6 V->Calls prog 152 #[.map (some po1),.map (some po2)] V _):=λV hV=>JfZ po1 po2 v1.outs v2.outs V (HV1.o.next hV).outs (HV2.o.next hV).outs HV1.o.no HV2.o.no ho1.1 ho2.1 (by omega);obtain⟨c0,c1⟩:=HTL.o W6 (HT24.o.go HT46.o);obtain⟨e0,e1,e2⟩:=HL1.o W6 HT46.o;obtain⟨g0,g1,g2⟩:=HL2.o W6 (Te _ _);clear ht5 hwk2 hv2 t6 hr6 hW6 hn2 ho1 ho2;go_upto_region 13 with fail;rw[<-HW6.o];go_wp2_with fail;refine HCK.o.mono ?_;clear HCK c0 c1 e0 e1 e2 g0 g1 g2;rintro _ w7⟨ht7,rfl|⟨⟨t,u,rfl⟩,hno⟩⟩
 case inr=>have HT7:Hid (Tch NoB w w7):=HT6.o.go ht7;have HNO:Hid (¬Jh9 b r1 r2):=λh=>hno (h.all v1 v2 HK1.o HK2.o).1 (h.all v1 v2 HK1.o HK2.o).2;clear ht7 hno;go_wp2_with fail;refine(Xk _ t u _).mono ?_;rintro _ _⟨rfl,rfl⟩;go_wp2;go_ret2;exact⟨_,_,rfl,HT7.o.go (Ta _ _ _),.inl ⟨⟨_,_,rfl⟩,HNO.o⟩⟩
 have HT7:Hid (Tch NoB w w7):=HT6.o.go ht7;have HC7:Hid (Calls prog 152 #[.map (some po1),.map (some po2)] w7 _):=HCH.o w7 ht7;obtain⟨_,e1,_⟩:=HL1.o w7 (HT46.o.go ht7);obtain⟨_,g1,_⟩:=HL2.o w7 ht7;clear ht7 HCH;go_wp2_with fail;refine HC7.o.mono ?_;rintro _ w8⟨v,rfl,s,hs,hch,ht8⟩;have HFIN:Hid (Jas b r1 r2 w v .nilIface w8):=by refine⟨HT7.o.go ht8,.inr ⟨rfl,v1,v2,HK1.o,HK2.o,HV1.o.no,HV2.o.no,s,hs,?_⟩⟩;obtain⟨h7,h8⟩:=hch;refine⟨h7,h8.imp_right ?_⟩;rintro⟨g,cap,cur,h9,h10,h11⟩;exact⟨g,cap,cur,h9,Qm HT7.o.size h10,h11⟩
 obtain⟨a9,c9,hv9⟩:=hch.shape;generalize ((Xj s).filterMap (Zz v1.outs v2.outs)).length=n9 at hv9;subst hv9;clear hs hch ht8 HC7;go_wp2;go_ret2;exact⟨_,_,rfl,HFIN.o⟩

def Jkh(b:ByL)(r1 r2:BA)(w:World)(v:Value)(ok:Bool)(w':World):Prop:=Tch NoB w w'/\(Jh9 b r1 r2->ok=true/\∃w0,Jas b r1 r2 w v .nilIface w0/\Tch NoB w0 w')
theorem Jf7{r1 r2:BA}{n:Int}{s1 s2 s3:BA}(h:Calls prog 95 #[.int .i64 n,.string s1,.string s2,.string s3] w λe w'=>∃v err,e=.returned (.tuple #[v,err])/\Jas b r1 r2 w v err w'):
  Calls prog 52 #[.int .i64 n,.string s1,.string s2,.string s3] w λe w'=>∃v ok,e=.returned (.tuple #[v,.bool ok])/\Jkh b r1 r2 w v ok w':=by
 have HD:Hid (Calls prog 95 _ w _):=h;clear h;go_enter func52,ntmps52;go_wp2_with fail;refine HD.o.mono ?_;rintro _ w1⟨v,err,rfl,ht,⟨⟨t,u,rfl⟩,hno⟩|⟨rfl,hyes⟩⟩
 ·have HF:Hid (Jkh b r1 r2 w v false w1.drew):=⟨ht.go (Td _ _ 1),λh=>absurd h hno⟩
  clear ht hno;go_upto_region 2 with fail;go_region
  all_goals go_wp2;go_ret2;exact⟨_,_,rfl,HF.o⟩
 ·have HF:Hid (Jkh b r1 r2 w v true w1.drew):=⟨ht.go (Td _ _ 1),λ_=>⟨rfl,w1,⟨ht,.inr ⟨rfl,hyes⟩⟩,Td _ _ 1⟩⟩
  clear ht hyes;go_upto_region 2 with fail;go_region
  all_goals go_wp2;go_ret2;exact⟨_,_,rfl,HF.o⟩
structure Jn0(o1 o2:List KO)(c:Chg):Prop where
 key:∃k:Key,c.1=⟨k.toArray⟩/\(c.2.1=true↔k∈o1.map (·.1))/\(c.2.2.1=true↔k∈o2.map (·.1))/\(c.2.1=true->(k,c.2.2.2.1)∈o1)/\(c.2.2.1=true->(k,c.2.2.2.2)∈o2)/\(c.2.1=c.2.2.1->c.2.1=true/\c.2.2.2.1 ≠ c.2.2.2.2)
theorem Yr.good(h:Yr d b st1 st2):Jh9 b (JU d st1) (JU d st2):=by
 obtain⟨v1,s1⟩:=h.seen;obtain⟨v2,s2⟩:=h.symm.seen;refine⟨h.nd,λk=>(by cases s1.walk _ k),λk=>(by cases s2.walk _ k),λu1 u2 k1 k2=>?_⟩
 cases s1.walk _ k1
 cases s2.walk _ k2
 exact⟨h.met s1 s2,Yr.left s1 s2⟩
structure Jm8(o1 o2:List KO)(L:List Chg):Prop where
 keys:∀k:Key,(⟨k.toArray⟩:BA)∈L.map (·.1)↔(∃a,(k,a)∈o1/\(k,a) ∉ o2)\/(∃a,(k,a)∈o2/\(k,a) ∉ o1)
 ok:∀c∈L,Jn0 o1 o2 c
 rise:∀i (hi:i+1<L.length),(L[i].1).data.toList<(L[i+1].1).data.toList
theorem Jcu{st:Option Tr}(h:∀t,st=some t->t.Wf):((Jr st).map (·.1)).Nodup:=by
 cases st with
 | none=>exact List.nodup_nil
 | some t=>exact Tr.keys_nodup (h t rfl)
theorem Jio{o:List KO}(hd:(o.map (·.1)).Nodup){k:Key}{a b:Nat×Nat}(h1:(k,a)∈o)(h2:(k,b)∈o):a=b:=by
 induction o with
 | nil=>cases h1
 | cons q r ih=>
  rw[List.map_cons,List.nodup_cons]at hd
  rcases List.mem_cons.1 h1 with e1|h1<;>rcases List.mem_cons.1 h2 with e2|h2
  ·rw[<-e1]at e2;cases e2;rfl
  ·exact absurd (QK.2 ⟨_,h2,by rw[<-e1]⟩) hd.1
  ·exact absurd (QK.2 ⟨_,h1,by rw[<-e2]⟩) hd.1
  ·exact ih hd.2 h1 h2
theorem Jch{x:BA}:x∈Xj s↔x∈s:=by
 unfold Xj;rw[QK];constructor
 ·rintro⟨y,hy,rfl⟩;obtain⟨t,ht,rfl⟩:=QK.1 ((List.mergeSort_perm _ _).mem_iff.1 hy);exact ht
 ·exact λh=>⟨x.data.toList,(List.mergeSort_perm _ _).mem_iff.2 (QK.2 ⟨x,h,rfl⟩),rfl⟩
theorem JhL(hd:s.Nodup)(i:Nat)(hi:i+1<(Xj s).length):((Xj s)[i]).data.toList<((Xj s)[i+1]).data.toList:=by
 have tr:∀(x y z:List UInt8),decide (x<=y)=true->decide (y<=z)=true->decide (x<=z)=true:=λx y z h1 h2=>decide_eq_true (List.le_trans (of_decide_eq_true h1) (of_decide_eq_true h2));have tt:∀(x y:List UInt8),(decide (x<=y) || decide (y<=x))=true:=λx y=>by
  rcases List.le_total x y with h|h
  ·rw[decide_eq_true h];rfl
  ·rw[decide_eq_true h,Bool.or_true]
 have hp:=List.pairwise_mergeSort tr tt (s.map λt=>t.data.toList);have hn:((s.map λt=>t.data.toList).mergeSort λx y=>decide (x<=y)).Nodup:=by rw[(List.mergeSort_perm _ _).nodup_iff];exact List.Pairwise.map _ (λa c hne e=>hne (ByteArray.ext (Array.toList_inj.1 e))) hd
 unfold Xj at hi ⊢;rw[QL]at hi;rw[List.getElem_map,List.getElem_map];show ((s.map λt=>t.data.toList).mergeSort λx y=>decide (x<=y))[i]<((s.map λt=>t.data.toList).mergeSort λx y=>decide (x<=y))[i+1];have h1:=of_decide_eq_true (List.pairwise_iff_getElem.1 hp i (i+1) (by omega) hi (by omega));have h2:=List.pairwise_iff_getElem.1 hn i (i+1) (by omega) hi (by omega);exact Std.lt_of_le_of_ne h1 h2
theorem Yr.tells(h:Yr d b st1 st2)(hd:Jas b (JU d st1) (JU d st2) w v .nilIface w'):∃L,ChgO w.heap.size w' v L/\Jm8 (Jr st1) (Jr st2) L:=by
 obtain⟨_,⟨⟨t,u,e⟩,_⟩|⟨_,v1,v2,k1,k2,n1,n2,s,⟨hs1,hs2⟩,hch⟩⟩:=hd
 ·cases e
 ·obtain⟨u1,S1⟩:=h.seen;obtain⟨u2,S2⟩:=h.symm.seen
  cases S1.walk _ k1
  cases S2.walk _ k2
  have d1:=Jcu h.wf1;have d2:=Jcu h.wf2;have o1:=S1.outs;have o2:=S2.outs;clear S1 S2 k1 k2 h;generalize Jr st1=c1 at *;generalize Jr st2=c2 at *;have f1:∀k a,((⟨k.toArray⟩:BA),a)∈v1.outs↔(k,a)∈c1/\(k,a) ∉ c2:=λk a=>by
   rw[o1];constructor
   ·rintro⟨⟨x1,x2⟩,hx,hn,e⟩;simp only[Qw]at e;rw[ZH e.1,e.2];exact⟨hx,hn⟩
   ·exact λh=>⟨(k,a),h.1,h.2,rfl⟩
  have f2:∀k a,((⟨k.toArray⟩:BA),a)∈v2.outs↔(k,a)∈c2/\(k,a) ∉ c1:=λk a=>by
   rw[o2];constructor
   ·rintro⟨⟨x1,x2⟩,hx,hn,e⟩;simp only[Qw]at e;rw[ZH e.1,e.2];exact⟨hx,hn⟩
   ·exact λh=>⟨(k,a),h.1,h.2,rfl⟩
  have g1:∀k a,kGet v1.outs ⟨k.toArray⟩=some a↔(k,a)∈c1/\(k,a) ∉ c2:=λk a=>(Jda n1).trans (f1 k a);have g2:∀k a,kGet v2.outs ⟨k.toArray⟩=some a↔(k,a)∈c2/\(k,a) ∉ c1:=λk a=>(Jda n2).trans (f2 k a);have hmem:∀x,x∈s↔∃k:Key,x=⟨k.toArray⟩/\((∃a,(k,a)∈c1/\(k,a) ∉ c2)\/(∃a,(k,a)∈c2/\(k,a) ∉ c1)):=λx=>by
   rw[hs2];constructor
   ·rintro(h|h)
    ·obtain⟨q,hq,rfl⟩:=QK.1 h;obtain⟨y,hy,hn,rfl⟩:=(o1 q).1 hq;exact⟨y.1,rfl,.inl ⟨y.2,hy,hn⟩⟩
    ·obtain⟨q,hq,rfl⟩:=QK.1 h;obtain⟨y,hy,hn,rfl⟩:=(o2 q).1 hq;exact⟨y.1,rfl,.inr ⟨y.2,hy,hn⟩⟩
   ·rintro⟨k,rfl,⟨a,h⟩|⟨a,h⟩⟩
    ·exact .inl (QK.2 ⟨_,(f1 k a).2 h,rfl⟩)
    ·exact .inr (QK.2 ⟨_,(f2 k a).2 h,rfl⟩)
  obtain⟨C,hC⟩:∃C:BA->Chg,C=λk=>(k,(kGet v1.outs k).isSome,(kGet v2.outs k).isSome,(kGet v1.outs k).getD (0,0),(kGet v2.outs k).getD (0,0)):=⟨_,rfl⟩
  have hno:∀(k:Key) a,kGet v1.outs (⟨k.toArray⟩:BA)=some a->kGet v2.outs (⟨k.toArray⟩:BA)=some a->False:=λk a h1 h2=>((g1 k a).1 h1).2 ((g2 k a).1 h2).1;have hof:∀x∈Xj s,Zz v1.outs v2.outs x=some (C x):=λx hx=>by
   obtain⟨k,rfl,_⟩:=(hmem x).1 (Jch.1 hx);unfold Zz;rw[if_neg,hC];rintro⟨h1,h2,h3⟩;obtain⟨a,ha⟩:=Option.isSome_iff_exists.1 h1;obtain⟨b,hb⟩:=Option.isSome_iff_exists.1 h2;rw[ha,hb]at h3;simp only[Option.getD_some]at h3;rw[<-h3]at hb;exact hno k a ha hb
  have hL:(Xj s).filterMap (Zz v1.outs v2.outs)=(Xj s).map C:=by
   generalize Xj s=S at hof;clear hs1 hs2 hch hmem
   induction S with
   | nil=>rfl
   | cons y r ih=>
    rw[List.filterMap_cons,hof y QM,List.map_cons,ih (λx hx=>hof x (QP _ hx))]
  rw[hL]at hch;have hfst:((Xj s).map C).map (·.1)=Xj s:=by rw[List.map_map,hC];exact List.map_id _
  refine⟨_,hch,λk=>?_,λc hc=>?_,λi hi=>?_⟩
  ·rw[hfst,Jch,hmem];constructor
   ·rintro⟨k',e,h⟩;rw[ZH e];exact h
   ·exact λh=>⟨k,rfl,h⟩
  ·obtain⟨x,hx,rfl⟩:=QK.1 hc;obtain⟨k,rfl,hk⟩:=(hmem x).1 (Jch.1 hx);rw[hC];have w1:(kGet v1.outs (⟨k.toArray⟩:BA)).isSome=true↔k∈c1.map (·.1):=by
    rw[Option.isSome_iff_exists];constructor
    ·rintro⟨a,ha⟩;exact QK.2 ⟨(k,a),((g1 k a).1 ha).1,rfl⟩
    ·intro hm;obtain⟨⟨k',a⟩,hq,rfl⟩:=QK.1 hm
     by_cases h2:(k',a)∈c2
     ·rcases hk with⟨a',h3,h4⟩|⟨a',h3,h4⟩
      ·exact⟨a',(g1 _ _).2 ⟨h3,h4⟩⟩
      ·have:=Jio d2 h2 h3;subst this;exact absurd hq h4
     ·exact⟨a,(g1 _ _).2 ⟨hq,h2⟩⟩
   have w2:(kGet v2.outs (⟨k.toArray⟩:BA)).isSome=true↔k∈c2.map (·.1):=by
    rw[Option.isSome_iff_exists];constructor
    ·rintro⟨a,ha⟩;exact QK.2 ⟨(k,a),((g2 k a).1 ha).1,rfl⟩
    ·intro hm;obtain⟨⟨k',a⟩,hq,rfl⟩:=QK.1 hm
     by_cases h2:(k',a)∈c1
     ·rcases hk with⟨a',h3,h4⟩|⟨a',h3,h4⟩
      ·have:=Jio d1 h2 h3;subst this;exact absurd hq h4
      ·exact⟨a',(g2 _ _).2 ⟨h3,h4⟩⟩
     ·exact⟨a,(g2 _ _).2 ⟨hq,h2⟩⟩
   refine⟨k,rfl,w1,w2,λhw=>?_,λhw=>?_,λhe=>?_⟩
   ·obtain⟨a,ha⟩:=Option.isSome_iff_exists.1 hw;simp only[ha,Option.getD_some];exact((g1 k a).1 ha).1
   ·obtain⟨a,ha⟩:=Option.isSome_iff_exists.1 hw;simp only[ha,Option.getD_some];exact((g2 k a).1 ha).1
   ·dsimp only at he ⊢;have ht:(kGet v1.outs (⟨k.toArray⟩:BA)).isSome=true:=by
     rcases hk with⟨a',h3,h4⟩|⟨a',h3,h4⟩
     ·rw[(g1 k a').2 ⟨h3,h4⟩];rfl
     ·rw[he,(g2 k a').2 ⟨h3,h4⟩];rfl
    refine⟨ht,λe=>?_⟩;obtain⟨a,ha⟩:=Option.isSome_iff_exists.1 ht;obtain⟨b,hb⟩:=Option.isSome_iff_exists.1 (he ▸ ht);rw[ha,hb]at e;simp only[Option.getD_some]at e;rw[<-e]at hb;exact hno k a ha hb
  ·rw[QL]at hi;simp only[List.getElem_map];have hc:∀x,(C x).1=x:=λx=>by rw[hC]
   rw[hc,hc];exact JhL hs1 i hi
