import Derived.Test.YtighkdnooglfjaaGreatDoorLcLiW
namespace Go.Proofs.YtighkdnooglfjaaGreatDoor
open Go.Proofs.Tryz
set_option maxRecDepth 100000
set_option maxHeartbeats 2000000
open Go.RowKit

variable {e:BA}{base:Nat}{α:Type}{v:Value}{w:World}
def kGet{α:Type}(o:List (BA×α))(k:BA):Option α:=(o.find? (λq=>decide (q.1=k))).map (·.2)
theorem Jc8{b:List (BA×α)}(hd:(b.map (·.1)).Nodup){n:α}:kGet b e=some n↔(e,n)∈b:=by
 induction b with
 | nil=>simp[kGet]
 | cons q r ih=>
  obtain⟨q1,q2⟩:=q;rw[List.map_cons,List.nodup_cons]at hd;have ih:=ih hd.2;unfold kGet at ih ⊢;rw[List.find?_cons]
  by_cases h:q1=e
  ·subst h;simp only[decide_true,Option.map_some,Qh,List.mem_cons,Qw,true_and];refine⟨λh=>.inl h.symm,λh=>h.elim (λh=>h.symm) (λh=>absurd (List.mem_map_of_mem (f:=(·.1)) h) hd.1)⟩
  ·simp only[h,decide_false,ih,List.mem_cons,Qw];exact⟨λh=>.inr h,λk=>k.elim (λk=>absurd k.1.symm h) (λk=>k)⟩
theorem Jjf{b:List (BA×α)} :kGet b e=none↔e ∉ b.map (·.1):=by
 simp only[kGet,Option.map_eq_none_iff,List.find?_eq_none,decide_eq_true_eq,QK,not_exists,not_and]
abbrev OuL:=List (BA×(Nat×Nat))
theorem JgD{o:OuL}{p:Nat}(h:MpAt w p (outE o))(hd:(o.map (·.1)).Nodup)(k:BA)(c:Bool):(Instr.lookup 268 (.map (some p)) (.string k) c).run prog w=.ok (if c then .tuple #[ouV ((kGet o k).getD (0,0)),.bool (kGet o k).isSome] else ouV ((kGet o k).getD (0,0))) w:=by
 cases hk:kGet o k with
 | none=>exact JaW (enc:=ouV) Jew h (Jjf.1 hk) c
 | some a=>exact Jce (enc:=ouV) Jew h hd ((Jc8 hd).1 hk) c
abbrev Chg:=BA×Bool×Bool×(Nat×Nat)×(Nat×Nat)
def Zz(o1 o2:OuL)(k:BA):Option Chg:=if (kGet o1 k).isSome=true/\(kGet o2 k).isSome=true/\(kGet o1 k).getD (0,0)=(kGet o2 k).getD (0,0) then none else some (k,(kGet o1 k).isSome,(kGet o2 k).isSome,(kGet o1 k).getD (0,0),(kGet o2 k).getD (0,0))
def chC(c:Chg):Array Value:= #[.string (c.1.extract 0 (c.1.size-1)),.int .i64 ((c.1.data.toList.getD (c.1.size-1) 0).toNat:Int),.bool c.2.1,.bool c.2.2.1,.int .u64 (c.2.2.2.1.1:Int),.int .u8 (c.2.2.2.1.2:Int),.int .u64 (c.2.2.2.2.1:Int),.int .u8 (c.2.2.2.2.2:Int)]
def ChgO(base:Nat)(w:World)(v:Value)(l:List Chg):Prop:=w.ownsRow base 119 8 v l.length (l.flatMap λc=>(chC c).toList)
theorem Jk0:(prog.info? 119).map (λi=>(i.zero,i.size,i.bytes))=some (some (.agg #[.string ⟨#[]⟩,.int .i64 0,.bool false,.bool false,.int .u64 0,.int .u8 0,.int .u64 0,.int .u8 0]),8,64):=by kernel_rfl
theorem Jdy{l:List Chg}(h:ChgO base w v l)(k:Nat)(x:Chg)(hk:w.heap[k]? =some (.cells (chC x) 119))(hl:l.length<=1000000000)(ty:TypeId)(hb:base<=w.heap.size):
  ∃v' w',(Builtin.append_ #[114,114] ty #[v,.slice (some ⟨k,0,none⟩) 1 1]).run prog w=.ok v' w'/\ChgO base w' v' (l++[x])/\World.grownBy w w' v.ownBlock:=by
 obtain⟨i,hi,hp⟩:=Option.map_eq_some_iff.1 Jk0;simp only[Qw]at hp;obtain⟨hz,hsz,hby⟩:=hp;obtain⟨v',w',hr,h2,h3,_⟩:=run_append_own (P:=prog) w base 114 ty 119 i _ 8 64 underlying114 hi hz hsz hby rfl (by omega) v l.length _ h ⟨k,0,none⟩ 1 1 (chC x).toList rfl (λj u hu=>by
  rw[Addr.add_lit];show w.cell? ⟨k,0+j,none⟩=some u;rw[Nat.zero_add,Ja hk,<-Array.getElem?_toList];exact hu) (λu hu=>by
  simp only[chC,List.mem_cons,QD,or_false]at hu
  rcases hu with rfl|rfl|rfl|rfl|rfl|rfl|rfl|rfl<;>rfl) (by simp only[maxLen];omega) (by omega) hb
 refine⟨v',w',hr,?_,h3⟩;unfold ChgO;rw[Qe,List.flatMap_append];simpa using h2
theorem ChgO.own{l:List Chg}(h:ChgO base w v l):∀k,v.ownBlock=some k->base<=k:=by
 intro k hk;obtain⟨_,⟨h,_⟩|⟨g,_,cur,h3,h4,_⟩⟩:=h
 ·rw[h]at hk;cases hk
 ·rw[h3]at hk;simp only[Value.ownBlock,Qh]at hk;rw[<-hk];exact h4
theorem ChgO.next{w':World}{l:List Chg}(h:ChgO base w v l)(k:Tch NoB w w'):ChgO base w' v l:=by
 obtain⟨h1,h2⟩:=h;refine⟨h1,h2.imp_right ?_⟩;rintro⟨g,cap,cur,h3,h4,h5,h6⟩;exact⟨g,cap,cur,h3,h4,(k.block _ (Jb h5) (λh=>h)).trans h5,h6⟩
theorem ChgO.shape{l:List Chg}(h:ChgO base w v l):∃a c,v=.slice a l.length c:=by
 obtain⟨_,⟨h,h0⟩|⟨g,cap,_,h,_⟩⟩:=h
 ·exact⟨none,0,by rw[h,h0]⟩
 ·exact⟨_,_,h⟩
structure CgI(o1 o2:OuL)(ks:List BA)(base:Nat)(w0:World)(k:Nat)(v:Value)(W:World):Prop where
 own:ChgO base W v ((ks.take k).filterMap (Zz o1 o2))
 tch:Tch (λj=>base<=j) w0 W
def JiG(o1 o2:OuL)(w:World)(v:Value)(w':World):Prop:=∃s:List BA,(s.Nodup/\∀x,x∈s↔x∈o1.map (·.1)\/x∈o2.map (·.1))/\ChgO w.heap.size w' v ((Xk s).filterMap (Zz o1 o2))/\Tch NoB w w'
theorem JfY(po1 po2:Nat)(o1 o2:OuL)(w:World)(h1:MpAt w po1 (outE o1))(h2:MpAt w po2 (outE o2))(d1:(o1.map (·.1)).Nodup)(d2:(o2.map (·.1)).Nodup)(hk1:∀q∈o1,1<=q.1.size/\q.1.size<=1000)(hk2:∀q∈o2,1<=q.1.size/\q.1.size<=1000)(hl:o1.length+o2.length<=1000000000):
  Calls prog 152 #[.map (some po1),.map (some po2)] w λe w'=>∃v,e=.returned v/\JiG o1 o2 w v w':=by
 have HCL:Hid (Calls prog 235 #[.map (some po1)] w _):=JiR po1 _ w h1;have HP:Hid (po1<w.heap.size/\po2<w.heap.size):=⟨(Jb h1),(Jb h2)⟩
 have HF:Hid (MpAt w po1 (outE o1)/\MpAt w po2 (outE o2)/\(o1.map (·.1)).Nodup/\(o2.map (·.1)).Nodup):=⟨h1,h2,d1,d2⟩
 have HKS:Hid ((∀q∈o1,1<=q.1.size/\q.1.size<=1000)/\(∀q∈o2,1<=q.1.size/\q.1.size<=1000)/\o1.length+o2.length<=1000000000):=⟨hk1,hk2,hl⟩
 clear h1 h2 d1 d2 hk1 hk2 hl;go_enter func152,ntmps152;go_wp2_with fail;refine HCL.o.mono ?_;rintro _ w1⟨rfl,hm1,ht1⟩;have HT1:Hid (Tch NoB w w1):=ht1;have HCP:Hid (Calls prog 236 #[.map (some w.heap.size),.map (some po2)] w1 _):=JkK w.heap.size po2 o1 o2 w1 hm1 (HF.o.2.1.next ht1 (λh=>h)) HF.o.2.2.1 (by have:=HP.o;omega);clear hm1 ht1 HCL;go_wp2_with fail;refine HCP.o.mono ?_;rintro _ w2⟨rfl,⟨l,hm2,hcp⟩,ht2⟩;have HT2:Hid (Tch NoB w w2):=HT1.o.trans ht2 (λj hj=>.inr (by omega));have HM2:Hid (MpAt w2 w.heap.size (outE l)):=hm2;have HCO:Hid (Jkd o1 o2 l):=hcp;have HLL:Hid (l.length<=1000000000):=by have:=XU (l.map (·.1)) (o1.map (·.1)++o2.map (·.1)) hcp.1 (λx hx=>by rw[QE];exact(hcp.2 x).1 hx);have h3:=HKS.o.2.2;simp only[QL,Qe]at this;show l.length<=1000000000;omega
 have HKO:Hid (Calls prog 237 #[.map (some w.heap.size)] w2 _):=Jms w.heap.size w2;clear hm2 hcp ht2 HCP;go_wp2_with fail;refine HKO.o.mono ?_;rintro _ w3⟨rfl,hw3⟩;have t3:Tch NoB w2 w3:=by rw[hw3];exact Ta _ _ _
 have HSO:Hid (Calls prog 233 #[.func (.func 306) #[] #[.pointer (some ⟨w2.heap.size,0,none⟩)]] w3 _):=JeF 306 _ l.length (λs=>s.Perm (l.map (·.1))) (enters_of func306 (by kernel_rfl) rfl) w3 HLL.o (λs hs=>by rw[hs.length_eq,QL];exact HLL.o) (Jk6 w2.heap.size w3.heap.size 3 w.heap.size (by omega) ouV l w3 (by rw[hw3];exact Qf _ _) (HM2.o.next t3 (λh=>h)) rfl);have HT3:Hid (Tch NoB w w3):=HT2.o.go t3;clear hw3 t3 HKO;go_wp2_with fail;refine HSO.o.mono ?_;rintro _ w4⟨v4,s,rfl,hs,hst,ht4⟩;have HT4:Hid (Tch NoB w w4):=HT3.o.go ht4;have HS:Hid (s.Nodup/\∀x,x∈s↔x∈o1.map (·.1)\/x∈o2.map (·.1)):=⟨hs.nodup_iff.2 HCO.o.1,λx=>by rw[hs.mem_iff];exact HCO.o.2 x⟩
 obtain⟨a4,c4,rfl,hc4⟩:=hst;obtain⟨ks,hks⟩:∃ks,ks=Xk s:=⟨_,rfl⟩
 rw[<-hks]at hc4 ⊢;obtain⟨n,hn⟩:∃n,n=ks.length:=⟨_,rfl⟩
 rw[<-hn];have HN:Hid (n=ks.length):=hn;have HLK:Hid (ks.length<=1000000000):=by show ks.length<=1000000000;rw[hks,JaX,hs.length_eq,QL];exact HLL.o
 have hnb:n<=1000000000:=by rw[hn];exact HLK.o
 have HKZ:Hid (∀x∈ks,1<=x.size/\x.size<=1000):=λx hx=>by
  have hx2:x∈s:=by rw[hks]at hx;unfold Xk at hx;obtain⟨y,hy,rfl⟩:=QK.1 hx;obtain⟨t,ht,rfl⟩:=QK.1 ((List.mergeSort_perm _ _).mem_iff.1 hy);exact ht
  rcases(HS.o.2 x).1 hx2 with h|h
  ·obtain⟨q,hq,rfl⟩:=QK.1 h;exact HKS.o.1 q hq
  ·obtain⟨q,hq,rfl⟩:=QK.1 h;exact HKS.o.2.1 q hq
 have HC4:Hid (∀i (h:i<ks.length),∃g,a4=some ⟨g,0,none⟩/\w4.cell? ⟨g,i,none⟩=some (.string ks[i])):=hc4;have HI0:Hid (CgI o1 o2 ks w4.heap.size w4 0 (.slice none 0 0) w4):=⟨⟨rfl,.inl ⟨rfl,rfl⟩⟩,Te _ _⟩
 have HKQ:Hid (ks=Xk s):=hks;clear hs ht4 hc4 hn HSO hks HM2 HCO HLL HKS;go_wp2;go_loopw [6,20] (λv6 i wr=>∃k:Nat,k<=n/\i=.int .i64 (k:Int)/\(∃a m c,v6=.slice a m c)/\Hid (CgI o1 o2 ks w4.heap.size w4 k v6 wr)) (λ_ i _=>n-(intOf i).toNat)
 case atStart=>exact⟨0,Nat.zero_le _,rfl,⟨_,_,_,rfl⟩,HI0⟩
 case round=>
  obtain⟨k,hk,rfl,⟨a6,m6,c6,rfl⟩,HI⟩:=hrel
  by_cases hlt:k<n
  ·have hkl:k<ks.length:=(by rw[<-HN.o];exact hlt);obtain⟨g4,rfl,hc⟩:=HC4.o k hkl;obtain⟨x,hx⟩:∃x,x=ks[k]:=⟨_,rfl⟩
   rw[<-hx]at hc;have hkz:=HKZ.o x (by rw[hx];exact Qx hkl);have HTK:Hid (ks.take (k+1)=ks.take k++[x]):=(by show ks.take (k+1)=_;rw[hx];exact QQ hkl);have e0:wr.cell? ⟨g4,k,none⟩=some (.string x):=(HI.o.tch.cell (p:=⟨g4,k,none⟩) (Qr _ _ hc) (by have:=Qr _ _ hc;show ¬w4.heap.size<=g4;simp only at this;omega)).trans hc;have HLO:Hid (∀V c,Tch (λj=>w4.heap.size<=j) w4 V->(Instr.lookup 268 (.map (some po1)) (.string x) c).run prog V=.ok (if c then .tuple #[ouV ((kGet o1 x).getD (0,0)),.bool (kGet o1 x).isSome] else ouV ((kGet o1 x).getD (0,0))) V/\(Instr.lookup 268 (.map (some po2)) (.string x) c).run prog V=.ok (if c then .tuple #[ouV ((kGet o2 x).getD (0,0)),.bool (kGet o2 x).isSome] else ouV ((kGet o2 x).getD (0,0))) V):=λV c hV=>by
    have hp:=HP.o;have hz:=HT4.o.size;exact⟨JgD ((HF.o.1.next HT4.o (λh=>h)).next hV (by omega)) HF.o.2.2.1 x c,JgD ((HF.o.2.1.next HT4.o (λh=>h)).next hV (by omega)) HF.o.2.2.2 x c⟩
   obtain⟨tb,htb⟩:∃tb,tb=x.extract 0 (x.size-1):=⟨_,rfl⟩
   obtain⟨nb,hnb2⟩:∃nb:Nat,nb=(x.data.toList.getD (x.size-1) 0).toNat:=⟨_,rfl⟩
   have HTN:Hid (tb=x.extract 0 (x.size-1)/\nb=(x.data.toList.getD (x.size-1) 0).toNat):=⟨htb,hnb2⟩
   have HCN:Hid (∀V,Calls prog 239 #[.string x] V λe w'=>e=.returned (.agg #[.string tb,.int .i64 (nb:Int)])/\Tch NoB V w'):=λV=>by rw[htb,hnb2];exact Jl9 x hkz.1 hkz.2 V
   clear htb hnb2;have HOF:Hid (Zz o1 o2 x=if (kGet o1 x).isSome=true/\(kGet o2 x).isSome=true/\(kGet o1 x).getD (0,0)=(kGet o2 x).getD (0,0) then none else some (x,(kGet o1 x).isSome,(kGet o2 x).isSome,(kGet o1 x).getD (0,0),(kGet o2 x).getD (0,0))):=rfl;obtain⟨X1,hX1⟩:∃X1,X1=(kGet o1 x).getD (0,0):=⟨_,rfl⟩
   obtain⟨X2,hX2⟩:∃X2,X2=(kGet o2 x).getD (0,0):=⟨_,rfl⟩
   obtain⟨m1,hm1⟩:∃m1,m1=(kGet o1 x).isSome:=⟨_,rfl⟩
   obtain⟨m2,hm2⟩:∃m2,m2=(kGet o2 x).isSome:=⟨_,rfl⟩
   rw[<-hX1,<-hX2,<-hm1,<-hm2]at HLO HOF;clear hX1 hX2 hm1 hm2;obtain⟨x1,y1⟩:=X1;obtain⟨x2,y2⟩:=X2;simp only[ouV]at HLO;have HH1:Hid (∀V,Tch (λj=>w4.heap.size<=j) w4 V->Calls prog 238 #[.map (some po1),.string x] V λe w'=>e=.returned (.bool m1)/\Tch NoB V w'):=λV hV=>JcK (HLO.o V true hV).1;have HH2:Hid (∀V,Tch (λj=>w4.heap.size<=j) w4 V->Calls prog 238 #[.map (some po2),.string x] V λe w'=>e=.returned (.bool m2)/\Tch NoB V w'):=λV hV=>JcK (HLO.o V true hV).2;have hlti:(k:Int)<(n:Int):=(by omega);have hk0:(0:Int)<=(k:Int):=(by omega);clear hc hx hkl hkz;go_wp2_with fail;refine(HH1.o wr HI.o.tch).mono ?_;rintro _ w5⟨rfl,ht5⟩;have HT5:Hid (Tch NoB wr w5):=ht5;have HI5:Hid (Tch (λj=>w4.heap.size<=j) w4 w5):=HI.o.tch.go ht5;clear ht5 HH1 e0;go_wp2_with fail;refine(HH2.o w5 HI5.o).mono ?_;rintro _ w6⟨rfl,ht6⟩;have HT6:Hid (Tch NoB wr w6):=HT5.o.go ht6;have HI6:Hid (Tch (λj=>w4.heap.size<=j) w4 w6):=HI5.o.go ht6;clear ht6 HH2;go_upto_region 8 with fail;obtain⟨B,hB⟩:∃B:Bool,B=decide (m1=true/\m2=true/\(x1,y1)=(x2,y2)):=⟨_,rfl⟩
   have HB:Hid (B=decide (m1=true/\m2=true/\(x1,y1)=(x2,y2))):=hB;clear hB;obtain⟨l1,l2⟩:=HLO.o w6 false HI6.o;simp only[Bool.false_eq_true,if_false]at l1 l2;go_cut [6,8,9,10,20,42] (λv6 v8 v9 v10 v20 v42 wx=>v6=.slice a6 m6 c6/\v8=.string x/\v9=.bool m1/\v10=.bool m2/\v20=.int .i64 (k:Int)/\v42=.bool B/\wx=w6)
   case first=>
    cases m1
    ·have hBf:B=false:=(by rw[HB.o];simp);subst hBf;go_wp2;go_meet;exact⟨rfl,rfl,rfl,rfl,rfl,rfl,rfl⟩
    ·cases m2
     ·have hBf:B=false:=(by rw[HB.o];simp);subst hBf;go_wp2;go_meet;exact⟨rfl,rfl,rfl,rfl,rfl,rfl,rfl⟩
     ·by_cases hx:x1=x2
      ·subst hx
       by_cases hy:y1=y2
       ·subst hy;have hBf:B=true:=(by rw[HB.o];simp);subst hBf;go_wp2;go_meet;exact⟨rfl,rfl,rfl,rfl,rfl,rfl,rfl⟩
       ·have hBf:B=false:=(by rw[HB.o];simp[hy]);subst hBf;have hyi:¬(y1:Int)=(y2:Int):=(by omega);go_wp2;go_meet;exact⟨rfl,rfl,rfl,rfl,rfl,rfl,rfl⟩
      ·have hBf:B=false:=(by rw[HB.o];simp[hx]);subst hBf;have hxi:¬(x1:Int)=(x2:Int):=(by omega);go_wp2;go_meet;exact⟨rfl,rfl,rfl,rfl,rfl,rfl,rfl⟩
   case rest=>
   obtain⟨rfl,rfl,rfl,rfl,rfl,rfl,hwc⟩:=hcut;have hwc2:=hwc.symm;subst hwc2;clear hwc
   cases B
   ·have HNO:Hid (Zz o1 o2 x=some (x,m1,m2,(x1,y1),(x2,y2))):=by
     show Zz o1 o2 x=_;rw[HOF.o,if_neg (λh=>by have:=HB.o;rw[decide_eq_true h]at this;cases this)]
    have HAP:Hid (∀V,Tch NoB w6 V->∃a9 m9 c9 w9,(Builtin.append_ #[114,114] 114 #[.slice a6 m6 c6,.slice (some ⟨V.heap.size,0,none⟩) 1 1]).run prog (V.alloc (.cells #[.string tb,.int .i64 (nb:Int),.bool m1,.bool m2,.int .u64 (x1:Int),.int .u8 (y1:Int),.int .u64 (x2:Int),.int .u8 (y2:Int)] 119))=.ok (.slice a9 m9 c9) w9/\((Instr.lookup 268 (.map (some po1)) (.string x) false).run prog w9=.ok (.agg #[.int .u64 (x1:Int),.int .u8 (y1:Int)]) w9/\(Instr.lookup 268 (.map (some po2)) (.string x) false).run prog w9=.ok (.agg #[.int .u64 (x2:Int),.int .u8 (y2:Int)]) w9)/\Hid (CgI o1 o2 ks w4.heap.size w4 (k+1) (.slice a9 m9 c9) w9)):=λV hV=>by
     have tA:=Ta NoB V (.cells #[.string tb,.int .i64 (nb:Int),.bool m1,.bool m2,.int .u64 (x1:Int),.int .u8 (y1:Int),.int .u64 (x2:Int),.int .u8 (y2:Int)] 119);have tr:=(HT6.o.go hV).go tA;have hown:=HI.o.own.next tr;have hI2:=HI.o.tch.go tr;have hlen:((ks.take k).filterMap (Zz o1 o2)).length<=1000000000:=Qm (List.length_filterMap_le _ _) (by rw[QB];have:=HLK.o;omega);obtain⟨v9,w9,hrun,hown9,hg9⟩:=Jdy hown V.heap.size (x,m1,m2,(x1,y1),(x2,y2)) (by rw[HTN.o.1,HTN.o.2];exact Qf _ _) hlen 114 hI2.size;obtain⟨a9,c9,hv9⟩:=hown9.shape;generalize (((ks.take k).filterMap (Zz o1 o2))++[(x,m1,m2,(x1,y1),(x2,y2))]).length=m9 at hv9;subst hv9;have t9:=hI2.trans (Tg hg9) (λj hj=>.inl (hown.own j hj.symm));have hl9:=HLO.o w9 false t9;simp only[Bool.false_eq_true,if_false]at hl9;refine⟨a9,m9,c9,w9,hrun,hl9,?_,t9⟩;rw[HTK.o,List.filterMap_append];simpa [HNO.o]using hown9
    have HLS:Hid (∀V,Tch NoB w6 V->(Instr.lookup 268 (.map (some po1)) (.string x) false).run prog V=.ok (.agg #[.int .u64 (x1:Int),.int .u8 (y1:Int)]) V/\(Instr.lookup 268 (.map (some po2)) (.string x) false).run prog V=.ok (.agg #[.int .u64 (x2:Int),.int .u8 (y2:Int)]) V):=λV hV=>by
     have:=HLO.o V false (HI6.o.go hV);simpa using this
    have HTd:Hid (Tch NoB w6 w6.drew):=Td _ w6 1;go_upto_region 9 with fail;obtain⟨l1,l2⟩:=HLS.o _ HTd.o;go_region_held3 (λV=>(Instr.lookup 268 (.map (some po1)) (.string x) false).run prog V=.ok (.agg #[.int .u64 (x1:Int),.int .u8 (y1:Int)]) V/\(Instr.lookup 268 (.map (some po2)) (.string x) false).run prog V=.ok (.agg #[.int .u64 (x2:Int),.int .u8 (y2:Int)]) V) (go_keep) ((first
     | (go_at_call 239;refine(HCN.o _).mono ?_;rintro _ w8⟨rfl,ht8⟩;have HT8:Hid (Tch NoB w6 w8):=HTd.o.go ht8;obtain⟨q1,q2⟩:=HLS.o _ HT8.o;obtain⟨q3,q4⟩:=HLS.o _ (HT8.o.go (Ta _ w8 (.cells #[.string tb,.int .i64 (nb:Int),.bool m1,.bool m2,.int .u64 (x1:Int),.int .u8 (y1:Int),.int .u64 (x2:Int),.int .u8 (y2:Int)] 119)));obtain⟨a9,m9,c9,w9,hrun9,⟨q5,q6⟩,HNEW⟩:=HAP.o w8 HT8.o;clear ht8)
     | (refine Yo rfl _ _ 114 rfl rfl rfl hrun9 ?_)))
    all_goals go_wp2
    all_goals go_roundw
    all_goals first
     | exact⟨k+1,by omega,by go_num,⟨_,_,_,rfl⟩,HNEW⟩
     | (simp[intOf];omega)
   ·have HNO:Hid (Zz o1 o2 x=none):=by
     show Zz o1 o2 x=_;rw[HOF.o,if_pos (of_decide_eq_true HB.o.symm)]
    have HNEW:Hid (CgI o1 o2 ks w4.heap.size w4 (k+1) (.slice a6 m6 c6) w6):=(by refine⟨?_,HI6.o⟩;rw[HTK.o,List.filterMap_append];simpa [HNO.o]using HI.o.own.next HT6.o);go_wp2;go_roundw
    case rel=>exact⟨k+1,by omega,by go_num,⟨_,_,_,rfl⟩,HNEW⟩
    case measure=>simp[intOf];omega
  ·have HK:Hid (k=n):=(by omega:k=n)
   have hge:¬(k:Int)<(n:Int):=(by omega);go_wp2;go_ret;have e:ks.take k=ks:=QR (by rw[HK.o,HN.o];exact Ql _);obtain⟨h5,h6⟩:=HI.o;rw[e]at h5;refine⟨_,rfl,s,HS.o,?_,HT4.o.trans h6 (λj hj=>.inr (by have:=HT4.o.size;omega))⟩;rw[<-HKQ.o];obtain⟨h7,h8⟩:=h5;refine⟨h7,h8.imp_right ?_⟩;rintro⟨g,cap,cur,h9,h10,h11⟩;exact⟨g,cap,cur,h9,by have:=HT4.o.size;omega,h11⟩
