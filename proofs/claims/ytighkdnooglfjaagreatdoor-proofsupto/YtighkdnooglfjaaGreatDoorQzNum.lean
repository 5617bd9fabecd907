import Derived.Test.YtighkdnooglfjaaGreatDoorQzRws
open Go renaming Calls->aB,Value->aG,World->aA
open Go.Ending renaming returned->aC
open Go.IntKind renaming i64->I,u32->aF,u64->aD,u8->aE,u32->lO
open Go.Obj renaming cells->T
open Go.Proofs.Tryz renaming prog->N
open Go.RowKit renaming Hid->J
open Go.Value renaming agg->aH,iface->aJ,int->O,nilIface->aK,pointer->X,slice->R,string->L,tuple->aI
open Option renaming none->Y,some->Z
open Or renaming inl->aM,inr->aN
open Int renaming natCast_nonneg->lG
open List renaming replicate->lC,take_append_of_le_length->lD,drop_eq_nil_of_le->lI,mem_append_right->lJ,mem_append_left->lK,replicate_succ->lM
open Nat renaming mod_eq_of_lt->lF
open UInt8 renaming toNat_lt->lH,ofNat->lN
open Go.World renaming drewN_zero->lE
set_option maxRecDepth 100000
set_option maxHeartbeats 1000000
namespace Go.Proofs.YtighkdnooglfjaaGreatDoor
open Tryz
open Go.RowKit

variable {wj x y:Int}{B aZ b cnt gp i k lim:Nat}{E:Nat->Addr}{S:Nat->Prop}{o o' o2:Obj}{g g' g1 g2:Option Nat}{α:Type}{e e' err v:aG}{w w' w1 w2 w3:aA}
theorem JaV(a:Addr)(w:aA):(method 641 170 (X (Z a)) "trove/wire.number").run N w=.ok (382,X (Z a)) w:=by kernel_rfl
theorem Jb3(a:Addr)(w:aA):(method 641 170 (X (Z a)) "trove/wire.text").run N w=.ok (385,X (Z a)) w:=by kernel_rfl
theorem JaW(a:Addr)(w:aA):(method 641 153 (X (Z a)) "trove/wire.number").run N w=.ok (378,X (Z a)) w:=by kernel_rfl
theorem Jb4(a:Addr)(w:aA):(method 641 153 (X (Z a)) "trove/wire.text").run N w=.ok (381,X (Z a)) w:=by kernel_rfl
theorem XO{p:PS}{n:Nat}(hp:Jd w b g wj e p):
  (w.drewN n).cell? ⟨b,2,Y⟩=Z e/\(w.drewN n).frozen? ⟨b,2,Y⟩=false/\Jd ((w.drewN n).setCell ⟨b,2,Y⟩ e') b g wj e' p/\M (λk=>k=b) w ((w.drewN n).setCell ⟨b,2,Y⟩ e'):=by
 cases p with
 | rd pre rest=>
  have hZ:=hp.2;have h1:=Qj (w.drewN n) b 2 _ _ (0,0) e' hZ;refine⟨Ja hZ,Qg _ _ _ _ _ hZ,?_,?_⟩
  ·exact⟨hp.1,by rw[h1,Qi (w.drewN n) _ _ _ _ _ hZ];rfl⟩
  ·rw[h1];exact(Td _ w n).trans (Ts _ _ _) (λj h=>aM h)
 | wr done=>
  have H5:=hp.lt;obtain⟨v,hv,kU,hZ⟩:=hp;have h1:=Qj (w.drewN n) b 2 _ _ (0,0) e' hZ;have ht:M (λk=>k=b) w ((w.drewN n).setCell ⟨b,2,Y⟩ e'):=by rw[h1];exact(Td _ w n).trans (Ts _ _ _) (λj h=>aM h)
  refine⟨Ja hZ,Qg _ _ _ _ _ hZ,⟨v,hv,?_,by rw[h1,Qi (w.drewN n) _ _ _ _ _ hZ];rfl⟩,ht⟩;exact kU.grown (row:=Z b) ⟨ht.os,ht.tape,ht.output,ht.size,λk hk hn=>ht.block k hk (λe=>hn (by rw[e]))⟩ (λk e=>by cases e;exact aM (by omega))

theorem Jgc(b:Nat)(wj:Int)(x:Int)(pre rest:List UInt8)(n:Nat)(w:aA)(hp:Jd w b Y wj aK (.rd pre rest))(hb:pre.length+rest.length<=10000000000000)(hn:n<=rest.length)(h8:n<=8):
  aB N 138 #[X (Z ⟨b,0,Y⟩),O aD x,O I (n:Int)] w λe w'=>e=aC (O aD (numL (rest.take n):Int))/\Jd w' b Y wj aK (.rd (pre++rest.take n) (rest.drop n))/\M (λk=>k=b) w w':=by
 have hZ:=hp.2;obtain⟨c0, -,c2⟩:=rows hZ;have hm:=JaV ⟨b,0,Y⟩;go_enter func138,ntmps138;go_wp2_with fail;refine(Jgm b wj aK _ pre rest n _ hp hb hn h8).mono ?_;rintro _ w1⟨rfl,Hs,ht⟩;obtain⟨d2,f2,q1,q2⟩:=XO (n:=0) (e':=aK) Hs;rw[lE]at d2 f2 q1 q2;have Q1:J (Jd _ _ _ _ _ _):=q1;have Q2:J (M _ _ _):=q2;have HT:J (M _ _ _):=ht;go_wp2;go_ret;exact⟨rfl,Q1.out,HT.o.trans Q2.out (λj h=>aM h)⟩
theorem Jgb(E:Nat->Addr)(b:Nat)(wj:Int)(x:Int)(pre rest:List UInt8)(n:Nat)(w:aA)(hE:Env E w)(hp:Jd w b Y wj aK (.rd pre rest))(hb:pre.length+rest.length<=10000000000000)(hn:rest.length<n):
  aB N 138 #[X (Z ⟨b,0,Y⟩),O aD x,O I (n:Int)] w λe w'=>e=aC (O aD 0)/\Jd w' b Y wj (eV E 7) (.rd pre rest)/\M (λk=>k=b) w w':=by
 have hZ:=hp.2;obtain⟨c0, -,c2⟩:=rows hZ;have hm:=JaV ⟨b,0,Y⟩;go_enter func138,ntmps138;go_wp2_with fail;refine(Jgl E b wj aK _ pre rest n _ hE hp hb hn).mono ?_;rintro _ w1⟨rfl,j,rfl⟩;obtain⟨d2,f2,q1,q2⟩:=XO (n:=j) (e':=eV E 7) hp;have Q1:J (Jd _ _ _ _ _ _):=q1;have Q2:J (M _ _ _):=q2;go_wp2;go_ret;exact⟨rfl,Q1.out,Q2.out⟩
theorem Jgd(E:Nat->Addr)(b:Nat)(wj:Int)(x:Nat)(g:Option Nat)(done:List UInt8)(n:Nat)(w:aA)(hE:Env E w)(hp:Jd w b g wj aK (.wr done))(h8:n<=8)(hn:x/2 ^ (8*n) ≠ 0):
  aB N 138 #[X (Z ⟨b,0,Y⟩),O aD (x:Int),O I (n:Int)] w λe w'=>e=aC (O aD 0)/\Jd w' b g wj (eV E 7) (.wr done)/\M (λk=>k=b) w w':=by
 have hZ:=hp.choose_spec.2.2;obtain⟨c0, -,c2, -⟩:=rows hZ;have hm:=JaW ⟨b,0,Y⟩;go_enter func138,ntmps138;go_wp2_with fail;refine(JgA E b x n _ hE h8 hn).mono ?_;rintro _ w1⟨rfl,j,rfl⟩;obtain⟨d2,f2,q1,q2⟩:=XO (n:=j) (e':=eV E 7) hp;have Q1:J _:=q1;have Q2:J _:=q2;go_wp2;go_ret;exact⟨rfl,Q1.out,Q2.out⟩
theorem Jjc(E:Nat->Addr)(b:Nat)(wj:Int)(x:aG)(pre rest:List UInt8)(n:Nat)(w:aA)(hE:Env E w)(hp:Jd w b Y wj aK (.rd pre rest))(hb:pre.length+rest.length<=10000000000000)(hn:rest.length<n):
  aB N 209 #[X (Z ⟨b,0,Y⟩),x,O I (n:Int)] w λe w'=>e=aC (L ⟨#[]⟩)/\Jd w' b Y wj (eV E 7) (.rd pre rest)/\M (λk=>k=b) w w':=by
 have hZ:=hp.2;obtain⟨c0, -,c2⟩:=rows hZ;have hm:=Jb3 ⟨b,0,Y⟩;go_enter func209,ntmps209;go_wp2_with fail;refine(Jee E b wj aK _ pre rest n _ hE hp hb hn).mono ?_;rintro _ w1⟨rfl,j,rfl⟩;obtain⟨d2,f2,q1,q2⟩:=XO (n:=j) (e':=eV E 7) hp;have Q1:J (Jd _ _ _ _ _ _):=q1;have Q2:J (M _ _ _):=q2;go_wp2;go_ret;exact⟨rfl,Q1.out,Q2.out⟩
theorem Jje(E:Nat->Addr)(b:Nat)(wj:Int)(s:BA)(g:Option Nat)(done:List UInt8)(n:Nat)(w:aA)(hE:Env E w)(hp:Jd w b g wj aK (.wr done))(hn:s.size ≠ n):
  aB N 209 #[X (Z ⟨b,0,Y⟩),L s,O I (n:Int)] w λe w'=>e=aC (L ⟨#[]⟩)/\Jd w' b g wj (eV E 7) (.wr done)/\M (λk=>k=b) w w':=by
 have hZ:=hp.choose_spec.2.2;obtain⟨c0, -,c2, -⟩:=rows hZ;have hm:=Jb4 ⟨b,0,Y⟩;go_enter func209,ntmps209;go_wp2_with fail;refine(Jjq E b s n _ hE hn).mono ?_;rintro _ w1⟨rfl,j,rfl⟩;obtain⟨d2,f2,q1,q2⟩:=XO (n:=j) (e':=eV E 7) hp;have Q1:J _:=q1;have Q2:J _:=q2;go_wp2;go_ret;exact⟨rfl,Q1,Q2⟩
theorem Jjd(b:Nat)(wj:Int)(x:aG)(pre rest:List UInt8)(n:Nat)(w:aA)(hp:Jd w b Y wj aK (.rd pre rest))(hb:pre.length+rest.length<=10000000000000)(hn:n<=rest.length):
  aB N 209 #[X (Z ⟨b,0,Y⟩),x,O I (n:Int)] w λe w'=>e=aC (L ⟨(rest.take n).toArray⟩)/\Jd w' b Y wj aK (.rd (pre++rest.take n) (rest.drop n))/\M (λk=>k=b) w w':=by
 have hZ:=hp.2;obtain⟨c0, -,c2⟩:=rows hZ;have hm:=Jb3 ⟨b,0,Y⟩;go_enter func209,ntmps209;go_wp2_with fail;refine(Jef b wj aK _ pre rest n _ hp hb hn).mono ?_;rintro _ w1⟨rfl,Hs,ht⟩;obtain⟨d2,f2,q1,q2⟩:=XO (n:=0) (e':=aK) Hs;rw[lE]at d2 f2 q1 q2;have Q1:J (Jd _ _ _ _ _ _):=q1;have Q2:J (M _ _ _):=q2;have HT:J (M _ _ _):=ht;go_wp2;go_ret;exact⟨rfl,Q1.out,HT.o.trans Q2.out (λj h=>aM h)⟩
theorem Jge(b:Nat)(g:Option Nat)(wj:Int)(x:Nat)(done:List UInt8)(n:Nat)(w:aA)(hp:Jd w b g wj aK (.wr done))(h8:n<=8)(hn:x/2 ^ (8*n)=0)(hd:done.length<=10000000000000):
  aB N 138 #[X (Z ⟨b,0,Y⟩),O aD (x:Int),O I (n:Int)] w λe w'=>e=aC (O aD (x:Int))/\∃g',Jd w' b g' wj aK (.wr (done++beL x n n))/\Jq w g g'/\M (λk=>k=b\/Z k=g) w w':=by
 have hZ:=hp.choose_spec.2.2;obtain⟨c0, -,c2, -⟩:=rows hZ;have hm:=JaW ⟨b,0,Y⟩;go_enter func138,ntmps138;go_wp2_with fail;refine(JgB b g wj aK done x n _ hp h8 hn hd).mono ?_;rintro _ w1⟨rfl,g1,Hs,cX,ht⟩;obtain⟨d2,f2,q1,q2⟩:=XO (n:=0) (e':=aK) Hs;rw[lE]at d2 f2 q1 q2;have Q1:J _:=q1;have Q2:J _:=q2;have HM:J _:=cX;have HT:J _:=ht;go_wp2;go_ret;exact⟨rfl,g1,Q1.out,HM.o,HT.o.trans Q2.out (λj h=>aM (aM h))⟩
theorem Jjf(b:Nat)(g:Option Nat)(wj:Int)(s:BA)(done:List UInt8)(n:Nat)(w:aA)(hp:Jd w b g wj aK (.wr done))(hn:s.size=n)(hd:done.length+n<=10000000000000):
  aB N 209 #[X (Z ⟨b,0,Y⟩),L s,O I (n:Int)] w λe w'=>e=aC (L s)/\∃g',Jd w' b g' wj aK (.wr (done++s.data.toList))/\Jq w g g'/\M (λk=>k=b\/Z k=g) w w':=by
 have hZ:=hp.choose_spec.2.2;obtain⟨c0, -,c2, -⟩:=rows hZ;have hm:=Jb4 ⟨b,0,Y⟩;go_enter func209,ntmps209;go_wp2_with fail;refine(Jjr b g wj aK done s n _ hp hn hd).mono ?_;rintro _ w1⟨rfl,g1,Hs,cX,ht⟩;obtain⟨d2,f2,q1,q2⟩:=XO (n:=0) (e':=aK) Hs;rw[lE]at d2 f2 q1 q2;have Q1:J _:=q1;have Q2:J _:=q2;have HM:J _:=cX;have HT:J _:=ht;go_wp2;go_ret;exact⟨rfl,g1,Q1.out,HM.o,HT.o.trans Q2.out (λj h=>aM (aM h))⟩

def PS.num(x k:Nat):PS->Option (Nat×PS)
 | .rd pre rest=>if k<=rest.length then Z (numL (rest.take k),.rd (pre++rest.take k) (rest.drop k)) else Y
 | .wr done=>if x/2 ^ (8*k)=0 then Z (x,.wr (done++beL x k k)) else Y
def PS.txt(s:List UInt8)(k:Nat):PS->Option (List UInt8×PS)
 | .rd pre rest=>if k<=rest.length then Z (rest.take k,.rd (pre++rest.take k) (rest.drop k)) else Y
 | .wr done=>if s.length=k then Z (s,.wr (done++s)) else Y
def PS.len:PS->Nat
 | .rd pre rest=>pre.length+rest.length
 | .wr done=>done.length
def XI(w w':aA)(b:Nat)(g:Option Nat)(wj:Int)(p':PS):Prop:=
 ∃g',Jd w' b g' wj aK p'/\Jq w g g'/\M (λk=>k=b\/Z k=g) w w'
theorem XI.trans{p2:PS}(hm:Jq w g g1)(h:M (λk=>k=b\/Z k=g) w w1)(k:XI w1 w2 b g1 wj p2):XI w w2 b g wj p2:=by
 obtain⟨g2,h1,h2,h3⟩:=k;exact⟨g2,h1,hm.trans h2 h.size,Yx h h3 hm⟩
theorem Xu(b:Nat)(g:Option Nat)(wj:Int)(x n m:Nat)(p p':PS)(w:aA)(hp:Jd w b g wj aK p)(h8:n<=8)(hd:p.len<=10000000000000)(h:p.num x n=Z (m,p')):
  aB N 138 #[X (Z ⟨b,0,Y⟩),O aD (x:Int),O I (n:Int)] w λe w'=>e=aC (O aD (m:Int))/\XI w w' b g wj p':=by
 cases p with
 | rd pre rest=>
  simp only[PS.num]at h
  split at h
  ·cases h
   obtain rfl:=hp.1;exact(Jgc b wj x pre rest n w hp hd ‹_› h8).mono λe w' ⟨h1,h2,h3⟩=>⟨h1,Y,h2,aM rfl,h3.mono (λj hj=>aM (aM hj))⟩
  ·cases h
 | wr done=>
  simp only[PS.num]at h
  split at h
  ·cases h
   exact Jge b g wj x done n w hp h8 ‹_› hd
  ·cases h
theorem Zm(E:Nat->Addr)(b:Nat)(g:Option Nat)(wj:Int)(x n:Nat)(p:PS)(w:aA)(hE:Env E w)(hp:Jd w b g wj aK p)(h8:n<=8)(hd:p.len<=10000000000000)(h:p.num x n=Y):
  aB N 138 #[X (Z ⟨b,0,Y⟩),O aD (x:Int),O I (n:Int)] w λe w'=>e=aC (O aD 0)/\Jd w' b g wj (eV E 7) p/\M (λk=>k=b) w w':=by
 cases p with
 | rd pre rest=>
  simp only[PS.num]at h
  split at h
  ·cases h
  ·obtain rfl:=hp.1;exact Jgb E b wj x pre rest n w hE hp hd (by omega)
 | wr done=>
  simp only[PS.num]at h
  split at h
  ·cases h
  ·exact Jgd E b wj x g done n w hE hp h8 ‹_›
theorem Jan(b:Nat)(g:Option Nat)(wj:Int)(s:BA)(n:Nat)(m:List UInt8)(p p':PS)(w:aA)(hp:Jd w b g wj aK p)(hd:p.len+n<=10000000000000)(h:p.txt s.data.toList n=Z (m,p')):
  aB N 209 #[X (Z ⟨b,0,Y⟩),L s,O I (n:Int)] w λe w'=>e=aC (L ⟨m.toArray⟩)/\XI w w' b g wj p':=by
 cases p with
 | rd pre rest=>
  simp only[PS.txt]at h
  split at h
  ·cases h
   obtain rfl:=hp.1;exact(Jjd b wj _ pre rest n w hp (by simp only[PS.len]at hd;omega) ‹_›).mono λe w' ⟨h1,h2,h3⟩=>⟨h1,Y,h2,aM rfl,h3.mono (λj hj=>aM (aM hj))⟩
  ·cases h
 | wr done=>
  simp only[PS.txt]at h
  split at h
  ·cases h
   rename_i hl;exact(Jjf b g wj s done n w hp (by simpa using hl) hd).mono λe w' ⟨h1,h2⟩=>⟨by rw[h1],h2⟩
  ·cases h
theorem JfK(E:Nat->Addr)(b:Nat)(g:Option Nat)(wj:Int)(s:BA)(n:Nat)(p:PS)(w:aA)(hE:Env E w)(hp:Jd w b g wj aK p)(hd:p.len<=10000000000000)(h:p.txt s.data.toList n=Y):
  aB N 209 #[X (Z ⟨b,0,Y⟩),L s,O I (n:Int)] w λe w'=>e=aC (L ⟨#[]⟩)/\Jd w' b g wj (eV E 7) p/\M (λk=>k=b) w w':=by
 cases p with
 | rd pre rest=>
  simp only[PS.txt]at h
  split at h
  ·cases h
  ·obtain rfl:=hp.1;exact Jjc E b wj _ pre rest n w hE hp hd (by omega)
 | wr done=>
  simp only[PS.txt]at h
  split at h
  ·cases h
  ·rename_i hl;exact Jje E b wj s g done n w hE hp (by simpa using hl)
theorem Jd.errCell{p:PS}(hp:Jd w b g wj e p):w.cell? ⟨b,2,Y⟩=Z e:=(XO (n:=0) (e':=e) hp).1
theorem Jax(b:Nat)(g:Option Nat)(wj:Int)(x:aG)(n:aG)(p:PS)(t:TypeId)(v:aG)(w:aA)(hp:Jd w b g wj (aJ t v) p):
  aB N 138 #[X (Z ⟨b,0,Y⟩),x,n] w λe w'=>e=aC (O aD 0)/\w=w':=by
 have c2:=hp.errCell;clear hp;go_enter func138,ntmps138;go_wp2;go_ret;exact⟨rfl,rfl⟩
theorem Jh3(b:Nat)(g:Option Nat)(wj:Int)(x:aG)(n:aG)(p:PS)(t:TypeId)(v:aG)(w:aA)(hp:Jd w b g wj (aJ t v) p):
  aB N 209 #[X (Z ⟨b,0,Y⟩),x,n] w λe w'=>e=aC (L ⟨#[]⟩)/\w=w':=by
 have c2:=hp.errCell;clear hp;go_enter func209,ntmps209;go_wp2;go_ret;exact⟨rfl,rfl⟩
theorem ZP(x k m:Nat)(p p1:PS)(h:p.num x k=Z (m,p1)):p1.len<=p.len+k:=by
 cases p<;>simp only[PS.num]at h<;>split at h<;>cases h<;>simp[PS.len,Jf]<;>omega
theorem Jgw(s t:List UInt8)(k:Nat)(p p1:PS)(h:p.txt s k=Z (t,p1)):p1.len<=p.len+k:=by
 cases p<;>simp only[PS.txt]at h<;>split at h<;>cases h<;>simp[PS.len]<;>omega

def PS.out(a o:Nat)(p:PS):Option ((Nat×Nat)×PS):=
 match p.num a 8 with
 | none=>Y
 | some (a',p1)=>match p1.num o 1 with
  | none=>Y
  | some (o',p2)=>Z ((a',o'),p2)
def JD(n:Int):Nat:=(n % 18446744073709551616).toNat
def PS.coin(wj:Nat)(c:BA×Int)(p:PS):Option ((BA×Int)×PS):=
 match p.txt c.1.data.toList wj with
 | none=>Y
 | some (t,p1)=>match p1.num (JD c.2) 1 with
  | none=>Y
  | some (m,p2)=>if m<3 then Z ((⟨t.toArray⟩,(m:Int)),p2) else Y
def PS.coins(wj:Nat):List (BA×Int)->PS->Option (List (BA×Int)×PS)
 | [],p=>Z ([],p)
 | x::r,p=>match p.coin wj x with
  | none=>Y
  | some (y,p1)=>match PS.coins wj r p1 with
   | none=>Y
   | some (ys,p2)=>Z (y::ys,p2)
def PS.outs:List (Nat×Nat)->PS->Option (List (Nat×Nat)×PS)
 | [],p=>Z ([],p)
 | x::r,p=>match p.out x.1 x.2 with
  | none=>Y
  | some (y,p1)=>match PS.outs r p1 with
   | none=>Y
   | some (ys,p2)=>Z (y::ys,p2)
def Yy(l:List (BA×Int))(cnt:Nat):List (BA×Int):=if l=[] then lC cnt (⟨#[]⟩,0) else l
def Zd(l:List (Nat×Nat))(cnt:Nat):List (Nat×Nat):=if l=[] then lC cnt (0,0) else l
def PS.listC(wj least most:Nat)(l:List (BA×Int))(p:PS):Option (List (BA×Int)×PS):=
 match p.num l.length 1 with
 | none=>Y
 | some (cnt,p1)=>if cnt<least\/most<cnt then Y else PS.coins wj (Yy l cnt) p1
def PS.listO(least most:Nat)(l:List (Nat×Nat))(p:PS):Option (List (Nat×Nat)×PS):=
 match p.num l.length 1 with
 | none=>Y
 | some (cnt,p1)=>if cnt<least\/most<cnt then Y else PS.outs (Zd l cnt) p1
abbrev TxL:=List (BA×Int)×List (Nat×Nat)
def PS.tx(wj:Nat)(t:TxL)(p:PS):Option (TxL×PS):=
 match p.listC wj 1 3 t.1 with
 | none=>Y
 | some (ys,p1)=>match p1.listO 0 3 t.2 with
  | none=>Y
  | some (zs,p2)=>Z ((ys,zs),p2)
def PS.txs(wj:Nat):List TxL->PS->Option (List TxL×PS)
 | [],p=>Z ([],p)
 | x::r,p=>match p.tx wj x with
  | none=>Y
  | some (y,p1)=>match PS.txs wj r p1 with
   | none=>Y
   | some (ys,p2)=>Z (y::ys,p2)
def Zq(ts:List TxL)(cnt:Nat):List TxL:=if ts=[] then lC cnt ([],[]) else ts
def PS.body(wj:Nat)(ts:List TxL)(p:PS):Option (List TxL×PS):=
 match p.num ts.length 1 with
 | none=>Y
 | some (cnt,p1)=>if 3<cnt then Y else PS.txs wj (Zq ts cnt) p1
def PS.hdr(wj:Nat)(h:Nat×BA×BA×BA)(p:PS):Option ((Nat×BA×BA×BA)×PS):=
 match p.num h.1 4 with
 | none=>Y
 | some (n,p1)=>match p1.txt h.2.1.data.toList wj with
  | none=>Y
  | some (t1,p2)=>match p2.txt h.2.2.1.data.toList wj with
   | none=>Y
   | some (t2,p3)=>match p3.txt h.2.2.2.data.toList wj with
    | none=>Y
    | some (t3,p4)=>Z ((n,⟨t1.toArray⟩,⟨t2.toArray⟩,⟨t3.toArray⟩),p4)
def Jt(l:List (Nat×Nat))(k:Nat):Nat:=((l.take k).map (·.1)).sum
def Xm(l1 l2:List (Nat×Nat)):Prop:=18446744073709551616<=Jt l1 l1.length\/18446744073709551616<=Jt l2 l2.length\/Jt l1 l1.length<Jt l2 l2.length

def Jbz(E:Nat->Addr)(w w':aA)(b:Nat)(g:Option Nat)(wj:Int):Prop:=
 ∃g' p',Jd w' b g' wj (eV E 7) p'/\Jq w g g'/\M (λk=>k=b\/Z k=g) w w'
theorem M.allocs(S:Nat->Prop)(w:aA)(o o':Obj):M S w ((w.alloc o).alloc o'):=(Ta S w o).trans (Ta S _ o') (λ_ h=>aM h)
theorem Jd.allocs{p:PS}(h:Jd w b g wj err p)(o o':Obj):Jd ((w.alloc o).alloc o') b g wj err p:=
 h.tch (M.allocs D w o o') (λh=>h) (λ_ _ h=>h)
theorem Env.allocs(h:Env E w)(o o':Obj):Env E ((w.alloc o).alloc o'):=h.tch (M.allocs D w o o') noE
theorem set2(w:aA)(g:Nat)(t:TypeId)(a b v0 v1:aG)(h:w.heap[g]? =Z (T #[a,b] t (0,0))):
  (w.setCell ⟨g,0,Y⟩ v0).setCell ⟨g,1,Y⟩ v1=w.setRow g #[v0,v1]:=by
 rw[Qj w g 0 _ t (0,0) v0 h,Qj _ g 1 _ t (0,0) v1 (Qi _ _ _ _ _ _ h),QI];refine congrArg (w.setRow g) ?_;simp
theorem XI.fresh{p p2:PS}(_hp:Jd w b g wj err p)(o o':Obj)(hm:Jq ((w.alloc o).alloc o') g g2)(ht:M (λk=>k=b\/Z k=g) ((w.alloc o).alloc o') w2)
 (kJ:Jd w3 b g2 wj aK p2) (h3:M (λj=>j=k) w2 w3) (hk:w.heap.size<=k):XI w w3 b g wj p2:=by
 refine⟨g2,kJ,?_,((M.allocs _ w o o').trans ht (λ_ h=>aM h)).trans h3 (λj hj=>by subst hj;exact aN hk)⟩
 rcases hm with hm|⟨i,hi,zi⟩
 ·exact aM hm
 ·exact aN ⟨i,hi,by simp at zi;omega⟩
theorem Jbz.fresh{p p2:PS}(_hp:Jd w b g wj err p)(o o':Obj)(hm:Jq ((w.alloc o).alloc o') g g2)(ht:M (λk=>k=b\/Z k=g) ((w.alloc o).alloc o') w2)
 (kJ:Jd w3 b g2 wj (eV E 7) p2) (h3:M (λj=>j=k) w2 w3) (hk:w.heap.size<=k):Jbz E w w3 b g wj:=by
 refine⟨g2,p2,kJ,?_,((M.allocs _ w o o').trans ht (λ_ h=>aM h)).trans h3 (λj hj=>by subst hj;exact aN hk)⟩
 rcases hm with hm|⟨i,hi,zi⟩
 ·exact aM hm
 ·exact aN ⟨i,hi,by simp at zi;omega⟩
theorem Yo{p:PS}(h:Jd w b g wj err p)(k:Nat)(hk:w.heap.size<=k):¬(k=b\/Z k=g):=by
 have h1:=h.lt;rintro(rfl|e)
 ·omega
 ·have:=(h.own k e.symm).2;omega
theorem Jbi{p:PS}(ri:18<=b)(h:Jd w b g wj err p):∀j,(j=b\/Z j=g)->18<=j:=by
 rintro j (rfl|e)
 ·exact ri
 ·have:=(h.own j e.symm).1;omega
theorem JcG{p:PS}(h:Jd w b g wj err p)(o o':Obj)(hm:Jq ((w.alloc o).alloc o') g g')(k:Nat)(hk:w.heap.size<=k)(kt:k<w.heap.size+2):¬(k=b\/Z k=g'):=by
 rcases hm with rfl|⟨i,rfl,hi⟩
 ·exact Yo h k hk
 ·have h1:=h.lt;rintro(rfl|e)
  ·omega
  ·cases e;simp at hi;omega

theorem Jcq(x:Int)(h0:0<=x)(h:x<256):IntKind.u8.wrap x=x:=by
 simp[IntKind.wrap,IntKind.bits,IntKind.signed];omega

theorem JmF(b:Nat)(g:Option Nat)(wj:Int)(a o a' o':Nat)(p p1 p2:PS)(w:aA)(hp:Jd w b g wj aK p)(hd:p.len<=90000000)(yh:p1.len<=90000000)(ho:o<256)(h1:p.num a 8=Z (a',p1))(h2:p1.num o 1=Z (o',p2))(ho':o'<256):
  aB N 205 #[X (Z ⟨b,0,Y⟩),aH #[O aD (a:Int),O aE (o:Int)]] w λe w'=>e=aC (aH #[O aD (a':Int),O aE (o':Int)])/\XI w w' b g wj p2:=by
 have H5:=hp.lt;go_enter func205,ntmps205;go_wp2_with fail;refine(Xu b g wj a 8 a' p p1 _ (hp.allocs _ _) (by omega) (by omega) h1).mono ?_;rintro _ w1⟨rfl,g1,Hs,js,H6⟩;have cB:=(H6.cell (p:=⟨w.heap.size,1,Y⟩) (by simp;omega) (Yo hp _ (Ql _))).trans (Ja (heap_alloc2_old _ _ _));have rR:=(H6.block _ (by simp) (Yo hp _ (by omega))).trans (heap_alloc2_new _ _ _);have hw:IntKind.u64.wrap (o:Int)=(o:Int):=JK _ (by omega) (by omega);have ql:IntKind.u8.wrap (o':Int)=(o':Int):=Jcq _ (by omega) (by omega);have RR:J _:=rR;have jO:J (Jq _ _ _):=js;have H3:J (M _ _ _):=H6;have HP:J (Jd _ _ _ _ _ _):=hp;go_wp2_with fail;refine(Xu b g1 wj o 1 o' p1 p2 _ Hs (by omega) (by omega) h2).mono ?_;rintro _ w2⟨rfl,g2,kJ,kn,H7⟩;have rR2:=(H7.block _ (by have:=H3.o.size;simp at this;omega) (JcG HP _ _ jO _ (by omega) (by omega))).trans RR.out;obtain⟨e0,e1⟩:=rows rR2;have fR:∀j,w2.frozen? ⟨w.heap.size+1,j,Y⟩=false:=λj=>Qg _ _ _ _ _ rR2;have RR2:J _:=rR2;go_wp2;rw[set2 _ _ _ _ _ _ _ RR2.out];refine QK (v:=aH #[O aD (a':Int),O aE (o':Int)]) (Qq results205 _ _ (w.heap.size+1) _ _ (0,0) _ rfl (Qi w2 _ _ _ _ _ RR2) underlying80 rfl (by kernel_rfl)) rfl ⟨rfl,?_⟩;have jT:¬(w.heap.size+1=b\/Z (w.heap.size+1)=g2):=by have h3:=jO.o.trans kn H3.o.size;exact JcG HP _ _ h3 _ (by omega) (by omega)
 refine XI.fresh HP.o _ _ (jO.o.trans kn H3.o.size) (Yx H3.o H7 jO.o) ?_ (Ts w2 (w.heap.size+1) _) (by omega);exact kJ.tch (Ts w2 (w.heap.size+1) _) (λe=>jT (aM e.symm)) (λj hj e=>jT (aN (by rw[hj,e])))

theorem JkP(E:Nat->Addr)(b:Nat)(g:Option Nat)(wj:Int)(a o:Nat)(p:PS)(w:aA)(hE:Env E w)(hp:Jd w b g wj aK p)(hd:p.len<=90000000)(h1:p.num a 8=Y):
  aB N 205 #[X (Z ⟨b,0,Y⟩),aH #[O aD (a:Int),O aE (o:Int)]] w λe w'=>∃x y:Int,e=aC (aH #[O aD x,O aE y])/\Jbz E w w' b g wj:=by
 have H5:=hp.lt;go_enter func205,ntmps205;go_wp2_with fail;refine(Zm E b g wj a 8 p _ (hE.allocs _ _) (hp.allocs _ _) (by omega) (by omega) h1).mono ?_;rintro _ w2⟨rfl,Hs,(H3:J _)⟩;have hb1:w.heap.size ≠ b:=by omega
 have zJ:w.heap.size+1 ≠ b:=by omega
 have cB:=(H3.cell (p:=⟨w.heap.size,1,Y⟩) (by simp;omega) hb1).trans (Ja (heap_alloc2_old _ _ _));have rR2:=(H3.block _ (by simp) zJ).trans (heap_alloc2_new _ _ _);obtain⟨e0,e1⟩:=rows rR2;have fR:∀j,w2.frozen? ⟨w.heap.size+1,j,Y⟩=false:=λj=>Qg _ _ _ _ _ rR2;have RR2:J _:=rR2;have HP:J (Jd _ _ _ _ _ _):=hp;go_wp2_with fail;refine(Jax b g wj _ _ p _ _ _ Hs).mono ?_;rintro _ _⟨rfl,rfl⟩;go_wp2;rw[set2 _ _ _ _ _ _ _ RR2.out];refine QK (v:=aH #[O aD 0,O aE 0]) (Qq results205 _ _ (w.heap.size+1) _ _ (0,0) _ rfl (Qi w2 _ _ _ _ _ RR2) underlying80 rfl (by kernel_rfl)) rfl ⟨0,0,rfl,?_⟩;refine Jbz.fresh (p2:=p) HP _ _ (aM rfl) (H3.mono (λj h=>aM (aM h))) ?_ (Ts w2 (w.heap.size+1) _) (by omega);exact Hs.tch (Ts w2 (w.heap.size+1) _) (λe=>zJ e.symm) (λj hj e=>by subst e;have:=(HP.o.own _ hj).2;omega)

theorem JkQ(E:Nat->Addr)(b:Nat)(Hc:18<=b)(g:Option Nat)(wj:Int)(a o a':Nat)(p p1:PS)(w:aA)(hE:Env E w)(hp:Jd w b g wj aK p)(hd:p.len<=90000000)(ho:o<256)(h1:p.num a 8=Z (a',p1))(h2:p1.num o 1=Y):
  aB N 205 #[X (Z ⟨b,0,Y⟩),aH #[O aD (a:Int),O aE (o:Int)]] w λe w'=>∃x y:Int,e=aC (aH #[O aD x,O aE y])/\Jbz E w w' b g wj:=by
 have H5:=hp.lt;go_enter func205,ntmps205;go_wp2_with fail;refine(Xu b g wj a 8 a' p p1 _ (hp.allocs _ _) (by omega) (by omega) h1).mono ?_;rintro _ w1⟨rfl,g1,Hs,(jO:J _),(H3:J _)⟩;have cB:=(H3.cell (p:=⟨w.heap.size,1,Y⟩) (by simp;omega) (Yo hp _ (Ql _))).trans (Ja (heap_alloc2_old _ _ _));have rR:=(H3.block _ (by simp) (Yo hp _ (by omega))).trans (heap_alloc2_new _ _ _);have hw:IntKind.u64.wrap (o:Int)=(o:Int):=JK _ (by omega) (by omega);have RR:J _:=rR;have HP:J _:=hp;have p6:=(hE.allocs _ _).tch H3 (Jbi Hc hp);go_wp2_with fail;refine(Zm E b g1 wj o 1 p1 _ p6 Hs (by omega) (by have:=ZP _ _ _ _ _ h1;omega) h2).mono ?_;rintro _ w2⟨rfl,kJ,H7⟩;have zJ:w.heap.size+1 ≠ b:=by omega
 have rR2:=(H7.block _ (by have:=H3.o.size;simp at this;omega) zJ).trans RR.out;obtain⟨e0,e1⟩:=rows rR2;have fR:∀j,w2.frozen? ⟨w.heap.size+1,j,Y⟩=false:=λj=>Qg _ _ _ _ _ rR2;have RR2:J _:=rR2;go_wp2;rw[set2 _ _ _ _ _ _ _ RR2.out];refine QK (v:=aH #[O aD (a':Int),O aE 0]) (Qq results205 _ _ (w.heap.size+1) _ _ (0,0) _ rfl (Qi w2 _ _ _ _ _ RR2) underlying80 rfl (by kernel_rfl)) rfl ⟨(a':Int),0,rfl,?_⟩;have jT:¬(w.heap.size+1=b\/Z (w.heap.size+1)=g1):=JcG HP _ _ jO _ (by omega) (by omega);refine Jbz.fresh (p2:=p1) HP _ _ jO (H3.trans H7 (λj h=>aM (aM h))) ?_ (Ts w2 (w.heap.size+1) _) (by omega);exact kJ.tch (Ts w2 (w.heap.size+1) _) (λe=>jT (aM e.symm)) (λj hj e=>jT (aN (by rw[hj,e])))

inductive Jn (E:Nat->Addr) (g:Nat) (w:aA):aG->Prop where
 | base:Jn E g w (eV E g)
 | wrap (p:Nat) (s:BA) (v:aG):w.heap[p]? =Z (T #[L s,v] 237)->Jn E g w v->Jn E g w (aJ 235 (X (Z ⟨p,0,Y⟩)))
theorem Jn.tch{g:Nat}(h:Jn E g w v)(k:M S w w')(hs:∀p s u,w.heap[p]? =Z (T #[L s,u] 237)->¬S p):Jn E g w' v:=by
 induction h with
 | base=>exact .base
 | wrap p s u hp _ ih=>exact .wrap p s u ((k.block p (Jb hp) (hs p s u hp)).trans hp) ih
theorem Jn.later{g:Nat}(h:Jn E g w v)(k:Below w.heap.size w w'):Jn E g w' v:=
 h.tch (M.of_below k) (λp _ _ hp hj=>by have:=(Jb hp);omega)
theorem Jn.iface{g:Nat}(h:Jn E g w v):∃t u,v=aJ t u:=by
 cases h with
 | base=>exact⟨_,_,rfl⟩
 | wrap p s u _ _=>exact⟨_,_,rfl⟩

theorem Xk(s:BA)(t:TypeId)(v:aG)(w:aA):aB N 80 #[L s,aJ t v] w λe w'=>e=aC (aJ 235 (X (Z ⟨w.heap.size,0,Y⟩)))/\w'=w.alloc (T #[L s,aJ t v] 237):=by
 go_enter func80,ntmps80;go_wp2;go_ret;exact⟨rfl,rfl⟩
theorem JiB(i:Nat)(hi:i<10)(w:aA):aB N 101 #[O I (i:Int)] w λe w'=>(∃s:BA,s.size<=10/\e=aC (L s))/\w=w':=by
 have h0:(0:Int)<=(i:Int):=by omega
 have h1:(i:Int)<100:=by omega
 have h2:(i:Int)<10:=by omega
 go_enter func101,ntmps101;go_wp2;go_ret;refine⟨⟨_,?_,rfl⟩,rfl⟩;rw[ByteArray.size_extract];omega

def JbR(E:Nat->Addr)(w w':aA)(b:Nat)(g:Option Nat)(wj:Int):Prop:=
 ∃g' p' v,Jd w' b g' wj v p'/\Jn E 7 w' v/\Jq w g g'/\M (λk=>k=b\/Z k=g) w w'
theorem JmJ{pp:Nat}{p:PS}{s:BA}(h:w.heap[pp]? =Z (T #[L s,v] 237))(hp:Jd w b g wj err p):¬pp=b:=by
 rintro rfl
 cases p with
 | rd q r=>have:=hp.2;rw[h]at this;simp at this
 | wr d=>obtain⟨u,_,_,hr⟩:=hp;rw[h]at hr;simp at hr
def PS.takes(p:PS)(v:aG):Prop:=∀pre rest,p=.rd pre rest->v=R Y 0 0
theorem Jfu{p p1:PS}{x:Nat}(ht:p.takes v)(h:p.num x k=Z (cnt,p1)):v=R Y 0 0\/x=cnt:=by
 cases p with
 | rd q r=>exact aM (ht q r rfl)
 | wr d=>
  simp only[PS.num]at h
  split at h
  ·simp only[Qh,Qw]at h;exact aN h.1
  ·cases h
def PS.like:PS->PS->Prop
 | .rd _ _,.rd _ _=>True
 | .wr _,.wr _=>True
 | _,_=>False
theorem PS.like.refl(p:PS):p.like p:=by cases p<;>trivial
theorem PS.like.trans{p q r:PS}(h:p.like q)(k:q.like r):p.like r:=by
 cases p<;>cases q<;>cases r<;>first|trivial|cases h|cases k
theorem PS.like.takes{p q:PS}(h:p.like q)(k:p.takes v):q.takes v:=by
 intro r s hr;subst hr
 cases p with
 | rd a c=>exact k a c rfl
 | wr d=>cases h
theorem Yn{p p1:PS}{x m:Nat}(h:p.num x k=Z (m,p1)):p.like p1:=by
 cases p<;>(simp only[PS.num]at h;split at h<;>first|(cases h;done)|(simp only[Qh,Qw]at h;rw[<-h.2];trivial))
theorem Jh9{p p1:PS}{s m:List UInt8}(h:p.txt s k=Z (m,p1)):p.like p1:=by
 cases p<;>(simp only[PS.txt]at h;split at h<;>first|(cases h;done)|(simp only[Qh,Qw]at h;rw[<-h.2];trivial))

def PS.many{α:Type}(f:α->PS->Option (α×PS)):List α->PS->Option (List α×PS)
 | [],p=>Z ([],p)
 | x::r,p=>match f x p with
  | none=>Y
  | some (y,p1)=>match PS.many f r p1 with
   | none=>Y
   | some (ys,p2)=>Z (y::ys,p2)
def Jw{α:Type}(z:α)(l:List α)(cnt:Nat):List α:=if l.length=0 then lC cnt z else l
def PS.lst{α:Type}(f:α->PS->Option (α×PS))(z:α)(size least most:Nat)(l:List α)(p:PS):Option (List α×PS):=
 match p.num l.length size with
 | none=>Y
 | some (cnt,p1)=>if cnt<least\/most<cnt then Y else PS.many f (Jw z l cnt) p1
theorem JkG(f:α->PS->Option (α×PS))(l:List α)(x y:α):∀(p p1 p2:PS)(ys:List α),PS.many f l p=Z (ys,p1)->f x p1=Z (y,p2)->PS.many f (l++[x]) p=Z (ys++[y],p2):=by
 induction l with
 | nil=>intro p p1 p2 ys h h2;simp[PS.many]at h;obtain⟨rfl,rfl⟩:=h;simp[PS.many,h2]
 | cons z l ih=>
  intro p p1 p2 ys h h2;simp only[PS.many,List.cons_append]at h ⊢
  cases q:f z p with
  | none=>simp[q]at h
  | some r=>
   obtain⟨r1,r2⟩:=r;simp only[q]at h ⊢
   cases q2:PS.many f l r2 with
   | none=>simp[q2]at h
   | some s=>
    obtain⟨s1,s2⟩:=s;simp only[q2,Qh,Qw]at h;obtain⟨rfl,rfl⟩:=h;rw[ih r2 s2 p2 s1 q2 h2];rfl
theorem JkH(f:α->PS->Option (α×PS))(l m:List α)(x:α):∀(p p1:PS)(ys:List α),PS.many f l p=Z (ys,p1)->f x p1=Y->PS.many f (l++x::m) p=Y:=by
 induction l with
 | nil=>intro p p1 ys h h2;simp[PS.many]at h;obtain⟨rfl,rfl⟩:=h;simp[PS.many,h2]
 | cons z l ih=>
  intro p p1 ys h h2;simp only[PS.many,List.cons_append]at h ⊢
  cases q:f z p with
  | none=>simp[q]at h
  | some r=>
   obtain⟨r1,r2⟩:=r;simp only[q]at h ⊢
   cases q2:PS.many f l r2 with
   | none=>simp[q2]at h
   | some s=>
    obtain⟨s1,s2⟩:=s;simp only[q2,Qh,Qw]at h;obtain⟨rfl,rfl⟩:=h;rw[ih r2 s2 s1 q2 h2]
theorem JaU(f:α->PS->Option (α×PS))(l:List α):∀(p p1:PS)(ys:List α),PS.many f l p=Z (ys,p1)->ys.length=l.length:=by
 induction l with
 | nil=>intro p p1 ys h;simp[PS.many]at h;rw[<-h.1]
 | cons z l ih=>
  intro p p1 ys h;simp only[PS.many]at h
  cases q:f z p with
  | none=>simp[q]at h
  | some r=>
   obtain⟨r1,r2⟩:=r;simp only[q]at h
   cases q2:PS.many f l r2 with
   | none=>simp[q2]at h
   | some s=>
    obtain⟨s1,s2⟩:=s;simp only[q2,Qh,Qw]at h;obtain⟨rfl,rfl⟩:=h;simp[ih r2 s2 s1 q2]
theorem JcF(f:α->PS->Option (α×PS))(hf:∀a p a' p',f a p=Z (a',p')->p.like p')(l:List α):∀(p p1:PS)(ys:List α),PS.many f l p=Z (ys,p1)->p.like p1:=by
 induction l with
 | nil=>intro p p1 ys h;simp[PS.many]at h;rw[<-h.2];exact PS.like.refl _
 | cons z l ih=>
  intro p p1 ys h;simp only[PS.many]at h
  cases q:f z p with
  | none=>simp[q]at h
  | some r=>
   obtain⟨r1,r2⟩:=r;simp only[q]at h
   cases q2:PS.many f l r2 with
   | none=>simp[q2]at h
   | some s=>
    obtain⟨s1,s2⟩:=s;simp only[q2,Qh,Qw]at h;obtain⟨rfl,rfl⟩:=h;exact(hf _ _ _ _ q).trans (ih _ _ _ q2)

abbrev VV:=aG×aG
def vvA(l:List VV):Array aG:=(l.flatMap λx=>[x.1,x.2]).toArray
theorem Yt(l:List VV):∀(i:Nat)(h:i<l.length),(vvA l)[i*2]? =Z l[i].1/\(vvA l)[i*2+1]? =Z l[i].2:=by
 unfold vvA
 induction l with
 | nil=>intro i h;simp at h
 | cons x l ih=>
  intro i h
  cases i with
  | zero=>simp
  | succ i=>
   have:=ih i (by simpa using h);simp only[QG,List.getElem?_toArray]at this ⊢;rw[show (i+1)*2=i*2+2 by omega,show i*2+2+1=i*2+1+2 by omega];simpa using this
theorem Yr(l:List VV):(vvA l).size=l.length*2:=by
 unfold vvA
 induction l with
 | nil=>rfl
 | cons x l ih=>simp at ih ⊢;omega
theorem Jgy(l:List VV):∀(i:Nat)(a o:aG),i<l.length->((vvA l).setIfInBounds (i*2) a).setIfInBounds (i*2+1) o=vvA (l.set i (a,o)):=by
 unfold vvA
 induction l with
 | nil=>intro i a o h;simp at h
 | cons x l ih=>
  intro i a o h
  cases i with
  | zero=>simp
  | succ i=>
   have:=ih i a o (by simpa using h);simp only[QG,Qa,Qc]at this ⊢;rw[show (i+1)*2=i*2+2 by omega,show i*2+2+1=i*2+1+2 by omega];simpa using this
theorem JfO(l:List VV)(a:Addr)(w:aA)(h:∀i (h:i<l.length),w.cell? (a.add (i*2))=Z l[i].1/\w.cell? (a.add (i*2+1))=Z l[i].2):
  ∀j v,(vvA l).toList[j]? =Z v->w.cell? (a.add j)=Z v:=by
 intro j v hv;have hj:j<l.length*2:=by have:=(Qo.1 hv).1;rw[QA,Yr]at this;exact this
 rw[Array.getElem?_toList]at hv;obtain⟨e0,e1⟩:=Yt l (j/2) (by omega);obtain⟨f0,f1⟩:=h (j/2) (by omega)
 rcases Nat.mod_two_eq_zero_or_one j with hm|hm
 ·have yS:j/2*2=j:=by omega
  rw[yS]at e0 f0;rw[f0,<-e0,hv]
 ·have yS:j/2*2+1=j:=by omega
  rw[yS]at e1 f1;rw[f1,<-e1,hv]
theorem Jj3(l:List VV)(h1:∀x∈l,x.1.oneCell'=true/\x.2.oneCell'=true):∀v∈(vvA l).toList,v.oneCell'=true:=by
 intro v hv;simp only[vvA,List.mem_flatMap]at hv;obtain⟨x,sv,hx⟩:=hv;simp at hx
 rcases hx with rfl|rfl
 ·exact(h1 x sv).1
 ·exact(h1 x sv).2
def VAt(B:Nat)(w:aA)(v:aG)(l:List VV):Prop:=
 (v=R Y 0 0/\l=[])\/∃gi oi c,v=R (Z ⟨gi,oi,Y⟩) l.length c/\gi<B/\gi<w.heap.size/\∀i (h:i<l.length),w.cell? ⟨gi,oi+i*2,Y⟩=Z l[i].1/\w.cell? ⟨gi,oi+i*2+1,Y⟩=Z l[i].2
theorem VAt.tch{l:List VV}(h:VAt B w v l)(k:M S w w')(hs:∀j,S j->B<=j):VAt B w' v l:=by
 rcases h with h|⟨gi,oi,c,hv,h1,h2,h3⟩
 ·exact aM h
 ·refine aN ⟨gi,oi,c,hv,h1,Qk h2 k.size,λi hi=>?_⟩;have hc:∀o,w'.cell? ⟨gi,o,Y⟩=w.cell? ⟨gi,o,Y⟩:=λo=>k.cell (p:=⟨gi,o,Y⟩) h2 (λe=>by have:=hs gi e;omega);rw[hc,hc];exact h3 i hi
theorem VAt.shape{l:List VV}(h:VAt B w v l):∃a c,v=R a l.length c:=by
 rcases h with⟨rfl,rfl⟩|⟨gi,oi,c,rfl,_⟩
 ·exact⟨Y,0,rfl⟩
 ·exact⟨_,_,rfl⟩
theorem VAt.up{B':Nat}{l:List VV}(h:VAt B w v l)(hb:B<=B'):VAt B' w v l:=by
 rcases h with h|⟨gi,oi,c,h1,h2,h3⟩
 ·exact aM h
 ·exact aN ⟨gi,oi,c,h1,by omega,h3⟩
theorem Jbx{l:List VV}{xa:List α}(z:α)(h:VAt B w v l)(hl:l.length=xa.length)(xM:v=R Y 0 0\/xa.length=cnt):(Jw z xa cnt).length=cnt:=by
 unfold Jw
 split
 ·rw[List.length_replicate]
 ·rename_i hn
  rcases xM with e|e
  ·exfalso
   rcases h with⟨_,h4⟩|⟨_,_,_,h3,_⟩
   ·rw[h4]at hl;simp at hl;omega
   ·rw[h3]at e;cases e
  ·exact e
theorem Jbw{P:Program}(w:aA)(dT sT ty elem:TypeId)(sz g dLen dCap:Nat)(a:Addr)(sLen sCap:Nat)(cur:Array aG)(t:TypeId)(cs:List aG)
 (hu:P.underlying dT=Z (.slice elem)) (hs:(P.info? elem).map (·.size)=Z sz)
 (hg:w.heap[g]? =Z (T cur t (0,0))) (hn:cs.length=Nat.min sLen dLen*sz)
 (mc:∀j v,cs[j]? =Z v->w.cell? (a.add j)=Z v) (tP:cs.length=cur.size) (h1:∀v∈cs,v.oneCell'=true):
  (Builtin.copy_ #[dT,sT] ty #[R (Z ⟨g,0,Y⟩) dLen dCap,R (Z a) sLen sCap]).run P w=.ok (goInt (Nat.min sLen dLen)) (w.setRow g cs.toArray):=by
 have hl:=run_loadCells_list (P:=P) w a cs mc;have kE:=run_storeCells_at P g 0 t cs 0 cur w hg (by omega) h1;have e2:cs++cur.toList.drop cs.length=cs:=by rw[tP,<-QA,List.drop_length,QC]
 simp only[Nat.add_zero]at kE
 cases hq:P.info? elem with
 | none=>simp[hq]at hs
 | some i=>
  have hi:i.size=sz:=by simpa [hq]using hs
  simp[Builtin.copy_,run_underlying hu,Builtin.lenOf,Builtin.firstCells,sizeOf,typeInfo,hq,hi,<-hn,hl,kE];rw[e2]
theorem JnY{l:List VV}{tS tE:TypeId}{z:VV}(hu:prog.underlying tS=Z (.slice tE))(xP:(prog.info? tE).map (·.size)=Z 2)(h1:∀x∈l,x.1.oneCell'=true/\x.2.oneCell'=true)(h:VAt B w v l)(hZ:w.heap[gp]? =Z (T (vvA (lC cnt z)) tE))(hc:v=R Y 0 0\/l.length=cnt):
  ∃r:Int,(∀ty,(Builtin.copy_ #[tS,tS] ty #[R (Z ⟨gp,0,Y⟩) cnt cnt,v]).run N w=.ok (O I r) (w.setRow gp (vvA (Jw z l cnt)))):=by
 rcases h with⟨rfl,rfl⟩|⟨gi,oi,c,rfl,k1,k2,k3⟩
 ·refine⟨0,λty=>?_⟩;have:=run_copy_nil (P:=N) w tS tS ty tE ⟨gp,0,Y⟩ cnt cnt hu (by rw[xP];rfl);rw[this,show Jw z [] cnt=lC cnt z from if_pos rfl,setRow_self w gp _ _ _ hZ];rfl
 ·have cY:l.length=cnt:=by
   rcases hc with h|h
   ·cases h
   ·exact h
  have kE:Jw z l cnt=l:=by
   unfold Jw
   split
   ·rename_i hl;have tQ:=List.length_eq_zero_iff.1 hl;subst tQ;subst cY;rfl
   ·rfl
  refine⟨(Nat.min l.length cnt:Nat),λty=>?_⟩;have me:Nat.min l.length cnt=cnt:=by rw[cY];exact Nat.min_self cnt
  have:=Jbw (P:=N) w tS tS ty tE 2 gp cnt cnt ⟨gi,oi,Y⟩ l.length c _ _ (vvA l).toList hu xP hZ
   (by rw[QA,Yr,me,cY])
   (JfO l _ w (λi hi=>by rw[Addr.add_lit,Addr.add_lit,<-Nat.add_assoc];exact k3 i hi))
   (by rw[QA,Yr,Yr,List.length_replicate,cY]) (Jj3 l h1)
  rw[this,kE,Array.toArray_toList];rfl

structure LK where
 tE:TypeId
 tS:TypeId
 tF:TypeId
 fP:FuncId
structure YT(K:LK)(w:aA)(b:Nat)(g:Option Nat)(aZ gp cnt:Nat)(l:List VV):Prop where
 len:l.length=cnt
 box0:w.heap[aZ]? =Z (T #[X (Z ⟨b,0,Y⟩)] 230)
 box1:w.heap[aZ+2]? =Z (T #[.func (.func K.fP) #[X (Z ⟨b,0,Y⟩)] #[]] K.tF)
 box2:w.heap[gp+1]? =Z (T #[R (Z ⟨gp,0,Y⟩) cnt cnt] K.tS)
 arr:w.heap[gp]? =Z (T (vvA l) K.tE)
 high:b<aZ/\aZ+2<gp
 apart:∀k,k=aZ\/k=aZ+2\/k=gp\/k=gp+1->Z k ≠ g
theorem YT.tch{K:LK}{l:List VV}(h:YT K w b g aZ gp cnt l)(k:M S w w')(hs:∀j,S j->j=b\/Z j=g\/w.heap.size<=j)(hm:Jq w g g'):YT K w' b g' aZ gp cnt l:=by
 have l0:=(Jb h.box0)
 have l1:=(Jb h.box1)
 have l2:=(Jb h.box2)
 have l3:=(Jb h.arr)
 have hh:=h.high;have ne:∀j,j<w.heap.size->(j=aZ\/j=aZ+2\/j=gp\/j=gp+1)->¬S j:=λj hj hc hS=>by
  rcases hs j hS with e|e|e
  ·omega
  ·exact h.apart j hc e
  ·omega
 refine⟨h.len,(k.block _ l0 (ne _ l0 (by simp))).trans h.box0,(k.block _ l1 (ne _ l1 (by simp))).trans h.box1,(k.block _ l2 (ne _ l2 (by simp))).trans h.box2,(k.block _ l3 (ne _ l3 (by simp))).trans h.arr,hh,λj hj e=>?_⟩
 rcases hm with rfl|⟨i,rfl,hi⟩
 ·exact h.apart j hj e
 ·cases e;rcases hj with rfl|rfl|rfl|rfl<;>omega
theorem Jhm{K:LK}{l:List VV}(h:YT K w b g aZ gp cnt l)(hi:i<cnt):
  ∃x y,w.cell? ⟨gp,i*2,Y⟩=Z x/\w.cell? ⟨gp,i*2+1,Y⟩=Z y/\w.frozen? ⟨gp,i*2,Y⟩=false/\w.frozen? ⟨gp,i*2+1,Y⟩=false:=by
 obtain⟨e0,e1⟩:=Yt l i (by have:=h.len;omega);exact⟨_,_,(Ja h.arr).trans e0,(Ja h.arr).trans e1,Qg _ _ _ _ _ h.arr,Qg _ _ _ _ _ h.arr⟩
theorem Jbf{K:LK}{p:PS}{l:List VV}(h:YT K w b g aZ gp cnt l)(hp:Jd w b g wj err p)(hi:i<cnt)(a o:aG):
  ((w.setCell ⟨gp,i*2,Y⟩ a).setCell ⟨gp,i*2+1,Y⟩ o).cell? ⟨aZ,0,Y⟩=Z (X (Z ⟨b,0,Y⟩))/\
  ((w.setCell ⟨gp,i*2,Y⟩ a).setCell ⟨gp,i*2+1,Y⟩ o).cell? ⟨b,2,Y⟩=Z err/\
  YT K ((w.setCell ⟨gp,i*2,Y⟩ a).setCell ⟨gp,i*2+1,Y⟩ o) b g aZ gp cnt (l.set i (a,o))/\
  Jd ((w.setCell ⟨gp,i*2,Y⟩ a).setCell ⟨gp,i*2+1,Y⟩ o) b g wj err p/\
  M (λk=>k=gp) w ((w.setCell ⟨gp,i*2,Y⟩ a).setCell ⟨gp,i*2+1,Y⟩ o):=by
 have qm:i<l.length:=by have:=h.len;omega
 have hh:=h.high;rw[Qj w gp (i*2) _ _ (0,0) _ h.arr,Qj _ gp (i*2+1) _ _ (0,0) _ (Qi _ _ _ _ _ _ h.arr),QI,Jgy l i a o qm];have ht:=Ts w gp (vvA (l.set i (a,o)));have l0:=(Jb h.box0)
 have l1:=(Jb h.box1)
 have l2:=(Jb h.box2)
 have b0:=(ht.block aZ l0 (by omega)).trans h.box0;have yy:=hp.tch ht (λe=>by omega) (λj hj e=>by subst e;exact h.apart j (by simp) hj.symm);exact⟨Ja b0,yy.errCell,⟨by rw[List.length_set];exact h.len,b0,(ht.block _ l1 (by omega)).trans h.box1,(ht.block _ l2 (by omega)).trans h.box2,Qi _ _ _ _ _ _ h.arr,hh,h.apart⟩,yy,ht⟩
theorem Jd.same{width':Int}{p p':PS}(h:Jd w b g wj e p)(k:Jd w b g' width' e' p'):g=g':=by
 cases p with
 | rd q r=>cases p' with
  | rd q' r'=>rw[h.1,k.1]
  | wr d=>obtain⟨v,_,_,hr⟩:=k;have:=h.2;rw[hr]at this;simp at this
 | wr d=>cases p' with
  | rd q' r'=>obtain⟨v,_,_,hr⟩:=h;have:=k.2;rw[hr]at this;simp at this
  | wr d'=>
   obtain⟨v,h1,_,hr⟩:=h;obtain⟨v',k1,_,kr⟩:=k;rw[hr]at kr;simp at kr;rw[<-h1,<-k1,kr.2.2]

structure XY(α:Type) where
 f:α->PS->Option (α×PS)
 grow:Nat
 zero:α
 zeroV:VV
 Init:Nat->aA->PS->VV->α->Prop
 Done:aA->Nat->Option Nat->VV->α->Prop
def ToP(E:Nat->Addr)(w:aA)(b:Nat)(g:Option Nat)(wj:Nat){α:Type}(Q:XY α)(r:Option (α×PS))(y:VV)(w':aA):Prop:=
 ∃g' err p',Jd w' b g' wj err p'/\Jq w g g'/\M (λk=>k=b\/Z k=g) w w'/\
  match r with
  | some (a,p2)=>p'=p2/\err=aK/\Q.Done w' w.heap.size g' y a
  | none=>Jn E 7 w' err
structure Zh(E:Nat->Addr)(b wj lim:Nat)(fP:FuncId){α:Type}(Q:XY α)(Shape:VV->Prop):Prop where
 init_tch:∀{w w':aA} {p p':PS} {x:VV} {a:α} {S:Nat->Prop},Q.Init b w p x a->M S w w'->(∀j,S j->b<=j)->p.like p'->Q.Init b w' p' x a
 init_zero:∀(w:aA)(p:PS),Q.Init b w p Q.zeroV Q.zero
 init_shape:∀{w:aA} {p:PS} {x:VV} {a:α},Q.Init b w p x a->Shape x
 done_tch:∀{w w':aA} {B:Nat} {g g':Option Nat} {x:VV} {a:α} {S:Nat->Prop},Q.Done w B g x a->M S w w'->(∀j,S j->j<B\/Z j=g\/w.heap.size<=j)->Jq w g g'->Q.Done w' B g' x a
 done_mono:∀{w:aA} {B B':Nat} {g:Option Nat} {x:VV} {a:α},Q.Done w B g x a->B'<=B->Q.Done w B' g x a
 like:∀{a a':α} {p p':PS},Q.f a p=Z (a',p')->p.like p'
 len:∀{w:aA} {x:VV} {a a':α} {p p':PS},Q.Init b w p x a->Q.f a p=Z (a',p')->p'.len<=p.len+Q.grow
 call:∀{w:aA} {g:Option Nat} {p:PS} {x:VV} {a:α},Env E w->Jd w b g wj aK p->Q.Init b w p x a->p.len<=lim->
  aB N fP #[X (Z ⟨b,0,Y⟩),aH #[x.1,x.2]] w λe w'=>∃y:VV,Shape y/\e=aC (aH #[y.1,y.2])/\ToP E w b g wj Q (Q.f a p) y w'
def InvV(K:LK)(E:Nat->Addr)(w0:aA)(b:Nat)(g:Option Nat)(wj aZ gp cnt:Nat){α:Type}(Q:XY α)(st:List VV)(xa:List α)(p:PS)(i:Nat)(w:aA):Prop:=
 ∃g' xs ys p1,PS.many Q.f (xa.take i) p=Z (ys,p1)/\xs.length=i/\Jd w b g' wj aK p1/\YT K w b g' aZ gp cnt (xs++st.drop i)/\(∀(j:Nat) x a,xs[j]? =Z x->ys[j]? =Z a->Q.Done w (gp+1) g' x a)/\(∀(j:Nat) x a,st[j]? =Z x->xa[j]? =Z a->Q.Init b w p1 x a)/\
  Env E w/\Jq w0 g g'/\M (λk=>k=b\/Z k=g\/k=gp) w0 w/\p.like p1/\p1.len<=p.len+Q.grow*i
def BadV(E:Nat->Addr)(w0:aA)(b:Nat)(g:Option Nat)(wj aZ gp:Nat){α:Type}(Q:XY α)(xa:List α)(p:PS)(v:aG)(w:aA):Prop:=
 Jn E 7 w v/\PS.many Q.f xa p=Y/\∃g' p',Jd w b g' wj v p'/\Jq w0 g g'/\M (λk=>k=b\/Z k=g\/k=gp) w0 w/\w.heap[aZ]? =Z (T #[X (Z ⟨b,0,Y⟩)] 230)
def Jlw(K:LK)(E:Nat->Addr)(w:aA)(b:Nat)(g:Option Nat)(wj aZ gp cnt i:Nat){α:Type}(Q:XY α)(l:List VV)(r:Option (α×PS))(e:Ending)(w':aA):Prop:=
 M (λk=>k=b\/Z k=g\/k=gp) w w'/\match r with
  | some (a,p2)=>e=aC aK/\∃g' x',Jd w' b g' wj aK p2/\YT K w' b g' aZ gp cnt (l.set i x')/\Q.Done w' (gp+1) g' x' a/\Jq w g g'
  | none=>∃v,e=aC v/\Jn E 7 w' v/\∃g' p',Jd w' b g' wj v p'/\Jq w g g'/\w'.heap[aZ]? =Z (T #[X (Z ⟨b,0,Y⟩)] 230)
structure JcW(f:FuncId)(caps:Array aG)(g off n:Nat)(x:Nat->VV)(Inv:Nat->aA->Prop)(Bad:aG->aA->Prop):Prop where
 enter:∀args w,(callFunc f args).run N w=.ok (.enter f args) w
 read:∀i w,i<n->Inv i w->w.cell? ⟨g,off+i*2,Y⟩=Z (x i).1/\w.cell? ⟨g,off+i*2+1,Y⟩=Z (x i).2
 alloc:∀i w o,Inv i w->Inv i (w.alloc o)
 call:∀i w,i<n->Inv i w->aB N f (#[O I (i:Int),aH #[(x i).1,(x i).2]]++caps) w λe w'=>(e=aC aK/\Inv (i+1) w')\/∃t v,e=aC (aJ t v)/\Bad (aJ t v) w'
theorem JqM{K:LK}{wj:Nat}{Q:XY α}{Shape:VV->Prop}(H:Zh E b wj lim K.fP Q Shape)(fS:FuncId)(hen:∀args w,(callFunc fS args).run N w=.ok (.enter fS args) w)(w0:aA)(Hc:18<=b)(g:Option Nat)(aZ gp cnt:Nat)(st:List VV)(xa:List α)(p:PS)(kE:st.length=cnt)(has:xa.length=cnt)(hd:p.len+Q.grow*cnt<=lim)(hbgp:b<gp)
 (fD:∀(w:aA)(g:Option Nat)(i:Nat)(x:VV)(a:α)(l:List VV)(p:PS),Env E w->YT K w b g aZ gp cnt l->Jd w b g wj aK p->Q.Init b w p x a->i<cnt->p.len<=lim->
 aB N fS #[O I (i:Int),aH #[x.1,x.2],X (Z ⟨aZ+2,0,Y⟩),X (Z ⟨gp+1,0,Y⟩),X (Z ⟨aZ,0,Y⟩)] w λe w'=>Jlw K E w b g wj aZ gp cnt i Q l (Q.f a p) e w'):
  JcW fS #[X (Z ⟨aZ+2,0,Y⟩),X (Z ⟨gp+1,0,Y⟩),X (Z ⟨aZ,0,Y⟩)] gp 0 cnt (λi=>st.getD i Q.zeroV) (InvV K E w0 b g wj aZ gp cnt Q st xa p) (BadV E w0 b g wj aZ gp Q xa p):=by
 refine⟨hen,?_,?_,?_⟩
 ·rintro i w hi⟨g',xs,ys,p1,h1,yw,h2,h3,hD,hN,h4,h5,h6,h7,h8⟩;have Hl:i<(xs++st.drop i).length:=by rw[h3.len];exact hi
  obtain⟨e0,e1⟩:=Yt (xs++st.drop i) i Hl;have hx:(xs++st.drop i)[i]=st.getD i Q.zeroV:=by rw[List.getElem_append_right (by omega)];simp[yw,List.getD_eq_getElem?_getD,show i<st.length by omega]
  rw[hx]at e0 e1;rw[Nat.zero_add];exact⟨(Ja h3.arr).trans e0,(Ja h3.arr).trans e1⟩
 ·rintro i w o⟨g',xs,ys,p1,h1,yw,h2,h3,hD,hN,h4,h5,h6,h7,h8⟩;have hk:=Ta D w o;exact⟨g',xs,ys,p1,h1,yw,h2.tch hk (λh=>h) (λ_ _ h=>h),h3.tch hk noE (aM rfl),λj x t a c=>H.done_tch (hD j x t a c) hk noE (aM rfl),λj x t a c=>H.init_tch (hN j x t a c) hk noE (PS.like.refl _),h4.tch hk noE,h5,h6.trans hk noE,h7,h8⟩
 ·rintro i w hi⟨g',xs,ys,p1,h1,yw,h2,h3,hD,hN,h4,h5,h6,h7,h8⟩;have pu:∀{wx},M (λk=>k=b\/Z k=g'\/k=gp) w wx->_:=λhk=>h6.trans hk (λj hj=>by
   rcases hj with rfl|hj|rfl
   ·exact aM (aM rfl)
   ·rcases h5 with rfl|⟨q,rfl,hq⟩
    ·exact aM (aN (aM hj))
    ·cases hj;exact aN hq
   ·exact aM (aN (aN rfl)))
  have mf:i<st.length:=by omega
  have mh:i<xa.length:=by omega
  have jd:st.getD i Q.zeroV=st[i]:=by simp[List.getD_eq_getElem?_getD,mf]
  have zM:=QR mh;have ut:ys.length=i:=by rw[JaU _ _ _ _ _ h1,QB];omega
  have hI:Q.Init b w p1 (st.getD i Q.zeroV) xa[i]:=by have:=hN i st[i] xa[i] (Qd mf) (Qd mh);rw[jd];exact this
  have kV:Q.grow*i<=Q.grow*cnt:=Nat.mul_le_mul_left _ (by omega);refine(fD w g' i _ xa[i] _ p1 h4 h3 h2 hI hi (by omega)).mono ?_;rintro e w'⟨k4,hr⟩
  cases q:Q.f xa[i] p1 with
  | some r=>
   obtain⟨t',p2⟩:=r;rw[q]at hr;obtain⟨rfl,g2,x',k1,k2,k5,k3⟩:=hr;have f1:=H.like q;have f2:=H.len hI q;have gI:∀j,(j=b\/Z j=g'\/j=gp)->b<=j:=λj hj=>by
    rcases hj with rfl|hj|rfl
    ·exact Ql _
    ·have:=(h2.own j hj.symm).1;omega
    ·have:=h3.high;omega
   refine aM ⟨rfl,g2,xs++[x'],ys++[t'],p2,?_,by simp[yw],k1,?_,?_,?_,?_,h5.trans k3 h6.size,pu k4,h7.trans f1,by rw[Nat.mul_add];omega⟩
   ·rw[zM];exact JkG _ _ _ _ _ _ _ _ h1 q
   ·have e:(xs++st.drop i).set i x'=xs++[x']++st.drop (i+1):=by
     rw[List.set_append_right _ _ (by omega),yw,Nat.sub_self,List.drop_eq_getElem_cons mf,Qb,Qs];rfl
    rw[<-e];exact k2
   ·intro j x t a c
    by_cases hj:j<i
    ·rw[QF (by omega)]at a c;exact H.done_tch (hD j x t a c) k4 (λj h=>by
      rcases h with h|h|h
      ·exact aM (by omega)
      ·exact aN (aM h)
      ·exact aM (by omega)) k3
    ·have ru:j=i:=(by have:=(Qo.1 a).1;simp[yw]at this;omega);subst ru;rw[Qz (by omega)]at a c;simp[yw]at a;simp[ut]at c;subst a c;exact k5
   ·intro j x t a c;exact H.init_tch (hN j x t a c) k4 gI f1
   ·exact h4.tch k4 (λj hj=>Qm Hc (gI j hj))
  | none=>
   rw[q]at hr;obtain⟨v,rfl,k1,g2,p',k2,k3,k5⟩:=hr;obtain⟨tt,uu,rfl⟩:=k1.iface;refine aN ⟨_,_,rfl,k1,?_,g2,p',k2,h5.trans k3 h6.size,pu k4,k5⟩;have vz:xa=xa.take i++xa[i]::xa.drop (i+1):=(by rw[<-List.drop_eq_getElem_cons mh,List.take_append_drop]);rw[vz];exact JkH _ _ _ _ _ _ _ h1 q
def ToE(Inv:Nat->aA->Prop)(Bad:aG->aA->Prop)(n:Nat)(e:Ending)(w':aA):Prop:=
 (e=aC aK/\Inv n w')\/∃p s v w1,e=aC (aJ 235 (X (Z ⟨p,0,Y⟩)))/\w'.heap[p]? =Z (T #[L s,v] 237)/\Bad v w1/\Below w1.heap.size w1 w'
def AftV(K:LK)(E:Nat->Addr)(b aZ gp cnt:Nat){α:Type}(Q:XY α)(r:Option (List α×PS))(err:aG)(g':Option Nat)(p':PS)(w':aA):Prop:=
 match r with
 | some (ys,p2)=>p'=p2/\err=aK/\∃xs,YT K w' b g' aZ gp cnt xs/\ys.length=cnt/\(∀(j:Nat) x a,xs[j]? =Z x->ys[j]? =Z a->Q.Done w' (gp+1) g' x a)
 | none=>∃pp s v,err=aJ 235 (X (Z ⟨pp,0,Y⟩))/\w'.heap[pp]? =Z (T #[L s,v] 237)/\Jn E 7 w' v
theorem Jfc{K:LK}{w0:aA}{wj:Nat}{Q:XY α}{st:List VV}{xa:List α}{p:PS}{e:Ending}
 (h:ToE (InvV K E w0 b g wj aZ gp cnt Q st xa p) (BadV E w0 b g wj aZ gp Q xa p) cnt e w') (h0:YT K w0 b g aZ gp cnt st) (has:xa.length=cnt):
  ∃err g' p' v,e=aC err/\(err=aK\/∃t u,err=aJ t u)/\Jd w' b g' wj v p'/\Jq w0 g g'/\M (λk=>k=b\/Z k=g\/k=gp) w0 w'/\w'.heap[aZ]? =Z (T #[X (Z ⟨b,0,Y⟩)] 230)/\w'.heap[gp+1]? =Z (T #[R (Z ⟨gp,0,Y⟩) cnt cnt] K.tS)/\AftV K E b aZ gp cnt Q (PS.many Q.f xa p) err g' p' w':=by
 rcases h with⟨rfl,g',xs,ys,p1,a1,yw,a2,a3,hD,_,a4,a5,a6,_⟩|⟨pp,s,v,w1,rfl,h3,⟨hv,hn,g',p',b1,b2,b3,b4⟩,hb⟩
 ·rw[QS (by omega)]at a1;have zi:=h0.len;have e2:st.drop cnt=[]:=lI (by omega);rw[e2,QC]at a3;refine⟨_,g',p1,_,rfl,aM rfl,a2,a5,a6,a3.box0,a3.box2,?_⟩;rw[a1];exact⟨rfl,rfl,xs,a3,(JaU _ _ _ _ _ a1).trans has,hD⟩
 ·have hk:M D w1 w':=(M.of_below hb).mono (λj hj=>aN hj);have hh:=h0.high;have b3':=b3.trans hk noE;refine⟨_,g',p',_,rfl,aN ⟨_,_,rfl⟩,b1.tch hk (λh=>h) (λ_ _ h=>h),b2,b3',(hk.block _ (Jb b4) (λh=>h)).trans b4,(b3'.block _ (Jb h0.box2) ?_).trans h0.box2,?_⟩
  ·rintro(e|e|e)
   ·omega
   ·exact h0.apart _ (by simp) e
   ·omega
  ·rw[hn];exact⟨pp,s,v,rfl,h3,hv.later hb⟩
def ToL(K:LK)(E:Nat->Addr)(w:aA)(b:Nat)(g:Option Nat)(wj:Nat){α:Type}(Q:XY α)(r:Option (List α×PS))(e:Ending)(w':aA):Prop:=
 match r with
 | some (ys,p2)=>∃gp xs,e=aC (R (Z ⟨gp,0,Y⟩) ys.length ys.length)/\w.heap.size<=gp/\w'.heap[gp]? =Z (T (vvA xs) K.tE)/\xs.length=ys.length/\∃g',Jd w' b g' wj aK p2/\Z gp ≠ g'/\(∀(j:Nat) x a,xs[j]? =Z x->ys[j]? =Z a->Q.Done w' (gp+1) g' x a)/\Jq w g g'/\M (λk=>k=b\/Z k=g) w w'
 | none=>(∃a n c,e=aC (R a n c))/\JbR E w w' b g wj
theorem Jhf{wj:Nat}{fP:FuncId}{Q:XY α}{Shape:VV->Prop}(H:Zh E b wj lim fP Q Shape){p:PS}{l:List VV}{xa:List α}(hl:l.length=xa.length)(h:∀(j:Nat) x t,l[j]? =Z x->xa[j]? =Z t->Q.Init b w p x t):
  ∀(j:Nat) x t,(Jw Q.zeroV l cnt)[j]? =Z x->(Jw Q.zero xa cnt)[j]? =Z t->Q.Init b w p x t:=by
 intro j x t a c;unfold Jw at a c;rw[hl]at a
 split at a
 ·rename_i h0;rw[if_pos h0]at c;simp[List.getElem?_replicate]at a c;obtain⟨_,rfl⟩:=a;obtain⟨_,rfl⟩:=c;exact H.init_zero w p
 ·rename_i h0;rw[if_neg h0]at c;exact h j x t a c
theorem M.allocs3(S:Nat->Prop)(w:aA)(o o' o2:Obj):M S w (((w.alloc o).alloc o').alloc o2):=(M.allocs S w o o').trans (Ta S _ o2) (λ_ h=>aM h)
theorem Jd.allocs3{p:PS}(h:Jd w b g wj err p)(o o' o2:Obj):Jd (((w.alloc o).alloc o').alloc o2) b g wj err p:=
 h.tch (M.allocs3 D w o o' o2) (λh=>h) (λ_ _ h=>h)
theorem Env.allocs3(h:Env E w)(o o' o2:Obj):Env E (((w.alloc o).alloc o').alloc o2):=h.tch (M.allocs3 D w o o' o2) noE
theorem JU(w:aA)(o o' o2:Obj):(((w.alloc o).alloc o').alloc o2).heap[w.heap.size]? =Z o:=(Below.heap_alloc _ o2 _ (by simp;omega)).trans (heap_alloc2_old w o o')
theorem JQ(w:aA)(o o' o2:Obj):(((w.alloc o).alloc o').alloc o2).heap[w.heap.size+1]? =Z o':=(Below.heap_alloc _ o2 _ (by simp)).trans (heap_alloc2_new w o o')
theorem JE(w:aA)(o o' o2:Obj):(((w.alloc o).alloc o').alloc o2).heap[w.heap.size+2]? =Z o2:=by
 have:=Qf ((w.alloc o).alloc o') o2;simpa using this
theorem Jq.allocs3(h:Jq (((w.alloc o).alloc o').alloc o2) g g'):Jq w g g':=by
 rcases h with h|⟨i,h,hi⟩
 ·exact aM h
 ·exact aN ⟨i,h,by simp at hi;omega⟩
theorem JbE{p:PS}(h:Jd w b g wj err p)(o o' o2:Obj)(hm:Jq (((w.alloc o).alloc o').alloc o2) g g')(k:Nat)(hk:w.heap.size<=k)(kt:k<w.heap.size+3):¬(k=b\/Z k=g'):=by
 rcases hm with rfl|⟨i,rfl,hi⟩
 ·exact Yo h k hk
 ·have h1:=h.lt;rintro(rfl|e)
  ·omega
  ·cases e;simp at hi;omega
theorem Jhn{K:LK}{p0 p:PS}{st:List VV}{z:VV}(hp:Jd w b g wj aK p0)(Hs:Jd w1 b g1 wj aK p)(hm:Jq (((w.alloc o).alloc o').alloc o2) g g1)(ht:M (λk=>k=b\/Z k=g) (((w.alloc o).alloc o').alloc o2) w1)
 (r0:w1.heap[w.heap.size]? =Z (T #[X (Z ⟨b,0,Y⟩)] 230)) (r1:w1.heap[w.heap.size+2]? =Z (T #[.func (.func K.fP) #[X (Z ⟨b,0,Y⟩)] #[]] K.tF)) (hE:Env E w) (Hc:18<=b) (_hs:w.heap.size+1+1+1<=w1.heap.size) (kE:st.length=cnt):
  ∃W3,W3=((w1.alloc (T (vvA (lC cnt z)) K.tE)).alloc (T #[R (Z ⟨w1.heap.size,0,Y⟩) cnt cnt] K.tS)).setRow w1.heap.size (vvA st)/\
   (YT K W3 b g1 w.heap.size w1.heap.size cnt st/\Jd W3 b g1 wj aK p/\Env E W3/\Jq w g g1/\M (λk=>k=b\/Z k=g) w W3/\M D w1 W3/\w1.heap.size<W3.heap.size):=by
 have H5:=hp.lt;have tA:=M.allocs D w1 (T (vvA (lC cnt z)) K.tE) (T #[R (Z ⟨w1.heap.size,0,Y⟩) cnt cnt] K.tS);have tB:=Ts ((w1.alloc (T (vvA (lC cnt z)) K.tE)).alloc (T #[R (Z ⟨w1.heap.size,0,Y⟩) cnt cnt] K.tS)) w1.heap.size (vvA st);have t3:=tA.trans tB (λj hj=>aN (by omega));have p6:=(hE.allocs3 o o' o2).tch ht (Jbi Hc hp);have jG:=Hs.own;have l0:=(Jb r0)
 have l1:=(Jb r1)
 refine⟨_,rfl,⟨kE,(t3.block _ l0 (λh=>h)).trans r0,(t3.block _ l1 (λh=>h)).trans r1,?_,Qi _ _ _ _ _ _ (heap_alloc2_old _ _ _),⟨H5,by omega⟩,?_⟩,Hs.tch t3 (λh=>h) (λ_ _ h=>h),p6.tch t3 noE,hm.allocs3,((M.allocs3 _ w o o' o2).trans ht (λ_ h=>aM h)).trans t3 noE,t3,by simp;omega⟩
 ·exact(tB.block _ (by simp) (by omega)).trans (heap_alloc2_new _ _ _)
 ·rintro k (rfl|rfl|rfl|rfl) e
  ·exact JbE hp o o' o2 hm _ (Ql _) (by omega) (aN e)
  ·exact JbE hp o o' o2 hm _ (by omega) (by omega) (aN e)
  ·have:=(jG _ e.symm).2;omega
  ·have:=(jG _ e.symm).2;omega

theorem Jek(E:Nat->Addr)(b:Nat)(g:Option Nat)(wj:Int)(s:BA)(p:PS)(w:aA)(hE:Env E w)(hp:Jd w b g wj aK p):
  aB N 200 #[X (Z ⟨b,0,Y⟩),L s] w λe w'=>e=aC (aI #[])/\Jd w' b g wj (aJ 235 (X (Z ⟨w.heap.size,0,Y⟩))) p/\Jn E 7 w' (aJ 235 (X (Z ⟨w.heap.size,0,Y⟩)))/\M (λk=>k=b) w w':=by
 have c2:=hp.errCell;have hform:=hE.form;have H5:=hp.lt;obtain⟨d2,f2,q1,q2⟩:=XO (n:=0) (e':=aJ 235 (X (Z ⟨w.heap.size,0,Y⟩))) (hp.tch (Ta D w (T #[L s,eV E 7] 237)) (λh=>h) (λ_ _ h=>h));rw[lE]at d2 f2 q1 q2;have Q1:J _:=q1;have Q2:J _:=q2;have Q3:J (M D w (w.alloc (T #[L s,eV E 7] 237))):=Ta _ _ _;have Q4:J ((w.alloc (T #[L s,eV E 7] 237)).heap[w.heap.size]? =_):=Qf _ _;go_enter func200,ntmps200;go_wp2_with fail;refine(Xk s _ _ _).mono ?_;rintro _ w1⟨rfl,Hf⟩;rw[<-Hf]at d2 f2 Q1 Q2 Q3 Q4;clear Hf;go_wp2;refine bodyPost_end (v:=aI #[]) (results_none results200 _ _ _) rfl ⟨rfl,Q1,.wrap _ _ _ ((Q2.block _ (Jb Q4) (by omega)).trans Q4) .base,(Q3.mono noE).trans Q2 (λ_ h=>aM h)⟩
theorem JbJ(b:Nat)(g:Option Nat)(wj:Int)(s:aG)(p:PS)(t:TypeId)(u:aG)(w:aA)(hp:Jd w b g wj (aJ t u) p):
  aB N 200 #[X (Z ⟨b,0,Y⟩),s] w λe w'=>e=aC (aI #[])/\w=w':=by
 have c2:=hp.errCell;go_enter func200,ntmps200;go_wp2;exact bodyPost_end (v:=aI #[]) (results_none results200 _ _ _) rfl ⟨rfl,rfl⟩


structure Rt{α:Type}(fw fr:PS->Option (α×PS))(y:α)(bs:List UInt8):Prop where
 wr:∀d,fw (.wr d)=Z (y,.wr (d++bs))
 rd:∀q r,fr (.rd q (bs++r))=Z (y,.rd (q++bs) r)
 cut:∀q j,j<bs.length->fr (.rd q (bs.take j))=Y
theorem Rt.ret(y:α)(fw fr:PS->Option (α×PS))(hw:∀p,fw p=Z (y,p))(hr:∀p,fr p=Z (y,p)):Rt fw fr y []:=
 ⟨λd=>by rw[hw,QC],λq r=>by rw[QC];exact hr _,λq j hj=>absurd hj (by simp)⟩
theorem Rt.bind{β:Type}{f f':PS->Option (α×PS)}{K K':α->PS->Option (β×PS)}{F F':PS->Option (β×PS)}{a:α}{y:β}{b1 b2:List UInt8}
 (hf:Rt f f' a b1) (hk:Rt (K a) (K' a) y b2) (hF:∀p,F p=(f p).bind λq=>K q.1 q.2) (cF:∀p,F' p=(f' p).bind λq=>K' q.1 q.2):Rt F F' y (b1++b2):=by
 refine⟨λd=>?_,λq r=>?_,λq j hj=>?_⟩
 ·rw[hF,hf.wr];simp only[Qu];rw[hk.wr,Qs]
 ·rw[cF,Qs,hf.rd];simp only[Qu];rw[hk.rd,Qs]
 ·rw[cF]
  by_cases h:j<b1.length
  ·rw[lD (by omega),hf.cut q j h];rfl
  ·have e:(b1++b2).take j=b1++b2.take (j-b1.length):=(by rw[List.take_append];rw[QS (by omega)]);rw[e,hf.rd];simp only[Qu];exact hk.cut _ _ (by rw[Qe]at hj;omega)
theorem YH(x k:Nat)(h:x<2 ^ (8*k)):∀j,j<=k->numL (beL x k j)=x/2 ^ (8*(k-j)):=by
 intro j
 induction j with
 | zero=>intro _;simp only[beL,Nat.sub_zero];rw[Nat.div_eq_of_lt h];rfl
 | succ j ih=>
  intro hj;simp only[beL];rw[Jag,ih (by omega)];have e:8*(k-j)=8*(k-1-j)+8:=by omega
  have e2:k-(j+1)=k-1-j:=by omega
  rw[e,e2,Nat.pow_add,<-Nat.div_div_eq_div_mul];generalize x/2 ^ (8*(k-1-j))=y;rw[UInt8.toNat_ofNat'];omega
theorem Yj(x k z:Nat)(h:x<2 ^ (8*k)):Rt (PS.num x k) (PS.num z k) x (beL x k k):=by
 have hn:numL (beL x k k)=x:=by rw[YH x k h k (Ql _),Nat.sub_self];simp
 have hl:=Jf x k k;refine⟨λd=>?_,λq r=>?_,λq j hj=>?_⟩
 ·simp only[PS.num];rw[if_pos (Nat.div_eq_of_lt h)]
 ·simp only[PS.num,Qe];rw[if_pos (by omega)];rw[lD (by omega),QS (by omega),hn,List.drop_append_of_le_length (by omega),lI (by omega)];rfl
 ·simp only[PS.num];rw[if_neg (by rw[QB];omega)]
theorem ZV(s z:List UInt8)(k:Nat)(h:s.length=k):Rt (PS.txt s k) (PS.txt z k) s s:=by
 refine⟨λd=>?_,λq r=>?_,λq j hj=>?_⟩
 ·simp only[PS.txt];rw[if_pos h]
 ·simp only[PS.txt,Qe];rw[if_pos (by omega)];rw[lD (by omega),QS (by omega),List.drop_append_of_le_length (by omega),lI (by omega)];rfl
 ·simp only[PS.txt];rw[if_neg (by rw[QB];omega)]

def outB(o:Nat×Nat):List UInt8:=beL o.1 8 8++beL o.2 1 1
def JC(o:Nat×Nat):Prop:=o.1<2 ^ 64/\o.2<256
def Jc(c:BA×Int):List UInt8:=c.1.data.toList++beL (JD c.2) 1 1
def Ji(wj:Nat)(c:BA×Int):Prop:=c.1.size=wj/\0<=c.2/\c.2<3
theorem Jgp(o:Nat×Nat)(z1 z2:Nat)(h:JC o):Rt (PS.out o.1 o.2) (PS.out z1 z2) o (outB o):=by
 refine Rt.bind (K:=λa p=>(p.num o.2 1).bind λq=>Z ((a,q.1),q.2)) (K':=λa p=>(p.num z2 1).bind λq=>Z ((a,q.1),q.2)) (Yj o.1 8 z1 (by have:=h.1;omega)) ?_ ?_ ?_
 ·have:=Rt.bind (F:=λp=>(p.num o.2 1).bind λq=>Z ((o.1,q.1),q.2)) (F':=λp=>(p.num z2 1).bind λq=>Z ((o.1,q.1),q.2)) (Yj o.2 1 z2 (by have:=h.2;omega)) (Rt.ret o (λp=>Z ((o.1,o.2),p)) (λp=>Z ((o.1,o.2),p)) (λ_=>rfl) (λ_=>rfl)) (K:=λb p=>Z ((o.1,b),p)) (K':=λb p=>Z ((o.1,b),p)) (λ_=>rfl) (λ_=>rfl);rw[QC]at this;exact this
 ·intro p;unfold PS.out;cases p.num o.1 8 with
  | none=>rfl
  | some q=>obtain⟨a,p1⟩:=q;simp only[Qu];cases p1.num o.2 1<;>rfl
 ·intro p;unfold PS.out;cases p.num z1 8 with
  | none=>rfl
  | some q=>obtain⟨a,p1⟩:=q;simp only[Qu];cases p1.num z2 1<;>rfl
theorem Zk(n:Int)(h0:0<=n)(h:n<18446744073709551616):(JD n:Int)=n:=by unfold JD;omega
theorem JjU(wj:Nat)(c z:BA×Int)(h:Ji wj c):Rt (PS.coin wj c) (PS.coin wj z) c (Jc c):=by
 obtain⟨h1,h2,h3⟩:=h;have hx:=Zk c.2 h2 (by omega);have hx3:JD c.2<3:=by omega
 refine Rt.bind (K:=λt p=>(p.num (JD c.2) 1).bind λq=>if q.1<3 then Z ((⟨t.toArray⟩,(q.1:Int)),q.2) else Y) (K':=λt p=>(p.num (JD z.2) 1).bind λq=>if q.1<3 then Z ((⟨t.toArray⟩,(q.1:Int)),q.2) else Y) (ZV c.1.data.toList z.1.data.toList wj (by rw[<-h1];simp)) ?_ ?_ ?_
 ·have:=Rt.bind (F:=λp=>(p.num (JD c.2) 1).bind λq=>if q.1<3 then Z (((⟨c.1.data.toList.toArray⟩:BA),(q.1:Int)),q.2) else Y) (F':=λp=>(p.num (JD z.2) 1).bind λq=>if q.1<3 then Z (((⟨c.1.data.toList.toArray⟩:BA),(q.1:Int)),q.2) else Y) (Yj (JD c.2) 1 (JD z.2) (by omega)) (Rt.ret c (λp=>if JD c.2<3 then Z (((⟨c.1.data.toList.toArray⟩:BA),(JD c.2:Int)),p) else Y) (λp=>if JD c.2<3 then Z (((⟨c.1.data.toList.toArray⟩:BA),(JD c.2:Int)),p) else Y) (λp=>by rw[if_pos hx3,hx]) (λp=>by rw[if_pos hx3,hx])) (K:=λ(b:Nat) p=>if b<3 then Z ((⟨c.1.data.toList.toArray⟩,(b:Int)),p) else Y) (K':=λ(b:Nat) p=>if b<3 then Z ((⟨c.1.data.toList.toArray⟩,(b:Int)),p) else Y) (λ_=>rfl) (λ_=>rfl);rw[QC]at this;exact this
 ·intro p;unfold PS.coin;cases p.txt c.1.data.toList wj with
  | none=>rfl
  | some q=>obtain⟨a,p1⟩:=q;simp only[Qu];cases p1.num (JD c.2) 1<;>rfl
 ·intro p;unfold PS.coin;cases p.txt z.1.data.toList wj with
  | none=>rfl
  | some q=>obtain⟨a,p1⟩:=q;simp only[Qu];cases p1.num (JD z.2) 1<;>rfl
theorem JoK:∀(l:List (Nat×Nat)),(∀x∈l,JC x)->Rt (PS.outs l) (PS.outs (lC l.length (0,0))) l (l.flatMap outB):=by
 intro l
 induction l with
 | nil=>intro _;exact Rt.ret [] _ _ (λ_=>rfl) (λ_=>rfl)
 | cons x r ih=>
  intro h;have hr:=ih (λy hy=>h y (QQ _ hy));rw[QG];refine Rt.bind (K:=λy p=>(PS.outs r p).bind λq=>Z (y::q.1,q.2)) (K':=λy p=>(PS.outs (lC r.length (0,0)) p).bind λq=>Z (y::q.1,q.2)) (Jgp x 0 0 (h x QN)) ?_ ?_ ?_
  ·have:=Rt.bind (F:=λp=>(PS.outs r p).bind λq=>Z (x::q.1,q.2)) (F':=λp=>(PS.outs (lC r.length (0,0)) p).bind λq=>Z (x::q.1,q.2)) hr (Rt.ret (x::r) (λp=>Z (x::r,p)) (λp=>Z (x::r,p)) (λ_=>rfl) (λ_=>rfl)) (K:=λb p=>Z (x::b,p)) (K':=λb p=>Z (x::b,p)) (λ_=>rfl) (λ_=>rfl);rw[QC]at this;exact this
  ·intro p;simp only[PS.outs];cases p.out x.1 x.2 with
   | none=>rfl
   | some q=>obtain⟨a,p1⟩:=q;simp only[Qu];cases PS.outs r p1<;>rfl
  ·intro p;simp only[Qp,lM,PS.outs];cases p.out 0 0 with
   | none=>rfl
   | some q=>obtain⟨a,p1⟩:=q;simp only[Qu];cases PS.outs (lC r.length (0,0)) p1<;>rfl
theorem Jm4(wj:Nat):∀(l:List (BA×Int)),(∀x∈l,Ji wj x)->Rt (PS.coins wj l) (PS.coins wj (lC l.length (⟨#[]⟩,0))) l (l.flatMap Jc):=by
 intro l
 induction l with
 | nil=>intro _;exact Rt.ret [] _ _ (λ_=>rfl) (λ_=>rfl)
 | cons x r ih=>
  intro h;have hr:=ih (λy hy=>h y (QQ _ hy));rw[QG];refine Rt.bind (K:=λy p=>(PS.coins wj r p).bind λq=>Z (y::q.1,q.2)) (K':=λy p=>(PS.coins wj (lC r.length (⟨#[]⟩,0)) p).bind λq=>Z (y::q.1,q.2)) (JjU wj x (⟨#[]⟩,0) (h x QN)) ?_ ?_ ?_
  ·have:=Rt.bind (F:=λp=>(PS.coins wj r p).bind λq=>Z (x::q.1,q.2)) (F':=λp=>(PS.coins wj (lC r.length (⟨#[]⟩,0)) p).bind λq=>Z (x::q.1,q.2)) hr (Rt.ret (x::r) (λp=>Z (x::r,p)) (λp=>Z (x::r,p)) (λ_=>rfl) (λ_=>rfl)) (K:=λb p=>Z (x::b,p)) (K':=λb p=>Z (x::b,p)) (λ_=>rfl) (λ_=>rfl);rw[QC]at this;exact this
  ·intro p;simp only[PS.coins];cases p.coin wj x with
   | none=>rfl
   | some q=>obtain⟨a,p1⟩:=q;simp only[Qu];cases PS.coins wj r p1<;>rfl
  ·intro p;simp only[Qp,lM,PS.coins];cases p.coin wj (⟨#[]⟩,0) with
   | none=>rfl
   | some q=>obtain⟨a,p1⟩:=q;simp only[Qu];cases PS.coins wj (lC r.length (⟨#[]⟩,0)) p1<;>rfl
def Jy(l:List (Nat×Nat)):List UInt8:=beL l.length 1 1++l.flatMap outB
def JdW(l:List (BA×Int)):List UInt8:=beL l.length 1 1++l.flatMap Jc
theorem Jer(least most:Nat)(l:List (Nat×Nat))(h:∀x∈l,JC x)(h1:least<=l.length)(h2:l.length<=most)(h3:l.length<256):Rt (PS.listO least most l) (PS.listO least most []) l (Jy l):=by
 have hg:¬(l.length<least\/most<l.length):=by omega
 refine Rt.bind (K:=λcnt p=>if cnt<least\/most<cnt then Y else PS.outs (Zd l cnt) p) (K':=λcnt p=>if cnt<least\/most<cnt then Y else PS.outs (Zd [] cnt) p) (Yj l.length 1 0 (by omega)) ?_ ?_ ?_
 ·have hs:Zd l l.length=l:=by unfold Zd;split<;>simp_all
  have hz:Zd [] l.length=lC l.length (0,0):=rfl;simp only[hg,if_false,hs,hz];exact JoK l h
 ·intro p;unfold PS.listO;cases p.num l.length 1<;>rfl
 ·intro p;unfold PS.listO;simp only[Qv];cases p.num 0 1<;>rfl
theorem Jm5(wj least most:Nat)(l:List (BA×Int))(h:∀x∈l,Ji wj x)(h1:least<=l.length)(h2:l.length<=most)(h3:l.length<256):Rt (PS.listC wj least most l) (PS.listC wj least most []) l (JdW l):=by
 have hg:¬(l.length<least\/most<l.length):=by omega
 refine Rt.bind (K:=λcnt p=>if cnt<least\/most<cnt then Y else PS.coins wj (Yy l cnt) p) (K':=λcnt p=>if cnt<least\/most<cnt then Y else PS.coins wj (Yy [] cnt) p) (Yj l.length 1 0 (by omega)) ?_ ?_ ?_
 ·have hs:Yy l l.length=l:=by unfold Yy;split<;>simp_all
  have hz:Yy [] l.length=lC l.length (⟨#[]⟩,0):=rfl;simp only[hg,if_false,hs,hz];exact Jm4 wj l h
 ·intro p;unfold PS.listC;cases p.num l.length 1<;>rfl
 ·intro p;unfold PS.listC;simp only[Qv];cases p.num 0 1<;>rfl
def txB(t:TxL):List UInt8:=JdW t.1++Jy t.2
structure TxOk(wj:Nat)(t:TxL):Prop where
 coins:∀x∈t.1,Ji wj x
 outs:∀x∈t.2,JC x
 one:1<=t.1.length
 ins:t.1.length<=3
 made:t.2.length<=3
theorem Jph(wj:Nat)(t:TxL)(h:TxOk wj t):Rt (PS.tx wj t) (PS.tx wj ([],[])) t (txB t):=by
 refine Rt.bind (K:=λys p=>(p.listO 0 3 t.2).bind λq=>Z ((ys,q.1),q.2)) (K':=λys p=>(p.listO 0 3 []).bind λq=>Z ((ys,q.1),q.2)) (Jm5 wj 1 3 t.1 h.coins h.one h.ins (by have:=h.ins;omega)) ?_ ?_ ?_
 ·have:=Rt.bind (F:=λp=>(p.listO 0 3 t.2).bind λq=>Z ((t.1,q.1),q.2)) (F':=λp=>(p.listO 0 3 []).bind λq=>Z ((t.1,q.1),q.2)) (Jer 0 3 t.2 h.outs (by omega) h.made (by have:=h.made;omega)) (Rt.ret t (λp=>Z ((t.1,t.2),p)) (λp=>Z ((t.1,t.2),p)) (λ_=>rfl) (λ_=>rfl)) (K:=λb p=>Z ((t.1,b),p)) (K':=λb p=>Z ((t.1,b),p)) (λ_=>rfl) (λ_=>rfl);rw[QC]at this;exact this
 ·intro p;unfold PS.tx;cases p.listC wj 1 3 t.1 with
  | none=>rfl
  | some q=>obtain⟨a,p1⟩:=q;simp only[Qu];cases p1.listO 0 3 t.2<;>rfl
 ·intro p;unfold PS.tx;simp only;cases p.listC wj 1 3 [] with
  | none=>rfl
  | some q=>obtain⟨a,p1⟩:=q;simp only[Qu];cases p1.listO 0 3 []<;>rfl
theorem Jp0(wj:Nat):∀(l:List TxL),(∀x∈l,TxOk wj x)->Rt (PS.txs wj l) (PS.txs wj (lC l.length ([],[]))) l (l.flatMap txB):=by
 intro l
 induction l with
 | nil=>intro _;exact Rt.ret [] _ _ (λ_=>rfl) (λ_=>rfl)
 | cons x r ih=>
  intro h;have hr:=ih (λy hy=>h y (QQ _ hy));rw[QG];refine Rt.bind (K:=λy p=>(PS.txs wj r p).bind λq=>Z (y::q.1,q.2)) (K':=λy p=>(PS.txs wj (lC r.length ([],[])) p).bind λq=>Z (y::q.1,q.2)) (Jph wj x (h x QN)) ?_ ?_ ?_
  ·have:=Rt.bind (F:=λp=>(PS.txs wj r p).bind λq=>Z (x::q.1,q.2)) (F':=λp=>(PS.txs wj (lC r.length ([],[])) p).bind λq=>Z (x::q.1,q.2)) hr (Rt.ret (x::r) (λp=>Z (x::r,p)) (λp=>Z (x::r,p)) (λ_=>rfl) (λ_=>rfl)) (K:=λb p=>Z (x::b,p)) (K':=λb p=>Z (x::b,p)) (λ_=>rfl) (λ_=>rfl);rw[QC]at this;exact this
  ·intro p;simp only[PS.txs];cases p.tx wj x with
   | none=>rfl
   | some q=>obtain⟨a,p1⟩:=q;simp only[Qu];cases PS.txs wj r p1<;>rfl
  ·intro p;simp only[Qp,lM,PS.txs];cases p.tx wj ([],[]) with
   | none=>rfl
   | some q=>obtain⟨a,p1⟩:=q;simp only[Qu];cases PS.txs wj (lC r.length ([],[])) p1<;>rfl
def JL(ts:List TxL):List UInt8:=beL ts.length 1 1++ts.flatMap txB
theorem JjT(wj:Nat)(ts:List TxL)(h:∀t∈ts,TxOk wj t)(h3:ts.length<=3):Rt (PS.body wj ts) (PS.body wj []) ts (JL ts):=by
 have hg:¬3<ts.length:=by omega
 refine Rt.bind (K:=λcnt p=>if 3<cnt then Y else PS.txs wj (Zq ts cnt) p) (K':=λcnt p=>if 3<cnt then Y else PS.txs wj (Zq [] cnt) p) (Yj ts.length 1 0 (by omega)) ?_ ?_ ?_
 ·have hs:Zq ts ts.length=ts:=by unfold Zq;split<;>simp_all
  have hz:Zq [] ts.length=lC ts.length ([],[]):=rfl;simp only[hg,if_false,hs,hz];exact Jp0 wj ts h
 ·intro p;unfold PS.body;cases p.num ts.length 1<;>rfl
 ·intro p;unfold PS.body;simp only[Qv];cases p.num 0 1<;>rfl
abbrev HdL:=Nat×BA×BA×BA
def Hn(h:HdL):List UInt8:=beL h.1 4 4++(h.2.1.data.toList++(h.2.2.1.data.toList++h.2.2.2.data.toList))
structure HdOk(wj:Nat)(h:HdL):Prop where
 height:h.1<2 ^ 32
 a:h.2.1.size=wj
 b:h.2.2.1.size=wj
 c:h.2.2.2.size=wj
theorem JiZ(wj:Nat)(h z:HdL)(hk:HdOk wj h):Rt (PS.hdr wj h) (PS.hdr wj z) h (Hn h):=by
 obtain⟨k1,k2,k3,k4⟩:=hk;obtain⟨n,a,b,c⟩:=h;have r3:=Rt.bind (F:=λp=>(p.txt c.data.toList wj).bind λq=>Z (((n,a,b,(⟨q.1.toArray⟩:BA)):HdL),q.2)) (F':=λp=>(p.txt z.2.2.2.data.toList wj).bind λq=>Z ((n,a,b,(⟨q.1.toArray⟩:BA)),q.2)) (ZV c.data.toList z.2.2.2.data.toList wj (by rw[<-k4];simp)) (Rt.ret (n,a,b,c) (λp=>Z ((n,a,b,c),p)) (λp=>Z ((n,a,b,c),p)) (λ_=>rfl) (λ_=>rfl)) (K:=λt p=>Z ((n,a,b,⟨t.toArray⟩),p)) (K':=λt p=>Z ((n,a,b,⟨t.toArray⟩),p)) (λ_=>rfl) (λ_=>rfl);rw[QC]at r3;have r2:=Rt.bind (F:=λp=>(p.txt b.data.toList wj).bind λq1=>(q1.2.txt c.data.toList wj).bind λq=>Z (((n,a,(⟨q1.1.toArray⟩:BA),(⟨q.1.toArray⟩:BA)):HdL),q.2)) (F':=λp=>(p.txt z.2.2.1.data.toList wj).bind λq1=>(q1.2.txt z.2.2.2.data.toList wj).bind λq=>Z ((n,a,(⟨q1.1.toArray⟩:BA),(⟨q.1.toArray⟩:BA)),q.2)) (ZV b.data.toList z.2.2.1.data.toList wj (by rw[<-k3];simp)) r3 (K:=λt p=>(p.txt c.data.toList wj).bind λq=>Z ((n,a,(⟨t.toArray⟩:BA),(⟨q.1.toArray⟩:BA)),q.2)) (K':=λt p=>(p.txt z.2.2.2.data.toList wj).bind λq=>Z ((n,a,(⟨t.toArray⟩:BA),(⟨q.1.toArray⟩:BA)),q.2)) (λ_=>rfl) (λ_=>rfl);have r1:=Rt.bind (F:=λp=>(p.txt a.data.toList wj).bind λq2=>(q2.2.txt b.data.toList wj).bind λq1=>(q1.2.txt c.data.toList wj).bind λq=>Z (((n,(⟨q2.1.toArray⟩:BA),(⟨q1.1.toArray⟩:BA),(⟨q.1.toArray⟩:BA)):HdL),q.2)) (F':=λp=>(p.txt z.2.1.data.toList wj).bind λq2=>(q2.2.txt z.2.2.1.data.toList wj).bind λq1=>(q1.2.txt z.2.2.2.data.toList wj).bind λq=>Z ((n,(⟨q2.1.toArray⟩:BA),(⟨q1.1.toArray⟩:BA),(⟨q.1.toArray⟩:BA)),q.2)) (ZV a.data.toList z.2.1.data.toList wj (by rw[<-k2];simp)) r2 (K:=λt p=>(p.txt b.data.toList wj).bind λq1=>(q1.2.txt c.data.toList wj).bind λq=>Z ((n,(⟨t.toArray⟩:BA),(⟨q1.1.toArray⟩:BA),(⟨q.1.toArray⟩:BA)),q.2)) (K':=λt p=>(p.txt z.2.2.1.data.toList wj).bind λq1=>(q1.2.txt z.2.2.2.data.toList wj).bind λq=>Z ((n,(⟨t.toArray⟩:BA),(⟨q1.1.toArray⟩:BA),(⟨q.1.toArray⟩:BA)),q.2)) (λ_=>rfl) (λ_=>rfl);refine Rt.bind (Yj n 4 z.1 (by simp only at k1;omega)) r1 (K:=λm p=>(p.txt a.data.toList wj).bind λq2=>(q2.2.txt b.data.toList wj).bind λq1=>(q1.2.txt c.data.toList wj).bind λq=>Z ((m,(⟨q2.1.toArray⟩:BA),(⟨q1.1.toArray⟩:BA),(⟨q.1.toArray⟩:BA)),q.2)) (K':=λm p=>(p.txt z.2.1.data.toList wj).bind λq2=>(q2.2.txt z.2.2.1.data.toList wj).bind λq1=>(q1.2.txt z.2.2.2.data.toList wj).bind λq=>Z ((m,(⟨q2.1.toArray⟩:BA),(⟨q1.1.toArray⟩:BA),(⟨q.1.toArray⟩:BA)),q.2)) ?_ ?_
 ·intro p;unfold PS.hdr;simp only;cases p.num n 4 with
  | none=>rfl
  | some q=>obtain⟨x,p1⟩:=q;simp only[Qu];cases p1.txt a.data.toList wj with
   | none=>rfl
   | some q=>obtain⟨x,p1⟩:=q;simp only[Qu];cases p1.txt b.data.toList wj with
    | none=>rfl
    | some q=>obtain⟨x,p1⟩:=q;simp only[Qu];cases p1.txt c.data.toList wj<;>rfl
 ·intro p;unfold PS.hdr;cases p.num z.1 4 with
  | none=>rfl
  | some q=>obtain⟨x,p1⟩:=q;simp only[Qu];cases p1.txt z.2.1.data.toList wj with
   | none=>rfl
   | some q=>obtain⟨x,p1⟩:=q;simp only[Qu];cases p1.txt z.2.2.1.data.toList wj with
    | none=>rfl
    | some q=>obtain⟨x,p1⟩:=q;simp only[Qu];cases p1.txt z.2.2.2.data.toList wj<;>rfl

def dgW(wj:Nat)(l:List UInt8):ByteArray:=⟨((digL l).take wj).toArray⟩
theorem Jj(wj:Nat)(hw:wj<=32)(l:List UInt8):(dgW wj l).size=wj:=by
 show ((digL l).take wj).toArray.size=wj;simp[JaP];omega


def bt(k:List UInt8)(i:Nat):Nat:=(k.getD (i/8) 0).toNat/2 ^ (7-i % 8) % 2
theorem Yv(k:List UInt8)(i:Nat):bt k i<2:=Nat.mod_lt _ (by decide)
abbrev Key:=List UInt8
inductive Tr where
 | leaf (key:Key) (out:Nat×Nat)
 | br (bit:Nat) (l r:Tr)
def Tr.coins:Tr->List (Key×(Nat×Nat))
 | .leaf k o=>[(k,o)]
 | .br _ l r=>l.coins++r.coins
def Tr.near(k:Key):Tr->Key×(Nat×Nat)
 | .leaf k' o=>(k',o)
 | .br b l r=>if bt k b=0 then l.near k else r.near k
def Tr.pair(n one:Tr)(b at_:Nat):Tr:=if at_=0 then .br b one n else .br b n one
def Tr.graft(k:Key)(o:Nat×Nat)(d:Nat):Tr->Tr
 | .leaf k' o'=>Tr.pair (.leaf k' o') (.leaf k o) d (bt k d)
 | .br b l r=>if d<b then Tr.pair (.br b l r) (.leaf k o) d (bt k d) else if bt k b=0 then .br b (l.graft k o d) r else .br b l (r.graft k o d)
def Tr.cut(k:Key):Tr->Option Tr
 | .leaf _ _=>Y
 | .br b l r=>if bt k b=0 then (match l.cut k with|none=>Z r|some l'=>Z (.br b l' r)) else (match r.cut k with|none=>Z l|some r'=>Z (.br b l r'))
def Tr.Wf:Tr->Prop
 | .leaf _ _=>True
 | .br b l r=>l.Wf/\r.Wf/\(∀x∈l.coins,bt x.1 b=0)/\(∀x∈r.coins,bt x.1 b=1)/\∀x∈l.coins++r.coins,∀y∈l.coins++r.coins,∀i,i<b->bt x.1 i=bt y.1 i
theorem Tr.coins_ne(t:Tr):t.coins ≠ []:=by
 induction t with
 | leaf=>simp[coins]
 | br b l r ihl ihr=>simp[coins,ihl]
theorem Tr.near_mem(k:Key)(t:Tr):t.near k∈t.coins:=by
 induction t with
 | leaf=>simp[near,coins]
 | br b l r ihl ihr=>simp only[near,coins,QE];split<;>simp[*]
theorem Tr.near_of_mem(k:Key)(o:Nat×Nat)(t:Tr)(hw:t.Wf)(h:(k,o)∈t.coins):t.near k=(k,o):=by
 induction t with
 | leaf=>simp only[coins,Qt]at h;rw[h];rfl
 | br b l r ihl ihr=>
  obtain⟨w1,w2,h0,h1,_⟩:=hw;simp only[coins,QE]at h;simp only[near]
  rcases h with h|h
  ·have:=h0 _ h;simp only at this;rw[if_pos this];exact ihl w1 h
  ·have:=h1 _ h;simp only at this;rw[if_neg (by omega)];exact ihr w2 h
theorem Tr.graft_ok(k:Key)(o:Nat×Nat)(d:Nat)(t:Tr)(hw:t.Wf)(hd:bt k d ≠ bt (t.near k).1 d)(hi:∀i,i<d->bt k i=bt (t.near k).1 i):
  (t.graft k o d).Wf/\(∀x,x∈(t.graft k o d).coins↔x=(k,o)\/x∈t.coins)/\(t.graft k o d).coins.length=t.coins.length+1:=by
 have pv:∀n:Tr,n.Wf->(∀x∈n.coins,bt x.1 d ≠ bt k d)->(∀x∈n.coins,∀i,i<d->bt x.1 i=bt k i)->(Tr.pair n (.leaf k o) d (bt k d)).Wf/\(∀x,x∈(Tr.pair n (.leaf k o) d (bt k d)).coins↔x=(k,o)\/x∈n.coins)/\(Tr.pair n (.leaf k o) d (bt k d)).coins.length=n.coins.length+1:=by
  intro n wn hn hs;have k2:=Yv k d;unfold pair
  split
  ·refine⟨⟨trivial,wn,?_,?_,?_⟩,?_,?_⟩
   ·intro x hx;simp only[coins,Qt]at hx;rw[hx];assumption
   ·intro x hx;have:=hn x hx;have:=Yv x.1 d;omega
   ·intro x hx y hy i jS;simp only[coins,QE,Qt]at hx hy;have e1:bt x.1 i=bt k i:=(by rcases hx with rfl|hx;rfl;exact hs x hx i jS);have e2:bt y.1 i=bt k i:=(by rcases hy with rfl|hy;rfl;exact hs y hy i jS);rw[e1,e2]
   ·intro x;simp[coins]
   ·simp[coins]
  ·refine⟨⟨wn,trivial,?_,?_,?_⟩,?_,?_⟩
   ·intro x hx;have:=hn x hx;have:=Yv x.1 d;omega
   ·intro x hx;simp only[coins,Qt]at hx;rw[hx];simp only;omega
   ·intro x hx y hy i jS;simp only[coins,QE,Qt]at hx hy;have e1:bt x.1 i=bt k i:=(by rcases hx with hx|rfl;exact hs x hx i jS;rfl);have e2:bt y.1 i=bt k i:=(by rcases hy with hy|rfl;exact hs y hy i jS;rfl);rw[e1,e2]
   ·intro x;simp only[coins,QE,Qt];exact Or.comm
   ·simp[coins]
 induction t with
 | leaf k' o'=>
  simp only[near]at hd hi;exact pv _ trivial (by intro x hx;simp only[coins,Qt]at hx;rw[hx];exact λe=>hd e.symm) (by intro x hx i jS;simp only[coins,Qt]at hx;rw[hx];exact(hi i jS).symm)
 | br b l r ihl ihr=>
  have yT:=hw;obtain⟨w1,w2,h0,h1,hs⟩:=hw;simp only[graft];have hm:=near_mem k (.br b l r)
  split
  ·rename_i mi;refine pv _ yT ?_ ?_
   ·intro x hx e;exact hd (by rw[<-e];exact hs _ hx _ hm d mi)
   ·intro x hx i jS;rw[hi i jS];exact hs _ hx _ hm i (by omega)
  ·rename_i mi;simp only[near]at hd hi hm;have k2:=Yv k b
   split
   ·rename_i hz;simp only[hz,if_true]at hd hi hm;obtain⟨g1,g2,g3⟩:=ihl w1 hd hi;have cZ:=near_mem k l;have Hd:b ≠ d:=(by rintro rfl;exact hd (by rw[hz];exact(h0 _ cZ).symm));refine⟨⟨g1,w2,?_,h1,?_⟩,?_,?_⟩
    ·intro x hx;rw[g2]at hx;rcases hx with rfl|hx
     ·exact hz
     ·exact h0 x hx
    ·have ek:∀x∈l.coins++r.coins,∀i,i<b->bt x.1 i=bt k i:=by
      intro x hx i tU;rw[hi i (by omega)];exact hs _ hx _ (lK _ cZ) i tU
     intro x hx y hy i tU;have e:∀x∈(l.graft k o d).coins++r.coins,bt x.1 i=bt k i:=by
      intro x hx;simp only[QE,g2]at hx
      rcases hx with(rfl|hx)|hx
      ·rfl
      ·exact ek x (lK _ hx) i tU
      ·exact ek x (lJ _ hx) i tU
     rw[e x hx,e y hy]
    ·intro x;simp only[coins,QE,g2];exact or_assoc
    ·simp only[coins,Qe,g3];omega
   ·rename_i hz;simp only[hz,if_false]at hd hi hm;obtain⟨g1,g2,g3⟩:=ihr w2 hd hi;have cZ:=near_mem k r;have Hd:b ≠ d:=(by rintro rfl;exact hd (by rw[h1 _ cZ];omega));refine⟨⟨w1,g1,h0,?_,?_⟩,?_,?_⟩
    ·intro x hx;rw[g2]at hx;rcases hx with rfl|hx
     ·simp only;omega
     ·exact h1 x hx
    ·have ek:∀x∈l.coins++r.coins,∀i,i<b->bt x.1 i=bt k i:=by
      intro x hx i tU;rw[hi i (by omega)];exact hs _ hx _ (lJ _ cZ) i tU
     intro x hx y hy i tU;have e:∀x∈l.coins++(r.graft k o d).coins,bt x.1 i=bt k i:=by
      intro x hx;simp only[QE,g2]at hx
      rcases hx with hx|rfl|hx
      ·exact ek x (lK _ hx) i tU
      ·rfl
      ·exact ek x (lJ _ hx) i tU
     rw[e x hx,e y hy]
    ·intro x;simp only[coins,QE,g2];constructor
     ·rintro(h|h|h)<;>simp[h]
     ·rintro(h|h|h)<;>simp[h]
    ·simp only[coins,Qe,g3];omega
def JX:Option Tr->List (Key×(Nat×Nat))
 | none=>[]
 | some t=>t.coins
theorem Tr.cut_ok(k:Key)(t:Tr)(hw:t.Wf)(hk:(t.near k).1=k):
  (∀t',t.cut k=Z t'->t'.Wf)/\(∀x,x∈JX (t.cut k)↔x∈t.coins/\x.1 ≠ k)/\(JX (t.cut k)).length+1=t.coins.length:=by
 induction t with
 | leaf k' o'=>
  simp only[near]at hk;subst hk;refine⟨λt' h=>by simp[cut]at h,λx=>?_,by simp[cut,JX,coins]⟩;simp only[cut,JX,coins,Qt];constructor
  ·intro h;cases h
  ·rintro⟨rfl,h⟩;exact absurd rfl h
 | br b l r ihl ihr=>
  obtain⟨w1,w2,h0,h1,hs⟩:=hw;simp only[near]at hk;simp only[cut]
  split
  ·rename_i hz;simp only[hz,if_true]at hk;obtain⟨g1,g2,g3⟩:=ihl w1 hk;have hr:∀x∈r.coins,x.1 ≠ k:=by rintro x hx rfl;have:=h1 x hx;omega
   cases hc:l.cut k with
   | none=>
    rw[hc]at g1 g2 g3;refine⟨λt' h=>by simp only[Qh]at h;rw[<-h];exact w2,λx=>?_,by simp only[JX,coins,Qe,Qv]at g3 ⊢;omega⟩;simp only[JX,coins,QE];constructor
    ·intro h;exact⟨aN h,hr x h⟩
    ·rintro⟨h|h,hn⟩
     ·exact absurd ((g2 x).2 ⟨h,hn⟩) (by simp[JX])
     ·exact h
   | some l'=>
    rw[hc]at g1 g2 g3;refine⟨λt' h=>?_,λx=>?_,by simp only[JX,coins,Qe]at g3 ⊢;omega⟩
    ·simp only[Qh]at h;rw[<-h];have qZ:∀x∈l'.coins++r.coins,x∈l.coins++r.coins:=by
      intro x hx;rw[QE]at hx ⊢;rcases hx with hx|hx
      ·exact aM ((g2 x).1 hx).1
      ·exact aN hx
     exact⟨g1 l' rfl,w2,λx hx=>h0 x ((g2 x).1 hx).1,h1,λx hx y hy i hi=>hs x (qZ x hx) y (qZ y hy) i hi⟩
    ·have g2':=g2 x;simp only[JX]at g2';simp only[JX,coins,QE,g2'];constructor
     ·rintro(⟨h,hn⟩|h)
      ·exact⟨aM h,hn⟩
      ·exact⟨aN h,hr x h⟩
     ·rintro⟨h|h,hn⟩
      ·exact aM ⟨h,hn⟩
      ·exact aN h
  ·rename_i hz;simp only[hz,if_false]at hk;obtain⟨g1,g2,g3⟩:=ihr w2 hk;have hl:∀x∈l.coins,x.1 ≠ k:=by rintro x hx rfl;have:=h0 x hx;omega
   cases hc:r.cut k with
   | none=>
    rw[hc]at g1 g2 g3;refine⟨λt' h=>by simp only[Qh]at h;rw[<-h];exact w1,λx=>?_,by simp only[JX,coins,Qe,Qv]at g3 ⊢;omega⟩;simp only[JX,coins,QE];constructor
    ·intro h;exact⟨aM h,hl x h⟩
    ·rintro⟨h|h,hn⟩
     ·exact h
     ·exact absurd ((g2 x).2 ⟨h,hn⟩) (by simp[JX])
   | some r'=>
    rw[hc]at g1 g2 g3;refine⟨λt' h=>?_,λx=>?_,by simp only[JX,coins,Qe]at g3 ⊢;omega⟩
    ·simp only[Qh]at h;rw[<-h];have qZ:∀x∈l.coins++r'.coins,x∈l.coins++r.coins:=by
      intro x hx;rw[QE]at hx ⊢;rcases hx with hx|hx
      ·exact aM hx
      ·exact aN ((g2 x).1 hx).1
     exact⟨w1,g1 r' rfl,h0,λx hx=>h1 x ((g2 x).1 hx).1,λx hx y hy i hi=>hs x (qZ x hx) y (qZ y hy) i hi⟩
    ·have g2':=g2 x;simp only[JX]at g2';simp only[JX,coins,QE,g2'];constructor
     ·rintro(h|⟨h,hn⟩)
      ·exact⟨aM h,hl x h⟩
      ·exact⟨aN h,hn⟩
     ·rintro⟨h|h,hn⟩
      ·exact aM h
      ·exact aN ⟨h,hn⟩
def lz8(x:UInt8):Nat:=if 128<=x.toNat then 0 else if 64<=x.toNat then 1 else if 32<=x.toNat then 2 else if 16<=x.toNat then 3 else if 8<=x.toNat then 4 else if 4<=x.toNat then 5 else if 2<=x.toNat then 6 else if 1<=x.toNat then 7 else 8
def fd:Key->Key->Nat
 | x::a,y::b=>if x=y then 8+fd a b else lz8 (x ^^^ y)
 | _,_=>0
theorem JpL:∀z:Fin 256,z ≠ 0->lz8 (lN z.val)<8/\z.val/2 ^ (7-lz8 (lN z.val)) % 2=1/\∀i:Fin 8,i.val<lz8 (lN z.val)->z.val/2 ^ (7-i.val) % 2=0:=by decide +kernel
theorem Jjx(x y i:Nat):(x ^^^ y)/2 ^ i % 2=(x/2 ^ i % 2+y/2 ^ i % 2) % 2:=by
 have h:∀a:Nat,a/2 ^ i % 2=(a.testBit i).toNat:=λa=>by rw[Nat.toNat_testBit]
 rw[h,h,h,Nat.testBit_xor]
 cases x.testBit i<;>cases y.testBit i<;>rfl
theorem JjD:∀(a b:Key),a.length=b.length->a ≠ b->fd a b<8*a.length/\bt a (fd a b) ≠ bt b (fd a b)/\∀i,i<fd a b->bt a i=bt b i:=by
 intro a
 induction a with
 | nil=>intro b h hn;cases b with
  | nil=>exact absurd rfl hn
  | cons=>simp at h
 | cons x a ih=>
  intro b h hn
  cases b with
  | nil=>simp at h
  | cons y b=>
   simp only[Qp,Nat.add_right_cancel_iff]at h;have s1:∀(z:UInt8)(c:Key)(i:Nat),i<8->bt (z::c) i=z.toNat/2 ^ (7-i) % 2:=(by intro z c i hi;unfold bt;rw[Nat.div_eq_of_lt hi,lF hi];rfl);have s2:∀(z:UInt8)(c:Key)(i:Nat),bt (z::c) (8+i)=bt c i:=(by intro z c i;unfold bt;rw[show (8+i)/8=i/8+1 by omega,show (8+i) % 8=i % 8 by omega];rfl);simp only[fd]
   split
   ·rename_i e;subst e;obtain⟨p1,p2,p3⟩:=ih b h (λe=>hn (by rw[e]));refine⟨by simp only[Qp];omega,by rw[s2,s2];exact p2,λi hi=>?_⟩
    by_cases h8:i<8
    ·rw[s1 _ _ _ h8,s1 _ _ _ h8]
    ·obtain⟨j,rfl⟩:∃j,i=8+j:=⟨i-8,by omega⟩
     rw[s2,s2];exact p3 j (by omega)
   ·rename_i e;have hz:(x ^^^ y).toNat ≠ 0:=by
     intro h0;apply e;rw[UInt8.toNat_xor]at h0;apply UInt8.toNat_inj.1;apply Nat.eq_of_testBit_eq;intro i;have:=congrArg (λn=>n.testBit i) h0;simp only[Nat.testBit_xor,Nat.zero_testBit]at this
     revert this
     cases x.toNat.testBit i<;>cases y.toNat.testBit i<;>simp
    have H5:(x ^^^ y).toNat<256:=lH _;obtain⟨q1,q2,q3⟩:=JpL ⟨(x ^^^ y).toNat,H5⟩ (λe=>hz (by have:=congrArg Fin.val e;exact this));rw[show lN (⟨(x ^^^ y).toNat,H5⟩:Fin 256).val=x ^^^ y from UInt8.ofNat_toNat]at q1 q2 q3;simp only at q2 q3;rw[UInt8.toNat_xor,Jjx]at q2;refine⟨by simp only[Qp];omega,?_,λi hi=>?_⟩
    ·rw[s1 _ _ _ q1,s1 _ _ _ q1];omega
    ·have:=q3 ⟨i,by omega⟩ hi;simp only at this;rw[UInt8.toNat_xor,Jjx]at this;rw[s1 _ _ _ (by omega),s1 _ _ _ (by omega)];omega

theorem Jcw(k:IntKind)(j:Nat)(hj:j<=k.bits)(hk:∀n:Int,0<=n->n<2 ^ j->k.wrap n=n)(a b:Nat)(ha:a<2 ^ j)(hb:b<2 ^ j):bits .xor k a b=((a ^^^ b:Nat):Int):=by
 have hp:2 ^ j<=2 ^ k.bits:=Nat.pow_le_pow_right (by decide) hj;have ha':a % 2 ^ k.bits=a:=lF (Nat.lt_of_lt_of_le ha hp);have hb':b % 2 ^ k.bits=b:=lF (Nat.lt_of_lt_of_le hb hp);simp only[bits,BitVec.ofInt_natCast,BitVec.toNat_xor,BitVec.toNat_ofNat,ha',hb'];refine hk _ (lG _) ?_;have:=Nat.xor_lt_two_pow ha hb
 exact_mod_cast this
def U32(x:Int):Prop:=0<=x/\x<4294967296
theorem w63(n:Int)(h₀:0<=n)(h₁:n<2 ^ 63):I.wrap n=n:=by rw[IntKind.wrap_i64];omega
theorem w32(n:Int)(h₀:0<=n)(h₁:n<2 ^ 32):lO.wrap n=n:=by rw[IntKind.wrap_u32];omega
theorem U32.nat(h:U32 x):∃a:Nat,x=(a:Int)/\a<2 ^ 32:=⟨x.toNat,by have:=h.1;omega,by have:=h.1;have:=h.2;omega⟩
theorem lt63{a:Nat}(h:a<2 ^ 32):a<2 ^ 63:=Nat.lt_trans h (by decide)
theorem JbT(hx:U32 x)(hy:U32 y):bits .and I x y=bits .and aF x y:=by
 obtain⟨a,rfl,ha⟩:=hx.nat;obtain⟨b,rfl,hb⟩:=hy.nat;rw[(bits_nat I 63 (by decide) w63 a b (lt63 ha) (lt63 hb)).1,(bits_nat aF 32 (by decide) w32 a b ha hb).1]
theorem YS(hx:U32 x)(hy:U32 y):bits .xor I x y=bits .xor aF x y:=by
 obtain⟨a,rfl,ha⟩:=hx.nat;obtain⟨b,rfl,hb⟩:=hy.nat;rw[Jcw I 63 (by decide) w63 a b (lt63 ha) (lt63 hb),Jcw aF 32 (by decide) w32 a b ha hb]
theorem Jnv(n:Int):U32 (lO.wrap n):=by rw[IntKind.wrap_u32];unfold U32;omega
theorem Xi(op:BinOp)(x y:Int):U32 (bits op aF x y):=by
 unfold bits
 split<;>exact Jnv _
theorem Jdw(x:Int):U32 (x % 4294967296):=by unfold U32;omega
theorem ZX(n:Nat)(x:Int):U32 (rr n x):=Xi _ _ _
theorem Jj2(h:U32 x)(n:Nat):U32 (x/2 ^ n):=by
 obtain⟨a,rfl,ha⟩:=h.nat;have e:(a:Int)/2 ^ n=((a/2 ^ n:Nat):Int):=by simp
 rw[e];have:=Nat.div_le_self a (2 ^ n);exact⟨lG _,by omega⟩
theorem Jlj(h:U32 x)(n:Nat)(h1:1<=n)(h2:n<=31):bits .or I (x/2 ^ n) (x*2 ^ (32-n)) % 4294967296=rr n x/\0<=bits .or I (x/2 ^ n) (x*2 ^ (32-n))/\0<=x*2 ^ (32-n)/\x*2 ^ (32-n)<9223372036854775808:=by
 obtain⟨a,rfl,ha⟩:=h.nat;have e1:(a:Int)/2 ^ n=((a/2 ^ n:Nat):Int):=by simp
 have e2:(a:Int)*2 ^ (32-n)=((a*2 ^ (32-n):Nat):Int):=by simp
 have hq:a/2 ^ n<2 ^ 32:=Nat.lt_of_le_of_lt (Nat.div_le_self _ _) ha;have hp:2 ^ (32-n)<=2 ^ 31:=Nat.pow_le_pow_right (by decide) (by omega);have hm:a*2 ^ (32-n)<2 ^ 63:=by
  have h3:a*2 ^ (32-n)<=a*2 ^ 31:=Nat.mul_le_mul_left _ hp;have h4:a*2 ^ 31<2 ^ 32*2 ^ 31:=(Nat.mul_lt_mul_right (by decide)).2 ha;have h5:(2:Nat) ^ 32*2 ^ 31=2 ^ 63:=by decide
  omega
 unfold rr;rw[e1,e2,(bits_nat I 63 (by decide) w63 _ _ (lt63 hq) hm).2];have e3:((a*2 ^ (32-n):Nat):Int) % 4294967296=((a*2 ^ (32-n) % 2 ^ 32:Nat):Int):=by simp
 rw[e3,(bits_nat aF 32 (by decide) w32 _ _ (Nat.mod_lt _ (by decide)) hq).2];refine⟨?_,lG _,lG _,by omega⟩;have e4:(((a/2 ^ n ||| a*2 ^ (32-n):Nat)):Int) % 4294967296=(((a/2 ^ n ||| a*2 ^ (32-n)) % 2 ^ 32:Nat):Int):=by simp
 rw[e4,Nat.or_mod_two_pow,lF hq,Nat.or_comm]
theorem Joz(h:U32 x):bits .xor aF lO.max x=4294967295-x:=by
 obtain⟨a,rfl,ha⟩:=h.nat;have e:lO.max=((4294967295:Nat):Int):=by decide
 rw[e,Jcw aF 32 (by decide) w32 _ _ (by decide) ha];have e2:4294967295 ^^^ a=4294967295-a:=by have:=BitVec.toNat_not (x:=BitVec.ofNat 32 a);rw[<-BitVec.allOnes_xor,BitVec.toNat_xor,BitVec.toNat_allOnes,BitVec.toNat_ofNat,lF ha]at this;simpa using this
 rw[e2];omega
theorem JnF(b0 b1 b2 b3:UInt8):word b0 b1 b2 b3=(b0.toNat:Int)*16777216+(b1.toNat:Int)*65536+(b2.toNat:Int)*256+(b3.toNat:Int):=by
 have h0:=lH b0;have h1:=lH b1;have h2:=lH b2;have h3:=lH b3;unfold word;generalize b0.toNat=a0 at *;generalize b1.toNat=a1 at *;generalize b2.toNat=a2 at *;generalize b3.toNat=a3 at *;have m0:(a0:Int) % 4294967296*16777216 % 4294967296=(a0:Int)*16777216:=by omega
 have m1:(a1:Int) % 4294967296*65536 % 4294967296=(a1:Int)*65536:=by omega
 have m2:(a2:Int) % 4294967296*256 % 4294967296=(a2:Int)*256:=by omega
 have m3:(a3:Int) % 4294967296=(a3:Int):=by omega
 rw[m0,m1,m2,m3];rw[bits_join aF 32 (by decide) w32 24 ((a0:Int)*16777216) ((a1:Int)*65536) (by omega) (by omega) (by omega) (by omega) (by omega) (by omega)];rw[bits_join aF 32 (by decide) w32 16 ((a0:Int)*16777216+(a1:Int)*65536) ((a2:Int)*256) (by omega) (by omega) (by omega) (by omega) (by omega) (by omega)];rw[bits_join aF 32 (by decide) w32 8 ((a0:Int)*16777216+(a1:Int)*65536+(a2:Int)*256) (a3:Int) (by omega) (by omega) (by omega) (by omega) (by omega) (by omega)]
theorem Jik(b:List UInt8):∀k,∀x∈Wl b k,U32 x
 | 0,x,h=>by cases h
 | k+1,x,h=>by
  unfold Wl stW at h
  rcases List.mem_append.1 h with h|h
  ·exact Jik b k x h
  ·rw[List.mem_singleton]at h;rw[h];unfold nxW
   split
   ·exact Xi _ _ _
   ·exact Jdw _
