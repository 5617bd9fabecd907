import Derived.Test.YtighkdnooglfjaaGreatDoorLxKPr
import Derived.Test.YtighkdnooglfjaaGreatDoorLxPRs
namespace Go.Proofs.YtighkdnooglfjaaGreatDoor
open Tryz
set_option maxRecDepth 100000
set_option maxHeartbeats 2000000
open Go.RowKit

variable {a:List (List UInt8)}{l:List Held}{s:List UInt8}{d:List UInt8->BA}{base j wj:Nat}{w:World}
theorem Jne(k:List UInt8)(i:Nat)(hi:i<8*k.length)(hl:k.length<=1000000)(w:World):
  Calls prog 59 #[.string ⟨k.toArray⟩,.int .i64 (i:Int)] w λe w'=>e=.returned (.int .i64 (bt k i:Int))/\w'=w:=by
 have hsz:(⟨k.toArray⟩:BA).size=k.length:=Jy k;have hix:i/8<(⟨k.toArray⟩:BA).size:=by omega
 have HB:Hid ((⟨k.toArray⟩:BA)[i/8].toNat=(k.getD (i/8) 0).toNat):=by
  show UInt8.toNat _=_
  congr 1
  simp[List.getD_eq_getElem?_getD,show i/8<k.length by omega];rfl
 have hlt:=UInt8.toNat_lt (⟨k.toArray⟩:BA)[i/8];have HBT:Hid (bt k i=(k.getD (i/8) 0).toNat/2 ^ (7-i % 8) % 2):=rfl;clear hsz;generalize (⟨k.toArray⟩:BA)=tb at *;have hq:((i:Int)/8).toNat=i/8:=by omega
 go_enter func59,ntmps59;go_wp2;go_ret;refine⟨JcU ?_,rfl⟩;have e1:((tb[i/8].toNat:Int)/2 ^ (7-i % 8))=((tb[i/8].toNat/2 ^ (7-i % 8):Nat):Int):=by simp
 have hle:tb[i/8].toNat/2 ^ (7-i % 8)<=tb[i/8].toNat:=Nat.div_le_self _ _;rw[e1];have e2:wrap64 ((tb[i/8].toNat/2 ^ (7-i % 8):Nat):Int)=((tb[i/8].toNat/2 ^ (7-i % 8):Nat):Int):=by
  have h0:(0:Int)<=((tb[i/8].toNat/2 ^ (7-i % 8):Nat):Int):=Int.natCast_nonneg _;have h1:((tb[i/8].toNat/2 ^ (7-i % 8):Nat):Int)<256:=by omega
  generalize ((tb[i/8].toNat/2 ^ (7-i % 8):Nat):Int)=z at *;unfold wrap64;omega
 rw[e2,HBT.o,<-HB.o];rfl
def Xz(l:List Held)(b:Nat):Bool:=match l with
 | []=>true
 | h::r=>r.all λx=>bt (Je x.1) b == bt (Je h.1) b
theorem Jmk(xb wj b:Nat)(hb:b<8*(wj+1))(hw:wj<=32)(v:Value)(h0:Held)(r:List Held)(w:World)(hv:JQ w v (h0::r))(hco:∀h∈h0::r,Jj wj h.1)(hlen:(h0::r).length<=1000000000):
  Calls prog 58 #[.pointer (some ⟨xb,0,none⟩),v,.int .i64 (b:Int)] w λe w'=>e=.returned (.bool (Xz (h0::r) b))/\Tch NoB w w':=by
 rcases hv with⟨_,e⟩|⟨g,o,c,rfl,hg,hcell⟩
 ·cases e
 have HKT:Hid (∀V (s:BA) (N:Int),Jj wj (s,N)->Calls prog 54 #[.agg #[.string s,.int .i64 N]] V λe w'=>e=.returned (.string ⟨(Je (s,N)).toArray⟩)/\Tch NoB V w'):=λV s N hc=>ZQ (s,N) V hc.2.1 (by have:=hc.2.2;omega) (by have:=hc.1;dsimp only at this;show s.size<=_;omega);have HBT:Hid (∀V (c:BA×Int),Jj wj c->Calls prog 59 #[.string ⟨(Je c).toArray⟩,.int .i64 (b:Int)] V λe w'=>e=.returned (.int .i64 (bt (Je c) b:Int))/\w'=V):=λV c hc=>by
  have hl:(Je c).length=wj+1:=by unfold Je;rw[Qe,JR,Jf,hc.1]
  exact Jne (Je c) b (by rw[hl];exact hb) (by rw[hl];omega) V
 have HC:Hid (∀(i:Nat)(h:i<(h0::r).length),Jj wj (h0::r)[i].1/\∀V,Tch NoB w V->V.cell? ⟨g,o+i*4,none⟩=some (.string (h0::r)[i].1.1)/\V.cell? ⟨g,o+i*4+1,none⟩=some (.int .i64 (h0::r)[i].1.2)):=λi h=>⟨hco _ (Qx h),λV hV=>⟨(hV.cell (p:=⟨g,o+i*4,none⟩) hg (λe=>e)).trans (hcell i h).1,(hV.cell (p:=⟨g,o+i*4+1,none⟩) hg (λe=>e)).trans (hcell i h).2.1⟩⟩
 have HAL:Hid (Xz (h0::r) b=r.all λx=>bt (Je x.1) b == bt (Je h0.1) b):=rfl;generalize Xz (h0::r) b=al at *;have hn:(h0::r).length=r.length+1:=rfl;have hlen':r.length<=1000000000:=by omega
 rw[hn];clear hcell hco hlen hn hb;go_enter func58,ntmps58;go_upto_region 2 with fail;go_loopw [7] (λi wr=>∃k:Nat,k<=r.length/\i=.int .i64 ((k:Int)+1)/\Hid ((r.take k).all (λx=>bt (Je x.1) b == bt (Je h0.1) b)=true)/\Hid (Tch NoB w wr)) (λi _=>r.length+1-(intOf i).toNat)
 case atStart=>exact⟨0,Nat.zero_le _,rfl,(by simp:((r.take 0).all (λx=>bt (Je x.1) b == bt (Je h0.1) b))=true),Te _ _⟩
 case round=>
  obtain⟨k,hk,rfl,HA,HT⟩:=hrel
  by_cases hgo:k<r.length
  ·have hki:(k:Int)+1<((r.length+1:Nat):Int):=(by omega);obtain⟨ok0,c0⟩:=HC.o 0 (by simp);obtain⟨okk,ck⟩:=HC.o (k+1) (by simp;omega);have hxe:(h0::r)[k+1]'(by simp;omega)=r[k]:=rfl;rw[hxe]at okk ck;have hx0:(h0::r)[0]'(by simp)=h0:=rfl;rw[hx0]at ok0 c0;have HNX:Hid ((r.take (k+1)).all (λx=>bt (Je x.1) b == bt (Je h0.1) b)=(bt (Je r[k].1) b == bt (Je h0.1) b)):=by
    show List.all _ _=_;rw[QQ hgo,List.all_append,HA.o];simp
   have HNO:Hid (¬bt (Je r[k].1) b=bt (Je h0.1) b->al=false):=λhne=>by
    rw[HAL.o,List.all_eq_false];exact⟨r[k],Qx hgo,by simpa using hne⟩
   obtain⟨⟨⟨s0,N0⟩,o0⟩,hh0⟩:∃x:Held,x=h0:=⟨_,rfl⟩
   obtain⟨⟨⟨sk,Nk⟩,ok⟩,hhk⟩:∃x:Held,x=r[k]:=⟨_,rfl⟩
   rw[<-hh0]at ok0 c0 HNO;rw[<-hhk]at okk ck HNO;have HNX2:Hid (bt (Je (sk,Nk)) b=bt (Je (s0,N0)) b->(r.take (k+1)).all (λx=>bt (Je x.1) b == bt (Je h0.1) b)=true):=λe=>by rw[HNX.o,<-hh0,<-hhk];simpa using e
   clear HNX;have HO:Hid (Jj wj (s0,N0)/\Jj wj (sk,Nk)):=⟨ok0,okk⟩
   have HCC:Hid (∀V,Tch NoB w V->V.cell? ⟨g,o,none⟩=some (.string s0)/\V.cell? ⟨g,o+1,none⟩=some (.int .i64 N0)/\V.cell? ⟨g,o+(k+1)*4,none⟩=some (.string sk)/\V.cell? ⟨g,o+(k+1)*4+1,none⟩=some (.int .i64 Nk)):=λV hV=>by
    have a0:=c0 V hV;have ak:=ck V hV;simp only[Nat.zero_mul,Nat.add_zero]at a0;exact⟨a0.1,a0.2,ak.1,ak.2⟩
   obtain⟨x0,x1,xk,xl⟩:=HCC.o wr HT.o;have hk0:(0:Int)<=(k:Int)+1:=(by omega);have HGO:Hid _:=hgo;clear ok0 c0 okk ck hxe hx0 hgo hh0 hhk hk;go_upto_region 4 with fail;go_cut [29] (λv wx=>v=.bool (decide (¬bt (Je (sk,Nk)) b=bt (Je (s0,N0)) b))/\Hid (Tch NoB w wx))
   case first=>
    have hkt:((k:Int)+1).toNat=k+1:=(by omega);have HTd:Hid (Tch NoB w wr.drew):=HT.o.go (Td _ wr 1);go_region_held3 (λV=>V.cell? ⟨g,o,none⟩=some (.string s0)/\V.cell? ⟨g,o+1,none⟩=some (.int .i64 N0)/\V.cell? ⟨g,o+(k+1)*4,none⟩=some (.string sk)/\V.cell? ⟨g,o+(k+1)*4+1,none⟩=some (.int .i64 Nk)) (go_keep) ((first|(go_at_call 54;refine(HKT.o _ _ _ (by first|exact HO.o.2|exact HO.o.1)).mono ?_;rintro _ w5⟨rfl,ht5⟩;have HT5:Hid (Tch NoB w w5):=(by first|exact HTd.o.go ht5|exact HT5.o.go ht5);obtain⟨y0,y1,yk,yl⟩:=HCC.o w5 HT5.o;clear ht5)|(go_at_call 59;refine(HBT.o _ _ (by first|exact HO.o.2|exact HO.o.1)).mono ?_;rintro _ _⟨rfl,rfl⟩)))
    all_goals go_wp2;go_meet;refine⟨?_,by first|exact HT5⟩;rw[Value.bool.injEq,Bool.eq_iff_iff];simp only[bne_iff_ne,ne_eq,decide_eq_true_eq];omega
   case rest=>
   obtain⟨rfl,HT6⟩:=hcut;obtain⟨w6,hw6⟩:∃w6,w6=wc:=⟨wc,rfl⟩
   subst hw6;clear HCC x0 x1 xk xl
   by_cases hne:bt (Je (sk,Nk)) b=bt (Je (s0,N0)) b
   ·have hd:(decide (¬bt (Je (sk,Nk)) b=bt (Je (s0,N0)) b))=false:=(by simp[hne]);rw[hd];have HN:Hid ((r.take (k+1)).all (λx=>bt (Je x.1) b == bt (Je h0.1) b)=true):=(by exact HNX2.o hne);go_wp2;go_roundw
    case rel=>exact⟨k+1,HGO.o,by have:=HGO.o;go_num,HN,HT6⟩
    case measure=>have:=HGO.o;simp[intOf];omega
   ·have hd:(decide (¬bt (Je (sk,Nk)) b=bt (Je (s0,N0)) b))=true:=(by simp[hne]);rw[hd];have HN:Hid (al=false):=HNO.o hne;go_wp2;go_ret;rw[HN.o];exact⟨rfl,HT6.o⟩
  ·have hki:¬(k:Int)+1<((r.length+1:Nat):Int):=(by omega);have HAL2:Hid (al=true):=by
    show al=true;rw[HAL.o];have:=HA.o;rw[QR (by omega)]at this;exact this
   go_wp2;go_ret;rw[HAL2.o];exact⟨rfl,HT.o⟩

def koL(l:List Held):List KO:=l.map λh=>(Je h.1,h.2)
theorem ZZ(h0:Held)(r:List Held)(b:Nat):Xz (h0::r) b=true↔∀x∈h0::r,bt (Je x.1) b=bt (Je h0.1) b:=by
 unfold Xz;simp only[List.all_eq_true,beq_iff_eq,List.mem_cons,forall_eq_or_imp,true_and]
theorem Jmf(h0:Held)(r:List Held)(b:Nat)(hno:Xz (h0::r) b=false)(hyes:∀i,i<b->Xz (h0::r) i=true):Fork (koL (h0::r)) b:=by
 constructor
 ·intro x hx y hy i hi;have h:=(ZZ h0 r i).1 (hyes i hi);obtain⟨u,hu,rfl⟩:=QK.1 hx;obtain⟨v,hv,rfl⟩:=QK.1 hy;exact(h u hu).trans (h v hv).symm
 ·apply Classical.byContradiction;intro hc;have:Xz (h0::r) b=true:=(ZZ h0 r b).2 λx hx=>by
   apply Classical.byContradiction;intro hne;exact hc ⟨_,QK.2 ⟨x,hx,rfl⟩,_,QK.2 ⟨h0,QM,rfl⟩,hne⟩
  rw[hno]at this
  cases this
theorem Jme(h0 x:Held)(r:List Held)(hok:∀h∈h0::x::r,Jj wj h.1)(hnd:((h0::x::r).map (·.1)).Nodup):∃b,b<8*(wj+1)/\Xz (h0::x::r) b=false:=by
 have k0:=hok h0 (by simp);have kx:=hok x (by simp);have hne:Je h0.1 ≠ Je x.1:=λe=>by
  have:=YH k0 kx e;simp[this]at hnd
 obtain⟨h1,h2,_⟩:=Jim (Je h0.1) (Je x.1) (by rw[XX k0,XX kx]) hne;rw[XX k0]at h1;refine⟨_,h1,?_⟩
 cases ha:Xz (h0::x::r) (fd (Je h0.1) (Je x.1)) with
 | false=>rfl
 | true=>exact absurd ((ZZ h0 (x::r) _).1 ha x (by simp)).symm h2
def JT(l:List Held)(b v:Nat):List Held:=l.filter λh=>bt (Je h.1) b=v
theorem Jdb(l:List Held)(b v:Nat):koL (JT l b v)=side (koL l) b v:=by
 unfold koL JT side;rw[List.filter_map];rfl
theorem Jak(l:List Held)(x:Held)(b v:Nat):JT (l++[x]) b v=if bt (Je x.1) b=v then JT l b v++[x] else JT l b v:=by
 unfold JT;rw[List.filter_append]
 by_cases h:bt (Je x.1) b=v
 ·rw[if_pos h,List.filter_cons_of_pos (by simpa using h)];rfl
 ·rw[if_neg h,List.filter_cons_of_neg (by simpa using h)];simp
theorem JeH(l:List Held)(b:Nat):(JT l b 0).length+(JT l b 1).length=l.length:=by
 have:=JgO (koL l) b;rw[<-Jdb,<-Jdb]at this;simpa [koL]using this
theorem JlA(h0:Held)(r:List Held)(b:Nat)(hno:Xz (h0::r) b=false):(JT (h0::r) b 0).length<(h0::r).length/\(JT (h0::r) b 1).length<(h0::r).length:=by
 have hl:=JeH (h0::r) b;have hx:∃x∈h0::r,¬bt (Je x.1) b=bt (Je h0.1) b:=by
  apply Classical.byContradiction;intro hc;have:Xz (h0::r) b=true:=(ZZ h0 r b).2 λx hx=>by
   apply Classical.byContradiction;intro hne;exact hc ⟨x,hx,hne⟩
  rw[hno]at this
  cases this
 obtain⟨x,hx,hne⟩:=hx;have b0:=Yf (Je h0.1) b;have bx:=Yf (Je x.1) b;have m0:h0∈JT (h0::r) b (bt (Je h0.1) b):=QN.2 ⟨QM,by simp⟩;have mx:x∈JT (h0::r) b (bt (Je x.1) b):=QN.2 ⟨hx,by simp⟩;have p0:=List.length_pos_of_mem m0;have px:=List.length_pos_of_mem mx;have h2:(bt (Je h0.1) b=0/\bt (Je x.1) b=1)\/(bt (Je h0.1) b=1/\bt (Je x.1) b=0):=by omega
 rcases h2 with⟨e1,e2⟩|⟨e1,e2⟩
 ·rw[e1]at p0;rw[e2]at px;omega
 ·rw[e1]at p0;rw[e2]at px;omega
theorem Jhn(h0 x:Held)(r:List Held)(hok:∀h∈h0::x::r,Jj wj h.1)(hnd:((h0::x::r).map (·.1)).Nodup):∃b,b<8*(wj+1)/\Xz (h0::x::r) b=false/\∀i,i<b->Xz (h0::x::r) i=true:=by
 obtain⟨b,hb,hf⟩:=Jme h0 x r hok hnd;generalize 8*(wj+1)=M at *;generalize h0::x::r=l at *;clear hok hnd
 induction b using Nat.strongRecOn with
 | _ b ih=>
  by_cases hall:∀i,i<b->Xz l i=true
  ·exact⟨b,hb,hf,hall⟩
  ·obtain⟨i,hi⟩:=Classical.not_forall.1 hall;obtain⟨hib,hia⟩:=Classical.not_imp.1 hi;exact ih i hib (by omega) (by simpa using hia)
theorem JjN(h0:Held)(r:List Held)(b:Nat)(hno:Xz (h0::r) b=false)(hyes:∀i,i<b->Xz (h0::r) i=true){t:List UInt8}{p q:List (List UInt8)}(hs:XK d (koL (JT (h0::r) b 0)) s p)(ht:XK d (koL (JT (h0::r) b 1)) t q):
  XK d (koL (h0::r)) (78::(beL b 2 2++((d s).data.toList++(d t).data.toList))) (p++q++[78::(beL b 2 2++((d s).data.toList++(d t).data.toList))]):=by
 rw[Jdb]at hs ht;exact .two _ b s t p q (Jmf h0 r b hno hyes) hs ht
theorem JbL{P:Held->Prop}(l:List Held)(b v:Nat)(h:∀x∈l,P x):∀x∈JT l b v,P x:=λx hx=>h x (QN.1 hx).1
theorem JcA(l:List Held)(b v:Nat)(h:(l.map (·.1)).Nodup):((JT l b v).map (·.1)).Nodup:=h.sublist (List.Sublist.map _ List.filter_sublist)
theorem XK.tlen(hw:wj<=32)(hok:∀h∈l,Jj wj h.1)(h:XK (dgW wj) (koL l) s a):s.length<=1000:=by
 have hd:∀y,(dgW wj y).data.toList.length=wj:=λy=>by rw[JR,Jw wj hw]
 generalize hk:koL l=kl at h
 cases h with
 | none=>simp
 | one k o=>
  have hm:(k,o)∈koL l:=by rw[hk];simp
  obtain⟨x,hx,e⟩:=QK.1 hm;have hl:=XX (hok x hx);have e1:Je x.1=k:=congrArg Prod.fst e;rw[e1]at hl;simp only[Qp,Qe,hl,JaD];omega
 | two _ b x y p q hf _ _=>
  simp only[Qp,Qe,Jf,hd];omega

theorem Jb6:∀(l:List Held),(∀h∈l,Jj wj h.1)->(l.map (·.1)).Nodup->((koL l).map (·.1)).Nodup
 | [],_,_=>by simp[koL]
 | x::r,hok,hn=>by
  rw[List.map_cons,List.nodup_cons]at hn;have ih:=Jb6 r (λh hh=>hok h (QP _ hh)) hn.2;unfold koL at ih ⊢;rw[List.map_cons,List.map_cons,List.nodup_cons];refine⟨λhm=>hn.1 ?_,ih⟩;rw[List.map_map,QK]at hm;obtain⟨y,hy,e⟩:=hm;have e2:y.1=x.1:=YH (hok y (QP _ hy)) (hok x QM) e;exact QK.2 ⟨y,hy,e2⟩
theorem Jdy{st:Option Tr}(B:Book wj st l)(h:XK d (koL l) s a):a=Xq d st:=by
 refine XK.of_state B.wf (λx=>?_) (Jb6 l (λh hh=>(B.ok h hh).1) B.nodup) h;unfold koL;rw[QK];obtain⟨k,o⟩:=x;rw[B.mem];constructor
 ·rintro⟨h,h1,h2⟩;simp only[Qw]at h2;exact⟨h,h1,h2⟩
 ·rintro⟨h,h1,h2,h3⟩;exact⟨h,h1,by rw[h2,h3]⟩

def strB(l:List (List UInt8)):List BA:=l.map λx=>⟨x.toArray⟩
def SRow(base:Nat)(w:World)(j:Nat):Prop:=base<=j/\∃cs m,w.heap[j]? =some (.cells cs 9 m)
theorem SRow.not{cs:Array Value}{T:TypeId}{m:Nat×Nat}(h:w.heap[j]? =some (.cells cs T m))(hT:¬T=9):¬SRow base w j:=λe=>by
 obtain⟨_,cs',m',h'⟩:=e;rw[h]at h';simp only[Qh,Obj.cells.injEq]at h';exact hT h'.2.1
theorem SRow.back{w':World}(k:Tch (SRow base w) w w')(h:SRow base w' j):SRow base w j\/w.heap.size<=j:=by
 by_cases hj:w.heap.size<=j
 ·exact .inr hj
 ·refine .inl ?_;apply Classical.byContradiction;intro hn;obtain⟨h1,cs,m,h2⟩:=h;exact hn ⟨h1,cs,m,(k.block j (by omega) hn).symm.trans h2⟩
def ZY(wj base:Nat)(l:List Held)(w:World)(al:List BA)(e:Ending)(w':World):Prop:=
 ∃s a va',e=.returned (.tuple #[.string ⟨s.toArray⟩,va'])/\XK (dgW wj) (koL l) s a/\NOwn base w' va' (al++strB a)/\Tch (SRow base w) w w'
theorem Jmo(wj base xb:Nat)(w:World)(v va:Value)(al:List BA)(hv:JQ w v [])(ha:NOwn base w va al)(hb:base<=w.heap.size)(hl:al.length<=1000000000):
  Calls prog 30 #[.pointer (some ⟨xb,0,none⟩),v,va] w λe w'=>ZY wj base [] w al e w':=by
 obtain⟨p,q,hvs⟩:∃p q,v=.slice p 0 q:=by
  rcases hv with⟨rfl,_⟩|⟨g,o,c,rfl,_⟩
  ·exact⟨_,_,rfl⟩
  ·exact⟨_,_,rfl⟩
 subst hvs;have tA:=Ta NoB w (.cells #[.string ⟨#[69]⟩] 9);have hrA:=Qf w (.cells #[.string ⟨#[69]⟩] 9);obtain⟨v',w3,hrun,hown,hg⟩:=Xx (ha.tch tA (λ_ _ h=>h)) w.heap.size ⟨#[69]⟩ (Ja hrA) 58 (by omega) (Qm hb tA.size);obtain⟨a1,c1,hva⟩:=ha.shape;subst hva;obtain⟨a2,c2,hv2⟩:=hown.shape;generalize (al++[(⟨#[69]⟩:BA)]).length=n2 at hv2;subst hv2;have HEND:Hid (ZY wj base [] w al (.returned (.tuple #[.string ⟨#[69]⟩,.slice a2 n2 c2])) w3):=⟨[69],[[69]],_,rfl,.none,hown,(tA.mono noE).trans (Tg hg) (λj hj=>.inl (ha.own j hj.symm))⟩
 clear hv ha tA hrA hown hg hb hl;go_enter func30,ntmps30;go_wp2_with (at_builtin;refine Xr rfl _ _ 58 rfl rfl rfl hrun ?_);go_ret2;exact HEND.o
theorem Jmp(wj base xb:Nat)(hw:wj<=32)(w:World)(v va:Value)(x:Held)(al:List BA)(hv:JQ w v [x])(hx:Jj wj x.1/\JA x.2)(ha:NOwn base w va al)(hb:base<=w.heap.size)(hl:al.length<=1000000000):
  Calls prog 30 #[.pointer (some ⟨xb,0,none⟩),v,va] w λe w'=>ZY wj base [x] w al e w':=by
 rcases hv with⟨_,e⟩|⟨g,o,c,hvs,hg,hcell⟩
 ·cases e
 have hvs:v=.slice (some ⟨g,o,none⟩) 1 c:=hvs;subst hvs;obtain⟨f0,f1,f2,f3⟩:=hcell 0 (by simp);simp only[Nat.zero_mul,Nat.add_zero,List.getElem_cons_zero]at f0 f1 f2 f3;obtain⟨⟨cs,cN⟩,oa,oo⟩:=x;simp only at f0 f1 f2 f3;obtain⟨T,hT⟩:∃T:List UInt8,T=76::(Je (cs,cN)++outB (oa,oo)):=⟨_,rfl⟩
 have HEND:Hid (∀V,Tch NoB w V->∃v' w3,(Builtin.append_ #[58,58] 58 #[va,.slice (some ⟨V.heap.size,0,none⟩) 1 1]).run prog (V.alloc (.cells #[.string ⟨T.toArray⟩] 9))=.ok v' w3/\ZY wj base [((cs,cN),(oa,oo))] w al (.returned (.tuple #[.string ⟨T.toArray⟩,v'])) w3):=λV hV=>by
  have tA:=Ta NoB V (.cells #[.string ⟨T.toArray⟩] 9);obtain⟨v',w3,hrun,hown,hg⟩:=Xx (ha.tch (hV.go tA) (λ_ _ h=>h)) V.heap.size ⟨T.toArray⟩ (Ja (Qf V _)) 58 (by omega) (Qm hb (hV.go tA).size);exact⟨v',w3,hrun,T,[T],v',rfl,by rw[hT];exact .one _ _,hown,((hV.go tA).mono noE).trans (Tg hg) (λj hj=>.inl (ha.own j hj.symm))⟩
 have hcl:(Je (cs,cN)).length=wj+1:=XX hx.1;have hT2:T=[76]++Je (cs,cN)++outB (oa,oo):=by rw[hT];simp
 obtain⟨kB,hkB⟩:∃kB:BA,kB=⟨(Je (cs,cN)).toArray⟩:=⟨_,rfl⟩
 obtain⟨oB,hoB⟩:∃oB:BA,oB=⟨(outB (oa,oo)).toArray⟩:=⟨_,rfl⟩
 obtain⟨mB,hmB⟩:∃mB:BA,mB=⟨([76]++Je (cs,cN)).toArray⟩:=⟨_,rfl⟩
 obtain⟨tB,htB⟩:∃tB:BA,tB=⟨T.toArray⟩:=⟨_,rfl⟩
 have hadd1:∀W,(Op.stringOp .add (⟨#[76]⟩:BA) kB).run prog W=.ok (.string mB) W:=λW=>by rw[hkB,hmB];exact YO [76] (Je (cs,cN)) (by rw[hcl];simp;omega) W
 have hadd2:∀W,(Op.stringOp .add mB oB).run prog W=.ok (.string tB) W:=λW=>by rw[hmB,hoB,htB,hT2];exact YO ([76]++Je (cs,cN)) (outB (oa,oo)) (by rw[Qe,hcl,JaD];simp;omega) W
 have HKT:Hid (∀V,Calls prog 54 #[.agg #[.string cs,.int .i64 cN]] V λe w'=>e=.returned (.string kB)/\Tch NoB V w'):=λV=>by rw[hkB];exact ZQ (cs,cN) V hx.1.2.1 (by have:=hx.1.2.2;dsimp only at this;show cN<256;omega) (by have:=hx.1.1;dsimp only at this;show cs.size<=_;omega)
 have HOT:Hid (∀V,Calls prog 38 #[.agg #[.int .u64 (oa:Int),.int .u8 (oo:Int)]] V λe w'=>e=.returned (.string oB)/\Tch NoB V w'):=λV=>by rw[hoB];exact Jb5 oa oo V hx.2.2
 have HCC:Hid (∀V,Tch NoB w V->V.cell? ⟨g,o,none⟩=some (.string cs)/\V.cell? ⟨g,o+1,none⟩=some (.int .i64 cN)/\V.cell? ⟨g,o+2,none⟩=some (.int .u64 (oa:Int))/\V.cell? ⟨g,o+3,none⟩=some (.int .u8 (oo:Int))):=λV hV=>⟨(hV.cell (p:=⟨g,o,none⟩) hg (λe=>e)).trans f0,(hV.cell (p:=⟨g,o+1,none⟩) hg (λe=>e)).trans f1,(hV.cell (p:=⟨g,o+2,none⟩) hg (λe=>e)).trans f2,(hV.cell (p:=⟨g,o+3,none⟩) hg (λe=>e)).trans f3⟩
 rw[<-htB]at HEND;obtain⟨a1,c1,hva⟩:=ha.shape;subst hva;clear hcell ha hb hl hT hT2 hkB hoB hmB htB hcl hx;go_enter func30,ntmps30;go_upto_region 3 with fail;have HTd:Hid (Tch NoB w w.drew):=Td _ w 1;go_region_held3 (λV=>V.cell? ⟨g,o,none⟩=some (.string cs)/\V.cell? ⟨g,o+1,none⟩=some (.int .i64 cN)/\V.cell? ⟨g,o+2,none⟩=some (.int .u64 (oa:Int))/\V.cell? ⟨g,o+3,none⟩=some (.int .u8 (oo:Int))) (go_keep) ((first|(go_at_call 54;refine(HKT.o _).mono ?_;rintro _ w5⟨rfl,ht5⟩;have HT5:Hid (Tch NoB w w5):=HTd.o.go ht5;obtain⟨y0,y1,yk,yl⟩:=HCC.o w5 HT5.o;clear ht5)|(go_at_call 38;refine(HOT.o _).mono ?_;rintro _ w6⟨rfl,ht6⟩;have HT6:Hid (Tch NoB w w6):=HT5.o.go ht6;obtain⟨z0,z1,zk,zl⟩:=HCC.o w6 HT6.o;clear ht6)))
 all_goals clear HCC f0 f1 f2 f3;obtain⟨v',w3,hrun,hE⟩:=HEND.o _ HT6.o;have HE:Hid _:=hE;clear hE HEND;go_wp2_with (at_builtin;refine Xr rfl _ _ 58 rfl rfl rfl hrun ?_);go_ret2;exact HE.o
