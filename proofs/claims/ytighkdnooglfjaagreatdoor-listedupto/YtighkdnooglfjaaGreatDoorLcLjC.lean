import Derived.Test.YtighkdnooglfjaaGreatDoorLcLiZ
import Derived.Test.YtighkdnooglfjaaGreatDoorLcKRq
namespace Go.Proofs.YtighkdnooglfjaaGreatDoor
open Go.Proofs.Tryz
set_option maxRecDepth 100000
set_option maxHeartbeats 2000000
open Go.RowKit

variable {c:BA×Int}{ch:Ch}{states:List (List Held)}{l l1 l2:List Held}{sl:List Sl}{base fl lb wj xb:Nat}{E:Nat->Addr}{st:Option Tr}{α:Type}{vst:Value}{w w' w'':World}
theorem Jjs{t:List (List UInt8)}(h:∀a b,a<t.length->b<a->¬(⟨(t.getD a []).toArray⟩:BA)=⟨(t.getD b []).toArray⟩->¬dgW wj (t.getD a [])=dgW wj (t.getD b [])):ZF wj t:=by
 have key:∀a b (ha:a<t.length) (hb:b<t.length),b<a->dgW wj t[a]=dgW wj t[b]->t[a]=t[b]:=λa b ha hb hlt e=>by
  have h1:=h a b ha hlt;rw[Qn,Qn,Qd ha,Qd hb]at h1;simp only[Option.getD_some]at h1;apply Classical.byContradiction;intro hne;exact h1 (λe2=>hne (ZH e2)) e
 intro x hx y hy e;obtain⟨a,ha,rfl⟩:=List.getElem_of_mem hx;obtain⟨b,hb,rfl⟩:=List.getElem_of_mem hy
 rcases Nat.lt_trichotomy a b with hlt|rfl|hlt
 ·exact(key b a hb ha hlt e.symm).symm
 ·rfl
 ·exact key a b ha hb hlt e
theorem JnB(wj base xb:Nat)(hw1:1<=wj)(hw:wj<=32)(t:List (List UInt8))(ht0:t ≠ [])(va:Value)(w:World)(hE:Env E w)(hx:XAt wj xb w)(hown:NOwn base w va (strB t))(hl:t.length<=1000000000)(hs:∀x∈t,x.length<=1000):
  Calls prog 53 #[.pointer (some ⟨xb,0,none⟩),va] w λe w'=>(∃m,e=.returned (.bool m)/\(m=false->ZF wj t))/\Tch NoB w w':=by
 have hsl:(strB t).length=t.length:=by simp[strB]
 obtain⟨g,cap,rfl,_,hg,_,hcells⟩:=hown.at (λe=>ht0 (QO (by rw[<-hsl,e];rfl)));rw[hsl];obtain⟨S,hS⟩:∃S:Nat->BA,∀i,S i=⟨(t.getD i []).toArray⟩:=⟨_,λ_=>rfl⟩
 obtain⟨D,hD⟩:∃D:BA->BA,∀s,D s=dgW wj s.data.toList:=⟨_,λ_=>rfl⟩
 have HC:Hid (∀V,Tch NoB w V->V.cell? ⟨xb,1,none⟩=some (.int .i64 (wj:Int))/\∀i,i<t.length->V.cell? ⟨g,i,none⟩=some (.string (S i))):=λV hT=>by
  refine⟨(hx.tch hT (λh=>h)).cell,λi hi=>?_⟩;rw[hT.cell (p:=⟨g,i,none⟩) hg (λh=>h),(hcells i (by rw[hsl];exact hi)).1,hS];simp[strB,List.getD_eq_getElem?_getD,hi]
 have HDG:Hid (∀i V,i<t.length->Tch NoB w V->Calls prog 39 #[.int .i64 (wj:Int),.string (S i)] V λe w'=>e=.returned (.string (D (S i)))/\Tch NoB V w'):=λi V hi hT=>by
  have hEV:=hE.tch hT (λ_ e=>e.elim);have hz:(S i).size<=1000:=by rw[hS,JA,Qn,Qd hi];exact hs _ (Qx hi)
  refine(ZP wj (S i) V hw1 hw (by omega) (Qk (by decide) hEV.size) hEV.table).mono ?_;rintro e w'⟨he,ht⟩;exact⟨he.trans (by rw[hD];rfl),ht⟩
 have HEND:Hid ((∀a b,a<t.length->b<a->¬S a=S b->¬D (S a)=D (S b))->ZF wj t):=λh=>Jjs (λa b ha hb hne=>by
  have:=h a b ha hb (by rw[hS,hS];exact hne);rw[hD,hD,hS,hS]at this;exact this)
 clear hS hD hE hx hown hs hsl hcells hg ht0;generalize ZF wj t=NM at *;generalize t.length=n at *;go_enter func53,ntmps53;go_wp2;go_loopw [5] (λv5 wy=>∃i:Nat,i<=n/\v5=.int .i64 (i:Int)/\Hid (∀a b,a<i->b<a->¬S a=S b->¬D (S a)=D (S b))/\Hid (Tch NoB w wy)) (λv5 _=>n-(intOf v5).toNat)
 case atStart=>exact⟨0,by omega,rfl,λa b h=>absurd h (Nat.not_lt_zero _),Te _ _⟩
 case round=>
  obtain⟨i,hi,rfl,HM,HTI⟩:=hrel
  by_cases hlt:i<n
  ·have hli:(i:Int)<(n:Int):=(by omega);go_wp2;go_loopw [6] (λv6 wz=>∃k:Nat,k<=i/\v6=.int .i64 (k:Int)/\Hid (∀b,b<k->¬S i=S b->¬D (S i)=D (S b))/\Hid (Tch NoB w wz)) (λv6 _=>i-(intOf v6).toNat)
   case atStart=>exact⟨0,by omega,rfl,λb h=>absurd h (Nat.not_lt_zero _),HTI⟩
   case round=>
    obtain⟨k,hk,rfl,HN,HTK⟩:=hrel
    by_cases hkl:k<i
    ·have hki:(k:Int)<(i:Int):=(by omega);have hkn:k<n:=(by omega);have hkti:(k:Int)<(n:Int):=(by omega);have HNX:Hid ((¬S i=S k->¬D (S i)=D (S k))->∀b,b<k+1->¬S i=S b->¬D (S i)=D (S b)):=λh b hb=>by
      rcases Nat.lt_succ_iff_lt_or_eq.1 hb with hb|rfl
      ·exact HN.o b hb
      ·exact h
     have HD1:Hid (∀V,Tch NoB w V->Calls prog 39 #[.int .i64 (wj:Int),.string (S i)] V λe w'=>e=.returned (.string (D (S i)))/\Tch NoB V w'):=λV=>HDG.o i V hlt;have HD2:Hid (∀V,Tch NoB w V->Calls prog 39 #[.int .i64 (wj:Int),.string (S k)] V λe w'=>e=.returned (.string (D (S k)))/\Tch NoB V w'):=λV=>HDG.o k V hkn;have HCK:Hid (∀V,Tch NoB w V->V.cell? ⟨xb,1,none⟩=some (.int .i64 (wj:Int))/\V.cell? ⟨g,i,none⟩=some (.string (S i))/\V.cell? ⟨g,k,none⟩=some (.string (S k))):=λV hT=>⟨(HC.o V hT).1,(HC.o V hT).2 i hlt,(HC.o V hT).2 k hkn⟩
     clear HN;obtain⟨NX,hNX⟩:∃NX:Prop,NX=∀b,b<k+1->¬S i=S b->¬D (S i)=D (S b):=⟨_,rfl⟩
     rw[<-hNX]at HNX;have HNE:Hid (NX=∀b,b<k+1->¬S i=S b->¬D (S i)=D (S b)):=hNX;clear hNX;obtain⟨s1,hs1⟩:∃s1,s1=S i:=⟨_,rfl⟩
     obtain⟨s2,hs2⟩:∃s2,s2=S k:=⟨_,rfl⟩
     rw[<-hs1,<-hs2]at HNX HCK;rw[<-hs1]at HD1;rw[<-hs2]at HD2;clear hs1 hs2;obtain⟨d1,hd1⟩:∃d1,d1=D s1:=⟨_,rfl⟩
     obtain⟨d2,hd2⟩:∃d2,d2=D s2:=⟨_,rfl⟩
     rw[<-hd1]at HD1;rw[<-hd2]at HD2;rw[<-hd1,<-hd2]at HNX;clear hd1 hd2;obtain⟨c0,c1,c2⟩:=HCK.o wr HTK.o
     by_cases hE:s1=s2
     ·have HX:Hid NX:=HNX.o (λh=>absurd hE h);subst hE;clear HNX HD1 HD2 HCK;go_upto_region 7 with fail;go_quiet (fail);go_wp2;go_roundw
      case rel=>exact⟨k+1,by omega,by go_num,by have:=HX.o;rw[HNE.o]at this;exact this,HTK.o.go (Td _ _ _)⟩
      case measure=>simp[intOf];omega
     ·have hE3:¬s1.toList=s2.toList:=λh=>hE (JcX h);have hE2:(s1.toList == s2.toList)=false:=by simp[hE3]
      by_cases hDD:d1=d2
      ·subst hDD;clear HNX;go_upto_region 7 with fail;go_cut [47] (λv wx=>v=.bool true/\Hid (Tch NoB w wx))
       case first=>
        go_region_held3 (λV=>V.cell? ⟨xb,1,none⟩=some (.int .i64 (wj:Int))/\V.cell? ⟨g,i,none⟩=some (.string s1)/\V.cell? ⟨g,k,none⟩=some (.string s2)) (go_keep) ((first
         | (go_at_call_of 39 (Value.string s1);refine(HD1.o _ (HTK.o.go (Td _ wr 1))).mono ?_;rintro _ w4⟨rfl,ht4⟩;have HT4:Hid (Tch NoB w w4):=(HTK.o.go (Td NoB wr 1)).go ht4;obtain⟨e0,e1,e2⟩:=HCK.o _ HT4.o;clear ht4)
         | (go_at_call_of 39 (Value.string s2);refine(HD2.o _ HT4.o).mono ?_;rintro _ w5⟨rfl,ht5⟩;have HT5:Hid (Tch NoB w w5):=HT4.o.go ht5;obtain⟨f0,f1,f2⟩:=HCK.o _ HT5.o;clear ht5)))
        all_goals go_wp2;go_meet;exact⟨rfl,HT5⟩
       case rest=>
       obtain⟨rfl,HT5⟩:=hcut;go_wp2;go_ret;exact⟨⟨true,rfl,λh=>by cases h⟩,HT5.o⟩
      ·have HX:Hid NX:=HNX.o (λ_=>hDD);have hD3:¬d1.toList=d2.toList:=λh=>hDD (JcX h);have hD2:(d1.toList == d2.toList)=false:=(by simp[hD3]);clear HNX;go_upto_region 7 with fail;go_cut [47] (λv wx=>v=.bool false/\Hid (Tch NoB w wx))
       case first=>
        go_region_held3 (λV=>V.cell? ⟨xb,1,none⟩=some (.int .i64 (wj:Int))/\V.cell? ⟨g,i,none⟩=some (.string s1)/\V.cell? ⟨g,k,none⟩=some (.string s2)) (go_keep) ((first
         | (go_at_call_of 39 (Value.string s1);refine(HD1.o _ (HTK.o.go (Td _ wr 1))).mono ?_;rintro _ w4⟨rfl,ht4⟩;have HT4:Hid (Tch NoB w w4):=(HTK.o.go (Td NoB wr 1)).go ht4;obtain⟨e0,e1,e2⟩:=HCK.o _ HT4.o;clear ht4)
         | (go_at_call_of 39 (Value.string s2);refine(HD2.o _ HT4.o).mono ?_;rintro _ w5⟨rfl,ht5⟩;have HT5:Hid (Tch NoB w w5):=HT4.o.go ht5;obtain⟨f0,f1,f2⟩:=HCK.o _ HT5.o;clear ht5)))
        all_goals go_wp2;go_meet;exact⟨rfl,HT5⟩
       case rest=>
       obtain⟨rfl,HT5⟩:=hcut;go_wp2;go_roundw
       case rel=>exact⟨k+1,by omega,by go_num,by have:=HX.o;rw[HNE.o]at this;exact this,HT5⟩
       case measure=>simp[intOf];omega
    ·have hki:¬(k:Int)<(i:Int):=(by omega);obtain rfl:k=i:=(by omega);have HX:Hid (∀a b,a<k+1->b<a->¬S a=S b->¬D (S a)=D (S b)):=λa b ha hb=>by
      rcases Nat.lt_succ_iff_lt_or_eq.1 ha with ha|rfl
      ·exact HM.o a b ha hb
      ·exact HN.o b hb
     go_wp2;go_roundw
     case rel=>exact⟨k+1,by omega,by go_num,HX,HTK⟩
     case measure=>simp[intOf];omega
  ·have hli:¬(i:Int)<(n:Int):=(by omega);obtain rfl:i=n:=(by omega);have HX:Hid NM:=HEND.o HM.o;go_wp2;go_ret;exact⟨.inl ⟨rfl,HX.o⟩,HTI.o⟩

structure Jeb{E:Nat->Addr}{wj base:Nat}(L:Led E wj base):Prop where
 apart:∀{w:World} {lb:Nat} {F:Nat->Prop} {fl:Nat} {ch:Ch},L.At w lb F fl ch->∀j,F j->∀cs m,¬w.heap[j]? =some (.cells cs 9 m)
 oks:∀{w:World} {lb:Nat} {F:Nat->Prop} {fl:Nat} {ch:Ch},L.At w lb F fl ch->∀(n:Nat) c',ch[n]? =some c'->fl<=n->StOk wj c'.2
 hdrs:∀{w:World} {lb:Nat} {F:Nat->Prop} {fl:Nat} {ch:Ch},L.At w lb F fl ch->∀c∈ch,HdIs wj c
 delta:∀{w:World} {lb:Nat} {F:Nat->Prop} {fl:Nat} {ch:Ch} (a b:Nat) (ca cb':BA×Option Tr),L.At w lb F fl ch->Xm E base w->ch[a]? =some ca->ch[b]? =some cb'->fl<=a->fl<=b->(StOk wj ca.2/\∀t,ca.2=some t->t.Wf)->(StOk wj cb'.2/\∀t,cb'.2=some t->t.Wf)->(Jd (dgW wj) ca.2).length+(Jd (dgW wj) cb'.2).length<=1000000000->
  Calls prog 27 #[.pointer (some ⟨lb,0,none⟩),.int .i64 (a:Int),.int .i64 (b:Int)] w λe w'=>∃s,e=.returned (.tuple #[.string s,.int .i64 0])/\(∃L,s=⟨(szsB (L.map bsL)).toArray⟩/\JeL wj ca.2 cb'.2 L)/\Tch NoB w w'
theorem JhZ(E:Nat->Addr)(base pn wj:Nat):Jeb (JbR E base pn wj) where
 apart:=λh j hj cs m hr=>by
  obtain⟨⟨_,lg,cb,r,bs,lv,C⟩,_⟩:=h
  rcases C.kind j hj _ _ _ hr with e|e|e|e<;>exact absurd e (by decide)
 oks:=λh n c' hn hf=>by
  obtain⟨⟨_,lg,cb,r,bs,lv,C⟩,_⟩:=h;have hnl:=(Qo.1 hn).1;exact(C.st n _ c' (Qd (by rw[C.len];exact hnl)) hn hf).2.2
 hdrs:=λh=>h.2
 delta:=λa b ca cb' hA hF ha hb hfa hfb hoa hob hln=>Jjj E wj base a b ca cb' hA.1 hF ha hb hfa hfb hoa hob hln
theorem JL.nextS{E:Nat -> Addr}{L:Led E wj base}(D : Jeb L){F:Nat -> Prop}(h : JL L w xb lb F fl ch vst sl states)(k : Tch (SRow base w) w w') : JL L w' xb lb F fl ch vst sl states :=
  ⟨(k.block _ (Jb h.row) (SRow.not h.row (by decide))).trans h.row,
   L.keep h.led k (λj hj hF => by obtain⟨_, cs, m, hr⟩ := hj; exact D.apart h.led j hF cs m hr),
   h.st.tch k (λj hj => by obtain⟨cur, m, hr⟩ := h.st.kind j hj; exact SRow.not hr (by decide)), h.low,
   λi x l h1 h2 => (h.held i x l h1 h2).tch k (λj hj => by obtain⟨cur, m, hr⟩ := (h.held i x l h1 h2).2 j hj; exact SRow.not hr (by decide)), h.len, h.floor, h.book⟩
theorem JfA(h:Tch (SRow base w) w w')(k:Tch (SRow base w') w' w''):Tch (SRow base w) w w'':=
 h.trans k (λ_ hj=>SRow.back h hj)
theorem YC(h:Tch (SRow base w) w w')(k:Tch NoB w' w''):Tch (SRow base w) w w'':=
 h.trans k noE
theorem Xa.dig(B:Book wj st l){s:List UInt8}{a:List (List UInt8)}(h:Xa (dgW wj) (koL l) s a):dgW wj s=JV (dgW wj) st:=by
 have e:s=JhO (dgW wj) st:=by
  refine Root.of_state B.wf (λx=>?_) (Jb5 l (λh hh=>(B.ok h hh).1) B.nodup) h.root;unfold koL;rw[QK];obtain⟨k,o⟩:=x;rw[B.mem];constructor
  ·rintro⟨h,h1,h2⟩;simp only[Qw]at h2;exact⟨h,h1,h2⟩
  ·rintro⟨h,h1,h2,h3⟩;exact⟨h,h1,by rw[h2,h3]⟩
 rw[e,JhL]
theorem JgH(hw:wj<=32):∀(t:Tr),TrOk wj t->∀x∈t.posts (dgW wj),x.length<=1000:=λt h x hx=>by
 obtain⟨y,hy,rfl⟩:=(YT (dgW wj) t h).2 x hx;exact Qm (Zx hw (Yr (st:=some t) h y hy)) (by decide)
theorem Ja6(hw:wj<=32)(h:StOk wj st):∀x∈Xt (dgW wj) st,x.length<=1000:=by
 cases st with
 | none=>intro x hx;rw[Xt,Qt]at hx;rw[hx];decide
 | some t=>exact JgH hw t h
theorem JhN(d:List UInt8->BA)(st:Option Tr):Xt d st ≠ []:=by
 cases st with
 | none=>simp[Xt]
 | some t=>cases t using Tr.ri<;>simp[Xt,Tr.posts]
def PfOf(wj:Nat)(st1 st2:Option Tr)(s:BA):Prop:=∃L,s=⟨(szsB (L.map bsL)).toArray⟩/\JeL wj st1 st2 L
structure JeM(wj:Nat)(l1 l2:List Held)(L:List Chg):Prop where
 all:∀c∈L,ChgB wj l1 l2 c
 len:L.length=l1.countP (lost l2)+l2.countP (come l1)
 rise:∀i (hi:i+1<L.length),(L[i].1).data.toList<(L[i+1].1).data.toList
theorem Je0(E:Nat->Addr)(hw1:1<=wj)(hw:wj<=32){st1 st2:Option Tr}(B1:Book wj st1 l1)(B2:Book wj st2 l2)(o1:StOk wj st1)(o2:StOk wj st2)(hlen:(Jd (dgW wj) st1).length+(Jd (dgW wj) st2).length<=400000000){s:BA}(hs:PfOf wj st1 st2 s)(h1 h2:HdL)(hh1:HdOk wj h1)(hh2:HdOk wj h2)(e1:h1.2.2.2=JV (dgW wj) st1)(e2:h2.2.2.2=JV (dgW wj) st2)(w:World)(hE:Env E w)(hT:Er3 w):
  Calls prog 52 #[.int .i64 (wj:Int),.string ⟨(hdrB h1).toArray⟩,.string ⟨(hdrB h2).toArray⟩,.string s] w λe w'=>∃v ok,e=.returned (.tuple #[v,.bool ok])/\Tch NoB w w'/\(ZF wj (Xt (dgW wj) st1++Xt (dgW wj) st2)->ok=true/\∃L,ChgO w.heap.size w' v L/\JeM wj l1 l2 L):=by
 obtain⟨L,rfl,hD⟩:=hs;obtain⟨xs,hxs,hof,hnd,hm,hxl⟩:=Jf1 hw o1 o2 hD;have hr:=hD.1;rw[hxs]at hr ⊢;refine(Jf6 (Jhe E hw1 hw xs hof (by omega) hr h1 h2 hh1 hh2 w hE hT)).mono ?_;rintro e w'⟨v,ok,rfl,ht,hgood⟩;refine⟨v,ok,rfl,ht,λhno=>?_⟩;have hA:=Jkv hw o1 o2 B1.wf B2.wf hno hnd hm;rw[e1,e2]at hgood;obtain⟨hok,w0,hd,ht2⟩:=hgood hA.good;obtain⟨L',hch,htold⟩:=hA.tells hd;exact⟨hok,L',hch.next ht2,(JdJ B1 B2 htold).1,(JdJ B1 B2 htold).2,htold.rise⟩
theorem Jgf{h:HdL}(hh:HdOk wj h):∃lo,(⟨(hdrB h).toArray⟩:BA).size=lo+wj/\lo<=1000+2*wj/\(⟨(hdrB h).toArray⟩:BA).extract lo (lo+wj)=h.2.2.2:=by
 have e:hdrB h=(beL h.1 4 4++(h.2.1.data.toList++h.2.2.1.data.toList))++h.2.2.2.data.toList:=by unfold hdrB;simp only[Qs]
 have hl:(beL h.1 4 4++(h.2.1.data.toList++h.2.2.1.data.toList)).length=4+2*wj:=by simp only[Qe,Jf,JT,hh.a,hh.b];omega
 have hl2:h.2.2.2.data.toList.length=wj:=by rw[JT,hh.c]
 refine⟨4+2*wj,?_,by omega,?_⟩
 ·rw[JA,e,Qe,hl,hl2]
 ·refine ByteArray.ext ?_;rw[ByteArray.data_extract];show (hdrB h).toArray.extract (4+2*wj) (4+2*wj+wj)=_;rw[e,<-hl,List.extract_toArray,List.extract_eq_take_drop];rw[List.drop_left,Nat.add_sub_cancel_left,QR (by rw[hl2];exact Ql _)]
theorem JaD(d:List UInt8->BA):∀t:Tr,(Js d t).length+1=2*t.coins.length
 | ⟨.inl (_,_)⟩=>rfl
 | ⟨.inr (_,l,r)⟩=>by
  have h1:=JaD d l;have h2:=JaD d r;simp only[Js,Tr.coins,Qp,Qe];omega
theorem Jhz(B:Book wj st l):(Jd (dgW wj) st).length<=2*l.length+1:=by
 cases st with
 | none=>simp[Jd]
 | some t=>
  have h1:=JaD (dgW wj) t;have h2:=XU (t.coins.map (·.1)) (l.map λh=>Je h.1) (Tr.keys_nodup (B.wf t rfl)) (λx hx=>by
   obtain⟨⟨k,o⟩,hk,rfl⟩:=QK.1 hx;obtain⟨h,hh,e,_⟩:=(B.mem k o).1 hk;exact QK.2 ⟨h,hh,e⟩)
  rw[QL,QL]at h2;show (Js (dgW wj) t).length<=_;omega
structure RtTo(wj base:Nat)(D:BA)(P:List (List UInt8))(s:BA)(va:Value)(w':World):Prop where
 size:s.size<=1000
 dig:dgW wj s.data.toList=D
 own:NOwn base w' va (strB P)
theorem Jhu(L:Led E wj base)(Dl:Jeb L)(hw1:1<=wj)(hw:wj<=32){F:Nat->Prop}(hF:Xm E base w)(hE3:Er3 w)(hbw:base<=w.heap.size)(hS:JL L w xb lb F fl ch vst sl states)(hl:states.length<=1000000000/\∀l∈states,l.length<50000000)(a b:Nat)(ha:a<states.length)(hb:b<states.length)(hfa:fl<=a)(hfb:fl<=b):
  ∃(l1 l2:List Held)(x y:Sl)(g cap:Nat)(P1 P:List (List UInt8))(H1 H2:BA)(lo1 lo2:Nat)(Pf:BA->Prop),
   (x.2.1=l1.length/\y.2.1=l2.length/\l1.length<50000000/\l2.length<50000000/\P ≠ []/\P.length<=1000000000/\(∀z∈P,z.length<=1000))/\
   (H1.size=lo1+wj/\lo1<=1000+2*wj/\H2.size=lo2+wj/\lo2<=1000+2*wj)/\
   (∀V,Tch (SRow base w) w V->(V.cell? ⟨xb,0,none⟩=some (.pointer (some ⟨lb,0,none⟩))/\V.cell? ⟨xb,1,none⟩=some (.int .i64 (wj:Int))/\V.cell? ⟨xb,2,none⟩=some (.slice (some ⟨g,0,none⟩) states.length cap))/\V.cell? ⟨g,a,none⟩=some (.slice x.1 x.2.1 x.2.2)/\V.cell? ⟨g,b,none⟩=some (.slice y.1 y.2.1 y.2.2)/\JR V (.slice x.1 x.2.1 x.2.2) l1/\JR V (.slice y.1 y.2.1 y.2.2) l2/\XAt wj xb V/\Env E V)/\
   (∀V,Tch (SRow base w) w V->Calls prog 30 #[.pointer (some ⟨xb,0,none⟩),.slice x.1 x.2.1 x.2.2,.slice none 0 0] V λe w'=>∃s va,e=.returned (.tuple #[.string s,va])/\RtTo wj base (H1.extract lo1 (lo1+wj)) P1 s va w'/\Tch (SRow base V) V w')/\
   (∀V va,Tch (SRow base w) w V->NOwn base V va (strB P1)->Calls prog 30 #[.pointer (some ⟨xb,0,none⟩),.slice y.1 y.2.1 y.2.2,va] V λe w'=>∃s va',e=.returned (.tuple #[.string s,va'])/\RtTo wj base (H2.extract lo2 (lo2+wj)) P s va' w'/\Tch (SRow base V) V w')/\
   (∀V,Tch (SRow base w) w V->Calls prog 27 #[.pointer (some ⟨lb,0,none⟩),.int .i64 (a:Int),.int .i64 (b:Int)] V λe w'=>∃s,e=.returned (.tuple #[.string s,.int .i64 0])/\Pf s/\Tch NoB V w')/\
   (∀V,Tch (SRow base w) w V->Calls prog 16 #[.pointer (some ⟨lb,0,none⟩),.int .i64 (a:Int)] V λe w'=>e=.returned (.tuple #[.string H1,.int .i64 0])/\Tch NoB V w')/\
   (∀V,Tch (SRow base w) w V->Calls prog 16 #[.pointer (some ⟨lb,0,none⟩),.int .i64 (b:Int)] V λe w'=>e=.returned (.tuple #[.string H2,.int .i64 0])/\Tch NoB V w')/\
   (∀V s,Tch (SRow base w) w V->Pf s->Calls prog 52 #[.int .i64 (wj:Int),.string H1,.string H2,.string s] V λe w'=>∃v ok,e=.returned (.tuple #[v,.bool ok])/\Tch NoB V w'/\(ZF wj P->ok=true/\∃L,ChgO V.heap.size w' v L/\JeM wj l1 l2 L)):=by
 have hlen:=hS.len;have hsa:a<sl.length:=by omega
 have hsb:b<sl.length:=by omega
 have hca:ch[a]? =some ch[a]:=Qd (by omega);have hcb:ch[b]? =some ch[b]:=Qd (by omega);obtain⟨g,cap,hv,hcells⟩:=hS.st.at (λe=>by rw[e]at hsa;simp at hsa);have B1:=hS.book a ch[a] states[a] (Nat.zero_le _) hca (Qd ha);have B2:=hS.book b ch[b] states[b] (Nat.zero_le _) hcb (Qd hb);have o1:=Dl.oks hS.led a ch[a] hca hfa;have o2:=Dl.oks hS.led b ch[b] hcb hfb;obtain⟨h1,hd1,hh1,he1⟩:=Dl.hdrs hS.led ch[a] (QS hca);obtain⟨h2,hd2,hh2,he2⟩:=Dl.hdrs hS.led ch[b] (QS hcb);obtain⟨lo1,z1,y1,x1⟩:=Jgf hh1;obtain⟨lo2,z2,y2,x2⟩:=Jgf hh2;have hhdr:∀(n:Nat)(c:BA×Option Tr),ch[n]? =some c->Jc5 ch (n:Int)=c.1:=λn c hc=>by
  unfold Jc5;rw[if_pos (by omega),Int.toNat_natCast,Qn,hc];rfl
 have hln:∀(V:World)(i:Nat)(hi:i<states.length)(hi2:i<sl.length),JL L V xb lb F fl ch vst sl states->JR V (.slice sl[i].1 sl[i].2.1 sl[i].2.2) states[i]:=λV i hi hi2 hSV=>(hSV.held i sl[i] states[i] (Qd hi2) (Qd hi)).1;have hxn:∀(i:Nat)(hi:i<states.length)(hi2:i<sl.length),sl[i].2.1=states[i].length:=λi hi hi2=>by
  rcases hln w i hi hi2 hS with⟨e,e2⟩|⟨_,_,_,e,_⟩
  ·simp only[Qy]at e;rw[e.2.1,e2];rfl
  ·simp only[Qy]at e;exact e.2.1
 have hla:=hl.2 states[a] (Qx ha);have hlb:=hl.2 states[b] (Qx hb);have hnl:∀(st:Option Tr)(l:List Held),Book wj st l->(Jd (dgW wj) st).length<=2*l.length+1:=λst l B=>Jhz B;have hn1:=hnl _ _ B1;have hn2:=hnl _ _ B2;have hFV:∀V,Tch (SRow base w) w V->Xm E base V:=λV hT=>hF.tch hT (λj hj=>hj.1);have hSV:∀V,Tch (SRow base w) w V->JL L V xb lb F fl ch vst sl states:=λV hT=>hS.nextS Dl hT;have hXV:∀V,Tch (SRow base w) w V->XAt wj xb V:=λV hT=>⟨_,_,_,(hSV V hT).row⟩
 refine⟨states[a],states[b],sl[a],sl[b],g,cap,Xt (dgW wj) ch[a].2,Xt (dgW wj) ch[a].2++Xt (dgW wj) ch[b].2,⟨(hdrB h1).toArray⟩,⟨(hdrB h2).toArray⟩,lo1,lo2,PfOf wj ch[a].2 ch[b].2,⟨hxn a ha hsa,hxn b hb hsb,hla,hlb,?_,?_,?_⟩,⟨z1,y1,z2,y2⟩,λV hT=>?_,λV hT=>?_,λV va hT hva=>?_,λV hT=>?_,λV hT=>?_,λV hT=>?_,λV s hT hs=>?_⟩
 ·intro e;exact JhN _ _ (List.append_eq_nil_iff.1 e).1
 ·rw[Qe,<-JaH,<-JaH];omega
 ·intro z hz
  rcases QE.1 hz with hz|hz
  ·exact Ja6 hw o1 z hz
  ·exact Ja6 hw o2 z hz
 ·have hSv:=hSV V hT;obtain⟨g',cap',hv',hcells'⟩:=hSv.st.at (λe=>by rw[e]at hsa;simp at hsa);rw[hv]at hv'
  cases hv'
  have hr:=hSv.row;refine⟨⟨Ja hr,Ja hr,(Ja hr).trans ?_⟩,hcells' a hsa,hcells' b hsb,hln V a ha hsa hSv,hln V b hb hsb hSv,hXV V hT,(hFV V hT).env⟩;rw[hv,hlen.1];rfl
 ·refine(Jhq (E:=E) wj base xb hw1 hw hF.vars states[a].length states[a] V _ (.slice none 0 0) [] (Ql _) B1.ok B1.nodup (hFV V hT).env (hln V a ha hsa (hSV V hT)) (NOwn.nil _ _) (Qm hbw hT.size) (by simp only[Qv];omega) (hXV V hT)).mono ?_;rintro e w'⟨s,t,va',he,hr,hown,ht⟩;refine⟨⟨s.toArray⟩,va',he,⟨?_,?_,?_⟩,ht⟩
  ·rw[JA];exact hr.tlen hw (λh hh=>(B1.ok h hh).1)
  ·rw[x1,he1];exact hr.dig B1
  ·rw[<-Jdw B1 hr];simpa using hown
 ·refine(Jhq (E:=E) wj base xb hw1 hw hF.vars states[b].length states[b] V _ va _ (Ql _) B2.ok B2.nodup (hFV V hT).env (hln V b hb hsb (hSV V hT)) hva (Qm hbw hT.size) ?_ (hXV V hT)).mono ?_
  ·simp only[strB,QL];rw[<-JaH];omega
  rintro e w'⟨s,t,va',he,hr,hown,ht⟩;refine⟨⟨s.toArray⟩,va',he,⟨?_,?_,?_⟩,ht⟩
  ·rw[JA];exact hr.tlen hw (λh hh=>(B2.ok h hh).1)
  ·rw[x2,he2];exact hr.dig B2
  ·rw[<-Jdw B2 hr];have:strB (Xt (dgW wj) ch[a].2++t)=strB (Xt (dgW wj) ch[a].2)++strB t:=(by simp[strB]);rw[this];exact hown
 ·exact Dl.delta a b ch[a] ch[b] (hSV V hT).led (hFV V hT) hca hcb hfa hfb ⟨o1,B1.wf⟩ ⟨o2,B2.wf⟩ (by omega)
 ·have:=L.header (a:Int) (hSV V hT).led (hFV V hT) (by omega) (by omega);rw[hhdr a _ hca,if_pos (by omega),hd1]at this;exact this
 ·have:=L.header (b:Int) (hSV V hT).led (hFV V hT) (by omega) (by omega);rw[hhdr b _ hcb,if_pos (by omega),hd2]at this;exact this
 ·exact Je0 E hw1 hw B1 B2 o1 o2 (by omega) hs h1 h2 hh1 hh2 he1 he2 V (hFV V hT).env (hE3.tch hT (λj hj=>Qm hF.vars hj.1))

theorem Jl8(n:Nat):beL n 1 1=[UInt8.ofNat n]:=by
 simp[beL]
theorem Jhc{co:BA×Int}(h:Jk wj co):(⟨(Je co).toArray⟩:BA).extract 0 ((⟨(Je co).toArray⟩:BA).size-1)=co.1/\(((⟨(Je co).toArray⟩:BA).data.toList.getD ((⟨(Je co).toArray⟩:BA).size-1) 0).toNat:Int)=co.2:=by
 have hx:=Yv co.2 h.2.1 (by have:=h.2.2;omega);have hx2:JE co.2<256:=by have:=h.2.2;omega
 have e:Je co=co.1.data.toList++[UInt8.ofNat (JE co.2)]:=by unfold Je;rw[Jl8]
 have hs:(⟨(Je co).toArray⟩:BA).size-1=co.1.data.toList.length:=by rw[JA,e,Qe];simp
 rw[hs];constructor
 ·refine ByteArray.ext ?_;rw[ByteArray.data_extract];show (Je co).toArray.extract 0 co.1.data.toList.length=_;rw[e,List.extract_toArray,List.extract_eq_take_drop,List.drop_zero,Nat.sub_zero,List.take_left]
 ·show (((Je co).toArray.toList.getD co.1.data.toList.length 0).toNat:Int)=co.2;rw[List.toList_toArray,e,Qn,Qz (Ql _),Nat.sub_self];simp only[List.getElem?_cons_zero,Option.getD_some];rw[show (UInt8.ofNat (JE co.2)).toNat=JE co.2 by simp;omega];exact hx
theorem Jig:∀(l:List Chg)(i:Nat)(h:i<l.length)(j:Nat),j<8->(l.flatMap λc=>(chC c).toList)[i*8+j]? =(chC l[i])[j]?
 | [],i,h,_,_=>by simp at h
 | x::r,0,h,j,hj=>by
  rw[QG,QF (by simp[chC];omega)];simp
 | x::r,i+1,h,j,hj=>by
  rw[QG,Qz (by simp[chC];omega)];have:=Jig r i (by simpa using h) j hj;rw[show (i+1)*8+j-(chC x).toList.length=i*8+j by simp[chC];omega,this];rfl
theorem ChgO.at{v:Value}{l:List Chg}(h:ChgO base w v l)(hl:l ≠ []):∃g cap,v=.slice (some ⟨g,0,none⟩) l.length cap/\g<w.heap.size/\∀i (hi:i<l.length) j,j<8->w.cell? ⟨g,i*8+j,none⟩=(chC l[i])[j]? :=by
 obtain⟨hlen,⟨rfl,h0⟩|⟨g,cap,cur,rfl,hb,hrow,_,_,hsz,htake⟩⟩:=h
 ·exact absurd (QO h0) hl
 ·refine⟨g,cap,rfl,(Jb hrow),λi hi j hj=>?_⟩;rw[Ja hrow,<-Array.getElem?_toList,<-Jig l i hi j hj,<-htake,List.getElem?_take_of_lt (by omega)]
theorem ZA(h:JO l c=none):JC l c= -1:=by unfold JC;rw[h]
theorem Yw{k:Nat}(h:JO l c=some k):JC l c=(k:Int):=by unfold JC;rw[h]
theorem Jc3(p:α->Bool)(l:List α)(i:Nat)(hi:i<l.length):(l.take (i+1)).countP p=(l.take i).countP p+(if p l[i]=true then 1 else 0):=by
 rw[QQ hi,List.countP_append,List.countP_singleton]
theorem Jf0(p:α->Bool)(l:List α)(i:Nat):(l.take i).countP p<=i:=Qm List.countP_le_length (by rw[QB];omega)
def Jkc(w:World)(xa:Option Addr)(n:Nat)(O:Nat->Held):Prop:=0<n->∃g o,xa=some ⟨g,o,none⟩/\∀V,Tch NoB w V->∀i,i<n->V.cell? ⟨g,o+i*4,none⟩=some (.string (O i).1.1)/\V.cell? ⟨g,o+i*4+1,none⟩=some (.int .i64 (O i).1.2)/\V.cell? ⟨g,o+i*4+2,none⟩=some (.int .u64 (((O i).2.1:Nat):Int))/\V.cell? ⟨g,o+i*4+3,none⟩=some (.int .u8 (((O i).2.2:Nat):Int))
theorem JR.book{xa:Option Addr}{n c:Nat}(h:JR w (.slice xa n c) l)(hn:n=l.length){O:Nat->Held}(hO:∀i (hi:i<l.length),O i=l[i]):Jkc w xa n O:=by
 intro h0
 rcases h with⟨_,e⟩|⟨g,o,c',e,hg,hcell⟩
 ·rw[hn,e]at h0;simp at h0
 ·simp only[Qy]at e;refine⟨g,o,e.1,λV hT i hi=>?_⟩;have hc:∀x,V.cell? ⟨g,x,none⟩=w.cell? ⟨g,x,none⟩:=λx=>hT.cell (p:=⟨g,x,none⟩) hg (λe=>e);rw[hc,hc,hc,hc,hO i (by omega)];exact hcell i (by omega)
def ChgK(l1 l2:List Held)(O1 O2:Nat->Held)(s:BA)(N:Int)(c:Array Value):Prop:=
 ∃(oa oo na no:Nat),
  (∃k1 k2:Nat,k1<l1.length/\k2<l2.length/\JC l1 (s,N)=(k1:Int)/\JC l2 (s,N)=(k2:Int)/\(O1 k1).2=(oa,oo)/\(O2 k2).2=(na,no)/\¬(oa=na/\oo=no)/\c= #[.string s,.int .i64 N,.bool true,.bool true,.int .u64 (oa:Int),.int .u8 (oo:Int),.int .u64 (na:Int),.int .u8 (no:Int)])\/
  (∃k1:Nat,k1<l1.length/\JC l1 (s,N)=(k1:Int)/\JC l2 (s,N)= -1/\(O1 k1).2=(oa,oo)/\c= #[.string s,.int .i64 N,.bool true,.bool false,.int .u64 (oa:Int),.int .u8 (oo:Int),.int .u64 (na:Int),.int .u8 (no:Int)])\/
  (∃k2:Nat,k2<l2.length/\JC l1 (s,N)= -1/\JC l2 (s,N)=(k2:Int)/\(O2 k2).2=(na,no)/\c= #[.string s,.int .i64 N,.bool false,.bool true,.int .u64 (oa:Int),.int .u8 (oo:Int),.int .u64 (na:Int),.int .u8 (no:Int)])
structure Cnt(n:Nat)(C:Nat->Nat)(B:Nat->Bool):Prop where
 zero:C 0=0
 step:∀i,i<n->C (i+1)=C i+(if B i=true then 1 else 0)
 le:∀i,C i<=i
theorem Jfb{cs:List Chg}(h:JeM wj l1 l2 cs):∃(O1 O2:Nat->Held)(C1 C2:Nat->Nat)(B1 B2:Nat->Bool)(S:Nat->BA)(N:Nat->Int)(K:Nat->Array Value),
  (∀i (hi:i<l1.length),O1 i=l1[i])/\(∀i (hi:i<l2.length),O2 i=l2[i])/\Cnt l1.length C1 B1/\Cnt l2.length C2 B2/\C1 l1.length+C2 l2.length=cs.length/\
  (∀i,i<l1.length->(JC l2 (O1 i).1= -1/\B1 i=true)\/∃k:Nat,k<l2.length/\JC l2 (O1 i).1=(k:Int)/\B1 i=decide (¬(O2 k).2=(O1 i).2))/\
  (∀i,i<l2.length->(JC l1 (O2 i).1= -1/\B2 i=true)\/∃k:Nat,JC l1 (O2 i).1=(k:Int)/\B2 i=false)/\
  (∀i (hi:i<cs.length),Jk wj (S i,N i)/\chC cs[i]=K i/\ChgK l1 l2 O1 O2 (S i) (N i) (K i))/\
  (∀i,i+1<cs.length->Je (S i,N i)<Je (S (i+1),N (i+1))):=by
 have hd0:∃d:Held,True:=⟨((⟨#[]⟩,0),(0,0)),trivial⟩
 obtain⟨d,_⟩:=hd0;have hc0:∃c:Chg,True:=⟨(⟨#[]⟩,false,false,(0,0),(0,0)),trivial⟩
 obtain⟨c0,_⟩:=hc0;have hg1:∀i (hi:i<l1.length),l1.getD i d=l1[i]:=λi hi=>by simp[List.getD_eq_getElem?_getD,hi]
 have hg2:∀i (hi:i<l2.length),l2.getD i d=l2[i]:=λi hi=>by simp[List.getD_eq_getElem?_getD,hi]
 have hgc:∀i (hi:i<cs.length),cs.getD i c0=cs[i]:=λi hi=>by simp[List.getD_eq_getElem?_getD,hi]
 have hco:∀i (hi:i<cs.length),∃co:BA×Int,Jk wj co/\cs[i].1=⟨(Je co).toArray⟩/\co=((cs.getD i c0).1.extract 0 ((cs.getD i c0).1.size-1),(((cs.getD i c0).1.data.toList.getD ((cs.getD i c0).1.size-1) 0).toNat:Int)):=λi hi=>by
  obtain⟨co,h1,h2,_⟩:=(h.all _ (Qx hi)).co;obtain⟨e1,e2⟩:=Jhc h1;refine⟨co,h1,h2,?_⟩;rw[hgc i hi,h2];exact Prod.ext e1.symm e2.symm
 refine⟨λi=>l1.getD i d,λi=>l2.getD i d,λi=>(l1.take i).countP (lost l2),λi=>(l2.take i).countP (come l1),λi=>lost l2 (l1.getD i d),λi=>come l1 (l2.getD i d),λi=>(cs.getD i c0).1.extract 0 ((cs.getD i c0).1.size-1),λi=>(((cs.getD i c0).1.data.toList.getD ((cs.getD i c0).1.size-1) 0).toNat:Int),λi=>chC (cs.getD i c0),hg1,hg2,⟨by simp,λi hi=>?_,Jf0 _ _⟩,⟨by simp,λi hi=>?_,Jf0 _ _⟩,?_,λi hi=>?_,λi hi=>?_,λi hi=>?_,λi hi=>?_⟩
 ·rw[Jc3 _ _ _ hi,hg1 i hi]
 ·rw[Jc3 _ _ _ hi,hg2 i hi]
 ·dsimp only;rw[List.take_length,List.take_length,h.len]
 ·dsimp only;unfold lost
  cases hf:JO l2 (l1.getD i d).1 with
  | none=>exact .inl ⟨ZA hf,rfl⟩
  | some k=>
   obtain⟨hk,_⟩:=Xy hf;refine .inr ⟨k,hk,Yw hf,?_⟩;simp only[Qd hk,Option.map_some,Qh,ne_eq,hg2 k hk]
 ·dsimp only;unfold come
  cases hf:JO l1 (l2.getD i d).1 with
  | none=>exact .inl ⟨ZA hf,rfl⟩
  | some k=>exact .inr ⟨k,Yw hf,rfl⟩
 ·obtain⟨co,h1,h2,h3⟩:=hco i hi;obtain⟨co',h1',h2',g1,g2,g3,g4,g5⟩:=(h.all _ (Qx hi)).co;have hcc:co'=co:=YJ h1' h1 (ZH (h2'.symm.trans h2));subst hcc;dsimp only;refine⟨by rw[<-h3];exact h1,by rw[hgc i hi],?_⟩;obtain⟨s,hs⟩:∃s,s=(cs.getD i c0).1.extract 0 ((cs.getD i c0).1.size-1):=⟨_,rfl⟩
  obtain⟨N,hN⟩:∃N,N=(((cs.getD i c0).1.data.toList.getD ((cs.getD i c0).1.size-1) 0).toNat:Int):=⟨_,rfl⟩
  have hk:chC (cs.getD i c0)= #[.string s,.int .i64 N,.bool cs[i].2.1,.bool cs[i].2.2.1,.int .u64 (cs[i].2.2.2.1.1:Int),.int .u8 (cs[i].2.2.2.1.2:Int),.int .u64 (cs[i].2.2.2.2.1:Int),.int .u8 (cs[i].2.2.2.2.2:Int)]:=by rw[hs,hN,hgc i hi];rfl
  rw[<-hs,<-hN]at h3 ⊢;subst h3;rw[hk];generalize cs[i].2.1=b1 at *;generalize cs[i].2.2.1=b2 at *;generalize cs[i].2.2.2.1=x at *;generalize cs[i].2.2.2.2=y at *;obtain⟨oa,oo⟩:=x;obtain⟨na,no⟩:=y;refine⟨oa,oo,na,no,?_⟩
  cases hf1:JO l1 (s,N) with
  | none=>
   rw[hf1]at g1
   cases hf2:JO l2 (s,N) with
   | none=>
    rw[hf2]at g2;have:=(g5 (by rw[g1,g2])).1;rw[g1]at this
    cases this
   | some k2=>
    rw[hf2]at g2;obtain⟨hk2,_⟩:=Xy hf2;have e2:=g4 k2 hf2;rw[Qd hk2]at e2;refine .inr (.inr ⟨k2,hk2,ZA hf1,Yw hf2,?_,by rw[g1,g2];rfl⟩);dsimp only;rw[hg2 k2 hk2];exact Option.some.inj e2
  | some k1=>
   rw[hf1]at g1;obtain⟨hk1,_⟩:=Xy hf1;have e1:=g3 k1 hf1;rw[Qd hk1]at e1
   cases hf2:JO l2 (s,N) with
   | none=>
    rw[hf2]at g2;refine .inr (.inl ⟨k1,hk1,Yw hf1,ZA hf2,?_,by rw[g1,g2];rfl⟩);dsimp only;rw[hg1 k1 hk1];exact Option.some.inj e1
   | some k2=>
    rw[hf2]at g2;obtain⟨hk2,_⟩:=Xy hf2;have e2:=g4 k2 hf2;rw[Qd hk2]at e2;refine .inl ⟨k1,k2,hk1,hk2,Yw hf1,Yw hf2,?_,?_,?_,by rw[g1,g2];rfl⟩
    ·dsimp only;rw[hg1 k1 hk1];exact Option.some.inj e1
    ·dsimp only;rw[hg2 k2 hk2];exact Option.some.inj e2
    ·rintro⟨rfl,rfl⟩;exact(g5 (by rw[g1,g2];rfl)).2 rfl
 ·obtain⟨co,h1,h2,h3⟩:=hco i (by omega);obtain⟨co',h1',h2',h3'⟩:=hco (i+1) hi;dsimp only;rw[<-h3,<-h3'];have:=h.rise i hi;rw[h2,h2']at this;simpa using this
