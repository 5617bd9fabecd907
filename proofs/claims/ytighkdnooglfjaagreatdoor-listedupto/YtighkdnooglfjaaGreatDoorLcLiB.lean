import Derived.Test.YtighkdnooglfjaaGreatDoorLcStB
namespace Go.Proofs.YtighkdnooglfjaaGreatDoor
open Tryz
set_option maxRecDepth 100000
set_option maxHeartbeats 1000000
open Go.RowKit

variable {e:BA}{n:Jj}{l:List BA}{d:List UInt8->BA}{b wj:Nat}{g:Option Nat}{v:Value}{w w1 wr:World}
def szB(t:BA):List UInt8:=beL t.size 2 2++t.data.toList
def szsB(l:List BA):List UInt8:=l.flatMap szB
theorem JbQ(t:BA):(szB t).length=t.size+2:=by
 have e:t.data.size=t.size:=rfl;simp[szB,Jf,e];omega
def TxAt(b:Nat)(w:World)(v:Value)(l:List BA):Prop:=(∃a c,v=.slice a 0 c/\l=[])\/∃g o c,v=.slice (some ⟨g,o,none⟩) l.length c/\g<b/\g<w.heap.size/\∀i (h:i<l.length),w.cell? ⟨g,o+i,none⟩=some (.string l[i])
theorem TxAt.shape(h:TxAt b w v l):∃a c,v=.slice a l.length c:=by
 rcases h with⟨a,c,rfl,rfl⟩|⟨g,o,c,rfl,_⟩
 ·exact⟨a,c,rfl⟩
 ·exact⟨_,_,rfl⟩
theorem JhB{base:Nat}{wj:Int}{e:Value}{done:List UInt8}(hd:done ≠ [])(hp:Jc w b g wj e (.wr done))(hl:l ≠ [])(hn:NOwn base w v l):∀k,v.ownBlock=some k->g ≠ some k:=by
 intro k hk hg;obtain⟨vv,hv,hbs,_⟩:=hp;obtain⟨g2,cap,rfl,_,_,_,hc⟩:=hn.at hl
 cases hk
 rcases hbs with⟨rfl,h0⟩|⟨g3,cap3,rfl,_,_,_,_,h3,_⟩
 ·rw[hg]at hv;cases hv
 ·rw[hg]at hv
  cases hv
  have h4:=(hc 0 (by cases l with|nil=>exact absurd rfl hl|cons _ _=>simp)).1
  cases done with
  | nil=>exact hd rfl
  | cons x r=>
   have h5:=h3 0 _ (by simp[bc];rfl);rw[h4]at h5
   cases h5
structure RowI(b:Nat)(g:Option Nat)(wj:Int)(w:World)(done:List UInt8)(l:List BA)(v:Value)(wr:World):Prop where
 own:NOwn w.heap.size wr v l
 nil:l=[]->v=.slice none 0 0
 port:JY w wr b g wj (.wr (done++szsB l))
theorem RowI.next{wj:Int}{done:List UInt8}(h:RowI b g wj w done l v wr)(k:Tch NoB wr w1):RowI b g wj w done l v w1:=by
 obtain⟨g1,hp,hm,ht⟩:=h.port;exact⟨h.own.tch k (λ_ _ e=>e),h.nil,g1,hp.tch k (λe=>e) (λ_ _ e=>e),hm,ht.trans k (λ_ e=>e.elim)⟩
theorem RowI.add{wj:Int}{done:List UInt8}(h:RowI b g wj w done l v wr)(hb:b<w.heap.size)(x:BA)(hl:l.length<=1000000000){g1:Option Nat}(hp:Jc wr b g1 wj .nilIface (.wr (done++szsB l)))(hm:Jm w g g1)(ht:Tch (λk=>k=b\/some k=g) w wr)(h1:JY wr w1 b g1 wj (.wr (done++szsB l++szB x))):
  ∃v' w3,(Builtin.append_ #[58,58] 58 #[v,.slice (some ⟨w1.heap.size,0,none⟩) 1 1]).run prog (w1.alloc (.cells #[.string x] 9))=.ok v' w3/\RowI b g wj w done (l++[x]) v' w3:=by
 obtain⟨g2,hp2,hm2,ht2⟩:=h1;have hz:=ht.size;have hz2:=ht2.size;have hown:∀k,v.ownBlock=some k->w.heap.size<=k:=λk hk=>(h.own.own k hk).1;have hap:∀k,v.ownBlock=some k->g1 ≠ some k:=by
  intro k hk
  by_cases hn:l=[]
  ·rw[h.nil hn]at hk;cases hk
  ·refine JhB ?_ hp hn h.own k hk;intro e;obtain⟨y,r,rfl⟩:=List.exists_cons_of_ne_nil hn;have:=congrArg List.length e;simp[szsB,JbQ]at this
 have n1:NOwn w.heap.size w1 v l:=h.own.tch ht2 (λk hk e=>by
  rcases e with e|e
  ·have:=hown k hk;omega
  ·exact hap k hk e.symm)
 have tA:=Ta NoB w1 (.cells #[.string x] 9);have n2:=n1.tch tA (λ_ _ e=>e);obtain⟨v',w3,hr,h3,hg⟩:=Xz n2 w1.heap.size x (Ja (Qf _ _)) 58 (by omega) (by simp;omega);refine⟨v',w3,hr,h3,λe=>by simp at e,g2,?_,hm.trans hm2 hz,?_⟩
 ·have e:done++szsB (l++[x])=done++szsB l++szB x:=by simp[szsB]
  rw[e];refine(hp2.tch tA (λh=>h) (λ_ _ h=>h)).tch (Tg hg) (λe=>by have:=hown b e.symm;omega) (λk hk e=>?_)
  rcases hm2 with e2|⟨k2,e2,hk2⟩
  ·exact hap k e.symm (by rw[<-e2];exact hk)
  ·rw[e2]at hk
   cases hk
   have:=(h.own.own k e.symm).2;obtain⟨cs,m,hc⟩:=this;have:=(Jb hc)
   omega
 ·refine((ht.trans ht2 (λk hk=>?_)).trans tA noE).trans (Tg hg) (λk hk=>.inr (hown k hk.symm))
  rcases hk with hk|hk
  ·exact .inl (.inl hk)
  ·rcases hm with e2|⟨k2,e2,hk2⟩
   ·rw[e2]at hk;exact .inl (.inr hk)
   ·rw[e2]at hk;cases hk;exact .inr hk2
theorem JnS(E:Nat->Addr)(b:Nat)(g:Option Nat)(wj:Int)(what:BA)(v:Value)(l:List BA)(done:List UInt8)(w:World)(hp:Jc w b g wj .nilIface (.wr done))(hv:TxAt b w v l)(hs:∀t∈l,t.size<65536)(hl:l.length<=1000000000)(hd:(done++szsB l).length<=1000000000000):
  Calls prog 243 #[.pointer (some ⟨b,0,none⟩),.string what,v,.func (.func 210) #[.pointer (some ⟨b,0,none⟩)] #[]] w λe w'=>∃v',e=.returned v'/\RowI b g wj w done l v' w':=by
 have hb:=hp.lt;obtain⟨va,vc,hvs⟩:=hv.shape;have HG:Hid (∀j,g=some j->b<j):=λj h=>(hp.own j h).1;have HVS:Hid (v=.slice va l.length vc):=hvs;have HV:Hid (TxAt b w v l):=hv;have HS:Hid ((∀t∈l,t.size<65536)/\l.length<=1000000000/\(done++szsB l).length<=1000000000000):=⟨hs,hl,hd⟩
 have HI0:Hid (RowI b g wj w done [] (.slice none 0 0) w):=⟨NOwn.nil _ _,λ_=>rfl,g,by simpa [szsB]using hp,.inl rfl,Te _ _⟩
 obtain⟨n,hn⟩:∃n,n=l.length:=⟨_,rfl⟩
 rw[hvs,<-hn];have HN:Hid (n=l.length):=hn;have hnb:n<=1000000000:=by omega
 clear hp hv hs hl hd hvs hn;go_enter func243,ntmps243;go_wp2;go_loopw [9,10] (λv9 i wr=>∃k:Nat,k<=n/\i=.int .i64 (k:Int)/\(∃a m c,v9=.slice a m c)/\Hid (RowI b g wj w done (l.take k) v9 wr)) (λ_ i _=>n-(intOf i).toNat)
 case atStart=>exact⟨0,Nat.zero_le _,rfl,⟨_,_,_,rfl⟩,HI0⟩
 case round=>
  obtain⟨k,hk,rfl,⟨a9,m9,c9,rfl⟩,HI⟩:=hrel;have HM:Hid (∀m:Bool,Calls prog 221 #[.pointer (some ⟨b,0,none⟩),.bool m] wr λe w'=>e=.returned (.bool m)/\Tch NoB wr w'):=λm=>by
   obtain⟨g1,hp1,_⟩:=HI.o.port;exact Jio E b g1 wj m (some (.wr (done++szsB (l.take k)))) wr hp1
  by_cases hlt:k<n
  ·have hkl:k<l.length:=(by have:=HN.o;omega);obtain⟨x,hx⟩:∃x,x=l[k]:=⟨_,rfl⟩
   have HX:Hid (l.take (k+1)=l.take k++[x]/\x.size<65536/\(done++szsB (l.take k)).length<=1000000000000):=(by refine⟨by rw[hx,QQ hkl],by rw[hx];exact HS.o.1 _ (Qx hkl),?_⟩;have h1:=HS.o.2.2;have h2:l=l.take k++l.drop k:=(List.take_append_drop k l).symm;rw[h2]at h1;simp only[szsB,List.flatMap_append,Qe]at h1 ⊢;omega);obtain⟨gi,oi,hva,hgi,hcell⟩:∃gi oi,va=some ⟨gi,oi,none⟩/\gi<b/\w.cell? ⟨gi,oi+k,none⟩=some (.string x):=by
    rcases HV.o with⟨a,c,_,h0⟩|⟨gi,oi,c,e,h1,h2,h3⟩
    ·rw[h0]at hkl;simp at hkl
    ·rw[HVS.o]at e
     cases e
     exact⟨gi,oi,rfl,h1,by rw[hx];exact h3 k hkl⟩
   subst hva;have HCX:Hid (∀V,Tch (λj=>j=b\/some j=g) w V->V.cell? ⟨gi,oi+k,none⟩=some (.string x)):=λV hT=>(hT.cell (p:=⟨gi,oi+k,none⟩) (Qr _ _ hcell) (by
    rintro(e|e)
    ·simp only at e;omega
    ·have:=HG.o gi e.symm;omega)).trans hcell
   have HSZ:Hid (∀V g1,Jc V b g1 wj .nilIface (.wr (done++szsB (l.take k)))->Calls prog 210 #[.pointer (some ⟨b,0,none⟩),.string x] V λe w'=>e=.returned (.string x)/\JY V w' b g1 wj (.wr (done++szsB (l.take k)++szB x))):=λV g1 h=>(JgO b g1 wj _ x HX.o.2.1 HX.o.2.2 V h).mono λe w' h=>⟨h.1,by have:=h.2;rwa [Qs]at this⟩
   have hki:(k:Int)<(n:Int):=(by omega);clear hcell hx hkl;go_wp2_with fail;refine(HM.o true).mono ?_;rintro _ w1⟨rfl,ht1⟩;have HI1:Hid (RowI b g wj w done (l.take k) (.slice a9 m9 c9) w1):=HI.o.next ht1;obtain⟨g1,hp1,hm1,hT1⟩:=HI1.o.port;have hc1:=HCX.o w1 hT1;have HC:Hid (Calls prog 210 #[.pointer (some ⟨b,0,none⟩),.string x] w1 λe w'=>e=.returned (.string x)/\∃v' w3,(Builtin.append_ #[58,58] 58 #[.slice a9 m9 c9,.slice (some ⟨w'.heap.size,0,none⟩) 1 1]).run prog (w'.alloc (.cells #[.string x] 9))=.ok v' w3/\RowI b g wj w done (l.take k++[x]) v' w3):=(by refine(HSZ.o w1 g1 hp1).mono ?_;rintro e w2⟨rfl,hpt⟩;refine⟨rfl,HI1.o.add hb x (by rw[QB];have:=HN.o;omega) hp1 hm1 hT1 hpt⟩);clear ht1 hp1 hm1 hT1 HM HI HSZ;go_wp2_with fail;refine HC.o.mono ?_;rintro _ w2⟨rfl,v',w3,hap,hI3⟩;have hsv:∃a n c,v'=.slice a n c:=by obtain⟨a,c,h⟩:=hI3.own.shape;exact⟨_,_,_,h⟩
   obtain⟨a',m',c',rfl⟩:=hsv;obtain⟨g3,hp3,_⟩:=hI3.port;have ce:=hp3.errCell;have HI3:Hid (RowI b g wj w done (l.take k++[x]) (.slice a' m' c') w3):=hI3;clear hp3 hI3 HC hc1;go_wp2_with (at_builtin;refine Xu rfl _ _ 58 rfl rfl rfl hap ?_);go_roundw
   case rel=>exact⟨k+1,hlt,by go_num,⟨_,_,_,rfl⟩,by rw[HX.o.1];exact HI3⟩
   case measure=>simp[intOf];omega
  ·have hke:k=n:=(by omega);have HKE:Hid (l.take k=l):=QR (by have:=HN.o;omega);have hki:¬(k:Int)<(n:Int):=(by omega);clear hke;go_wp2_with fail;refine(HM.o false).mono ?_;rintro _ w1⟨rfl,ht1⟩;have HI1:Hid (RowI b g wj w done (l.take k) (.slice a9 m9 c9) w1):=HI.o.next ht1;clear ht1 HI HM;go_wp2;go_ret;exact⟨_,rfl,by rw[<-HKE.o];exact HI1.o⟩

theorem Jdg(hw:wj<=32):∀(t:Tr),TrOk wj t->∀x∈Js (dgW wj) t,YR x
 | ⟨.inl (k,o)⟩,h,x,hx=>by
  rw[Js,Qt]at hx;subst hx;obtain⟨h1,_,h2,h3⟩:=h;have hk:(⟨k.toArray⟩:BA).size<=1000:=by rw[JA];omega
  exact⟨by show ByteArray.size ⟨#[76]⟩<=1000;decide,hk,h2,h3,⟨Int.le_refl _,by show (0:Int)<1000000;decide⟩,by show ByteArray.size ⟨#[]⟩<=1000;decide,by show ByteArray.size ⟨#[]⟩<=1000;decide⟩
 | ⟨.inr (b,l,r)⟩,h,x,hx=>by
  rw[Js,List.mem_cons,QE]at hx;obtain⟨h1,h2,h3⟩:=h;have hd:∀t:Tr,(Tr.dig (dgW wj) t).size<=1000:=λt=>by
   have:(Tr.dig (dgW wj) t).size=wj:=(by cases t using Tr.ri<;>exact Jz wj hw _);omega
  rcases hx with rfl|hx|hx
  ·exact⟨by show ByteArray.size ⟨#[78]⟩<=1000;decide,by show ByteArray.size ⟨#[]⟩<=1000;decide,by show (0:Nat)<18446744073709551616;decide,by show (0:Nat)<256;decide,⟨by show (0:Int)<=(b:Int);omega,by show (b:Int)<_;omega⟩,hd l,hd r⟩
  ·exact Jdg hw l h2 x hx
  ·exact Jdg hw r h3 x hx
theorem JeG(hw:wj<=32)(st:Option Tr)(h:StOk wj st):∀x∈Jd (dgW wj) st,YR x:=by
 cases st with
 | none=>intro x hx;rw[Jd,Qt]at hx;subst hx;exact⟨by decide,by decide,by decide,by decide,⟨Int.le_refl _,by decide⟩,by decide,by decide⟩
 | some t=>exact Jdg hw t h

def txtN(n:Jj):List UInt8:=if n.1=⟨#[76]⟩ then 76::(n.2.1.data.toList++outB n.2.2.1) else if n.1=⟨#[78]⟩ then 78::(beL n.2.2.2.1.toNat 2 2++(n.2.2.2.2.1.data.toList++n.2.2.2.2.2.data.toList)) else [69]
theorem Xh(d:List UInt8->BA)(t:Tr):txtN (JF d t)=t.text d:=by
 cases t using Tr.ri with
 | leaf k o=>unfold txtN;exact if_pos rfl
 | br b l r=>
  unfold txtN;exact(if_neg (by show ¬(⟨#[78]⟩:BA)=⟨#[76]⟩;decide)).trans (if_pos rfl)
theorem YT(d:List UInt8->BA):∀(t:Tr),TrOk wj t->(∀x∈Js d t,∃s,x=JF d s/\TrOk wj s/\s.text d∈t.posts d)/\∀y∈t.posts d,∃x∈Js d t,txtN x=y
 | ⟨.inl (k,o)⟩,h=>by
  constructor
  ·intro x hx;rw[Js,Qt]at hx;exact⟨.leaf k o,hx,h,by simp[Tr.posts]⟩
  ·intro y hy;rw[Tr.posts,Qt]at hy;exact⟨JF d (.leaf k o),by simp[Js],by rw[hy];exact Xh d _⟩
 | ⟨.inr (b,l,r)⟩,h=>by
  obtain⟨l1,l2⟩:=YT d l h.2.1;obtain⟨r1,r2⟩:=YT d r h.2.2;constructor
  ·intro x hx;rw[Js,List.mem_cons,QE]at hx
   rcases hx with hx|hx|hx
   ·exact⟨.br b l r,hx,h,by simp[Tr.posts]⟩
   ·obtain⟨s,k1,k2,k3⟩:=l1 x hx;exact⟨s,k1,k2,by simp[Tr.posts,k3]⟩
   ·obtain⟨s,k1,k2,k3⟩:=r1 x hx;exact⟨s,k1,k2,by simp[Tr.posts,k3]⟩
  ·intro y hy;rw[Tr.posts,QE,QE,Qt]at hy
   rcases hy with(hy|hy)|hy
   ·obtain⟨x,k1,k2⟩:=l2 y hy;exact⟨x,by simp[Js,k1],k2⟩
   ·obtain⟨x,k1,k2⟩:=r2 y hy;exact⟨x,by simp[Js,k1],k2⟩
   ·exact⟨JF d (.br b l r),by simp[Js],by rw[hy];exact Xh d _⟩
theorem JeV(k a b:Nat)(ha:a<2 ^ (8*k))(hb:b<2 ^ (8*k))(h:beL a k k=beL b k k):a=b:=by
 have e1:=Jab a k ha k (Ql _);have e2:=Jab b k hb k (Ql _);rw[h]at e1;rw[e1]at e2;rw[Nat.sub_self]at e2;simpa using e2
theorem JlS(hw:wj<=32)(s t:Tr)(hs:TrOk wj s)(ht:TrOk wj t)(h:s.text (dgW wj)=t.text (dgW wj)):JF (dgW wj) s=JF (dgW wj) t:=by
 have hd:∀t:Tr,(Tr.dig (dgW wj) t).data.toList.length=wj:=λt=>by rw[JT];cases t using Tr.ri<;>exact Jz wj hw _
 cases s using Tr.ri with
 | leaf k o=>
  cases t using Tr.ri with
  | leaf k' o'=>
   unfold Tr.text at h;simp only[QH,true_and]at h;have hl:k.length=k'.length:=(by rw[hs.1,ht.1]);obtain⟨rfl,h2⟩:=List.append_inj h hl;unfold outB at h2;obtain⟨h3,h4⟩:=List.append_inj h2 (by rw[Jf,Jf]);have e1:=JeV 8 o.1 o'.1 hs.2.2.1 ht.2.2.1 h3;have e2:=JeV 1 o.2 o'.2 hs.2.2.2 ht.2.2.2 h4;obtain⟨o1,o2⟩:=o;obtain⟨o1',o2'⟩:=o';simp only at e1 e2;rw[e1,e2]
  | br b l r=>unfold Tr.text at h;simp at h
 | br b l r=>
  cases t using Tr.ri with
  | leaf k' o'=>unfold Tr.text at h;simp at h
  | br b' l' r'=>
   unfold Tr.text at h;simp only[QH,true_and]at h;obtain⟨h1,h2⟩:=List.append_inj h (by rw[Jf,Jf]);obtain⟨h3,h4⟩:=List.append_inj h2 (by rw[hd,hd]);have e:=JeV 2 b b' (by have:=hs.1;omega) (by have:=ht.1;omega) h1;have e3:Tr.dig (dgW wj) l=Tr.dig (dgW wj) l':=(by rw[<-strL (Tr.dig (dgW wj) l),h3,strL]);have e4:Tr.dig (dgW wj) r=Tr.dig (dgW wj) r':=(by rw[<-strL (Tr.dig (dgW wj) r),h4,strL]);rw[JF,JF,e,e3,e4]

abbrev ByL:=List (BA×Jj)
def Xd(b:ByL)(e:BA):Option Jj:=(b.find? (λq=>decide (q.1=e))).map (·.2)
theorem JbZ{b:ByL}(hd:(b.map (·.1)).Nodup) :Xd b e=some n↔(e,n)∈b:=by
 induction b with
 | nil=>simp[Xd]
 | cons q r ih=>
  obtain⟨q1,q2⟩:=q;rw[List.map_cons,List.nodup_cons]at hd;have ih:=ih hd.2;unfold Xd at ih ⊢;rw[List.find?_cons]
  by_cases h:q1=e
  ·subst h;simp only[decide_true,Option.map_some,Qh,List.mem_cons,Qw,true_and];refine⟨λh=>.inl h.symm,λh=>h.elim (λh=>h.symm) (λh=>absurd (List.mem_map_of_mem (f:=(·.1)) h) hd.1)⟩
  ·simp only[h,decide_false,ih,List.mem_cons,Qw];exact⟨λh=>.inr h,λk=>k.elim (λk=>absurd k.1.symm h) (λk=>k)⟩
theorem Jba{b:ByL} :Xd b e=none↔e ∉ b.map (·.1):=by
 simp only[Xd,Option.map_eq_none_iff,List.find?_eq_none,decide_eq_true_eq,QK,not_exists,not_and]
structure Spot where
 dg:BA
 nd:Option Jj
 ab:Int
structure Vw where
 met:List BA
 outs:List (BA×(Nat×Nat))
 left:List BA
def Jt(b:ByL)(e:BA)(ab:Int):Spot:=⟨e,Xd b e,ab⟩
def XM(v : Vw)(s : Spot)(res : Option Vw) : Prop :=
  (s.nd = none /\ res = some ⟨v.met, v.outs, v.left ++ [s.dg]⟩) \/ ∃ n, s.nd = some n /\
    ((s.dg ∈ v.met /\ res = none) \/ (s.dg ∉ v.met /\
      ((n.1 = ⟨#[76]⟩ /\ ((n.2.1 ∈ v.outs.map (·.1) /\ res = none) \/ (n.2.1 ∉ v.outs.map (·.1) /\ res = some ⟨v.met ++ [s.dg], v.outs ++ [(n.2.1, n.2.2.1)], v.left⟩))) \/
       (n.1 = ⟨#[78]⟩ /\ ((n.2.2.2.1 <= s.ab /\ res = none) \/ (s.ab < n.2.2.2.1 /\ res = some ⟨v.met ++ [s.dg], v.outs, v.left⟩))) \/
       (n.1 ≠ ⟨#[76]⟩ /\ n.1 ≠ ⟨#[78]⟩ /\ res = some ⟨v.met ++ [s.dg], v.outs, v.left⟩))))
def Xn(b:ByL)(s:Spot):List Spot:=match s.nd with
 | none=>[]
 | some n=>if n.1=⟨#[78]⟩ then [Jt b n.2.2.2.2.1 n.2.2.2.1,Jt b n.2.2.2.2.2 n.2.2.2.1] else []
structure Jw(b:ByL)(st:List Spot)(v:Vw)(res:Option Vw):Prop where
 of ::
 c:∀C:List Spot->Vw->Option Vw->Prop,(∀v,C [] v (some v))->(∀s r v,XM v s none->C (s::r) v none)->(∀s r v v' res,XM v s (some v')->C (Xn b s++r) v' res->C (s::r) v res)->C st v res
theorem Jw.done{b:ByL}(v:Vw):Jw b [] v (some v):=⟨λ_ h _ _=>h v⟩
theorem Jw.bad{b:ByL}(s:Spot)(r:List Spot)(v:Vw)(h:XM v s none):Jw b (s::r) v none:=⟨λ_ _ k _=>k s r v h⟩
theorem Jw.step{b:ByL}(s:Spot)(r:List Spot)(v v':Vw)(res:Option Vw)(h:XM v s (some v'))(k:Jw b (Xn b s++r) v' res):Jw b (s::r) v res:=⟨λC h1 h2 h3=>h3 s r v v' res h (k.c C h1 h2 h3)⟩
theorem Jw.ri{b:ByL}{motive:∀st v res,Jw b st v res->Prop}(done:∀v,motive _ _ _ (.done v))(bad:∀s r v h,motive _ _ _ (.bad s r v h))(step:∀s r v v' res h k,motive _ _ _ k->motive _ _ _ (.step s r v v' res h k)):∀{st v res} (h:Jw b st v res),motive st v res h:=λ{_ _ _} h=>
 (h.c (λst v res=>∃h:Jw b st v res,motive st v res h) (λv=>⟨_,done v⟩) (λs r v h=>⟨_,bad s r v h⟩) λs r v v' res h k=>⟨_,step s r v v' res h k.1 k.2⟩).2
theorem Jw.inv{b:ByL}{st:List Spot}{v:Vw}{res:Option Vw}(h:Jw b st v res):(st=[]/\res=some v)\/(∃s r,st=s::r/\XM v s none/\res=none)\/∃s r v',st=s::r/\XM v s (some v')/\Jw b (Xn b s++r) v' res:=by
 cases h using Jw.ri with
 | done v=>exact .inl ⟨rfl,rfl⟩
 | bad s r v h=>exact .inr (.inl ⟨s,r,rfl,h,rfl⟩)
 | step s r v v' res h k=>exact .inr (.inr ⟨s,r,v',rfl,h,k⟩)
theorem XM.one{v:Vw}{s:Spot}{x y:Option Vw}(h:XM v s x)(k:XM v s y):x=y:=by
 rcases h with⟨h1,rfl⟩|⟨n,h1,h2⟩<;>rcases k with⟨k1,rfl⟩|⟨m,k1,k2⟩
 ·rfl
 ·rw[h1]at k1;cases k1
 ·rw[h1]at k1;cases k1
 ·rw[h1]at k1
  cases k1
  have hne:(⟨#[76]⟩:BA) ≠ ⟨#[78]⟩:=by decide
  rcases h2 with⟨h2,rfl⟩|⟨h2,⟨h3,⟨h4,rfl⟩|⟨h4,rfl⟩⟩|⟨h3,⟨h4,rfl⟩|⟨h4,rfl⟩⟩|⟨h3,h4,rfl⟩⟩ <;>
   rcases k2 with⟨k2,rfl⟩|⟨k2,⟨k3,⟨k4,rfl⟩|⟨k4,rfl⟩⟩|⟨k3,⟨k4,rfl⟩|⟨k4,rfl⟩⟩|⟨k3,k4,rfl⟩⟩ <;>
   first|rfl|exact absurd h2 k2|exact absurd k2 h2|exact absurd h4 k4|exact absurd k4 h4|exact absurd h3 k3|exact absurd k3 h3|exact absurd (h3.symm.trans k3) hne|exact absurd (k3.symm.trans h3) hne|exact absurd h3 k4|exact absurd k3 h4|(exfalso;omega)
theorem Jw.go{b:ByL}{s:Spot}{r:List Spot}{v v':Vw}{res:Option Vw}(h:Jw b (s::r) v res)(k:XM v s (some v')):Jw b (Xn b s++r) v' res:=by
 obtain⟨e,_⟩|⟨_,_,e,h,_⟩|⟨_,_,_,e,h1,h2⟩:=h.inv
 ·cases e
 ·cases e;cases h.one k
 ·cases e;cases h1.one k;exact h2
theorem Jw.end{b:ByL}{v:Vw}{res:Option Vw}(h:Jw b [] v res):res=some v:=by
 obtain⟨_,h⟩|⟨_,_,e,_⟩|⟨_,_,_,e,_⟩:=h.inv
 ·exact h
 ·cases e
 ·cases e
def Tr.subs:Tr->List Tr
 | ⟨.inl (k,o)⟩=>[.leaf k o]
 | ⟨.inr (b,l,r)⟩=>.br b l r::(l.subs++r.subs)
theorem Xv(d:List UInt8->BA):∀t:Tr,Js d t=t.subs.map (JF d)
 | ⟨.inl (_,_)⟩=>rfl
 | ⟨.inr (_,l,r)⟩=>by simp[Js,Tr.subs,Xv d l,Xv d r]
theorem Tr.self_mem(t:Tr):t∈t.subs:=by cases t using Tr.ri<;>simp[subs]
theorem Tr.subs_trans:∀{t s u:Tr},s∈t.subs->u∈s.subs->u∈t.subs
 | ⟨.inl (_,_)⟩,s,u,hs,hu=>by
  rw[subs,Qt]at hs;rw[hs]at hu;exact hu
 | ⟨.inr (b,l,r)⟩,s,u,hs,hu=>by
  rw[subs,List.mem_cons,QE]at hs
  rcases hs with rfl|hs|hs
  ·exact hu
  ·rw[subs,List.mem_cons,QE];exact .inr (.inl (subs_trans hs hu))
  ·rw[subs,List.mem_cons,QE];exact .inr (.inr (subs_trans hs hu))
def Tr.sz:Tr->Nat
 | ⟨.inl (_,_)⟩=>1
 | ⟨.inr (_,l,r)⟩=>1+l.sz+r.sz
theorem Tr.subs_size:∀{t s:Tr},s∈t.subs->s.sz<=t.sz
 | ⟨.inl (_,_)⟩,s,hs=>by
  rw[subs,Qt]at hs;rw[hs];exact Ql _
 | ⟨.inr (b,l,r)⟩,s,hs=>by
  rw[subs,List.mem_cons,QE]at hs
  rcases hs with rfl|hs|hs
  ·exact Ql _
  ·have:=subs_size hs;rw[Tr.sz];omega
  ·have:=subs_size hs;rw[Tr.sz];omega
theorem Tr.subs_coins:∀{t s:Tr},s∈t.subs->∀x∈s.coins,x∈t.coins
 | ⟨.inl (_,_)⟩,s,hs,x,hx=>by
  rw[subs,Qt]at hs
  rwa [hs]at hx
 | ⟨.inr (b,l,r)⟩,s,hs,x,hx=>by
  rw[subs,List.mem_cons,QE]at hs
  rcases hs with rfl|hs|hs
  ·exact hx
  ·rw[coins,QE];exact .inl (subs_coins hs x hx)
  ·rw[coins,QE];exact .inr (subs_coins hs x hx)
theorem Tr.apart{l r s u:Tr}(h:(Tr.br b l r).Wf)(hs:s∈l.subs)(hu:u∈r.subs):s ≠ u:=by
 rintro rfl;obtain⟨x,hx⟩:=List.exists_mem_of_ne_nil _ s.coins_ne;have h1:=h.2.2.1 x (subs_coins hs x hx);have h2:=h.2.2.2.1 x (subs_coins hu x hx);omega
theorem Tr.subs_nodup:∀{t:Tr},t.Wf->t.subs.Nodup
 | ⟨.inl (_,_)⟩,_=>by simp[subs]
 | ⟨.inr (b,l,r)⟩,h=>by
  rw[subs,List.nodup_cons,List.nodup_append,QE];refine⟨λk=>?_,subs_nodup h.1,subs_nodup h.2.1,λs hs u hu=>apart h hs hu⟩
  rcases k with k|k
  ·have:=subs_size k;rw[Tr.sz]at this;omega
  ·have:=subs_size k;rw[Tr.sz]at this;omega
theorem Tr.keys_nodup:∀{t:Tr},t.Wf->(t.coins.map (·.1)).Nodup
 | ⟨.inl (_,_)⟩,_=>by simp[coins]
 | ⟨.inr (b,l,r)⟩,h=>by
  rw[coins,List.map_append,List.nodup_append];refine⟨keys_nodup h.1,keys_nodup h.2.1,?_⟩;rintro k hk k' hk' rfl;obtain⟨x,hx,rfl⟩:=QK.1 hk;obtain⟨y,hy,e⟩:=QK.1 hk';have h1:=h.2.2.1 x hx;have h2:=h.2.2.2.1 y hy;rw[e]at h2;omega
theorem Tr.bit_l{b':Nat}{l r l' r':Tr}(h:(Tr.br b l r).Wf)(he:l=.br b' l' r'\/r=.br b' l' r'):b<b':=by
 have hw:(Tr.br b' l' r').Wf:=by rcases he with e|e<;>rw[<-e];exact h.1;exact h.2.1
 obtain⟨x,hx⟩:=List.exists_mem_of_ne_nil _ l'.coins_ne;obtain⟨y,hy⟩:=List.exists_mem_of_ne_nil _ r'.coins_ne;have a1:=hw.2.2.1 x hx;have a2:=hw.2.2.2.1 y hy;have hx':x∈(Tr.br b' l' r').coins:=by rw[coins,QE];exact .inl hx
 have hy':y∈(Tr.br b' l' r').coins:=by rw[coins,QE];exact .inr hy
 have hne:b' ≠ b:=by
  rintro rfl
  rcases he with e|e
  ·have:=h.2.2.1 y (by rw[e];exact hy');omega
  ·have:=h.2.2.2.1 x (by rw[e];exact hx');omega
 have hge:¬b'<b:=λk=>by
  have hx2:x∈l.coins++r.coins:=by rw[QE];rcases he with e|e;exact .inl (by rw[e];exact hx');exact .inr (by rw[e];exact hx')
  have hy2:y∈l.coins++r.coins:=by rw[QE];rcases he with e|e;exact .inl (by rw[e];exact hy');exact .inr (by rw[e];exact hy')
  have:=h.2.2.2.2 x hx2 y hy2 b' k;omega
 omega
def Tr.kids(d:List UInt8->BA):Tr->List BA
 | ⟨.inl (_,_)⟩=>[]
 | ⟨.inr (_,l,r)⟩=>[l.dig d,r.dig d]
theorem Tr.kids_all(d:List UInt8->BA):∀t:Tr,(t.dig d::t.subs.flatMap (kids d)).Perm (t.subs.map (Tr.dig d))
 | ⟨.inl (k,o)⟩=>by simp[subs,kids]
 | ⟨.inr (b,l,r)⟩=>by
  simp only[subs,QG,List.flatMap_append,List.map_cons,List.map_append];refine List.Perm.cons _ ?_;have h1:=kids_all d l;have h2:=kids_all d r;refine List.Perm.trans ?_ (h1.append h2);simp only[kids,List.cons_append,List.nil_append];exact List.Perm.cons _ (List.perm_middle.symm)
theorem Tr.leaf_mem:∀{t:Tr} {x:Key×(Nat×Nat)},x∈t.coins->Tr.leaf x.1 x.2∈t.subs
 | ⟨.inl (k,o)⟩,x,hx=>by
  rw[coins,Qt]at hx;rw[hx];exact self_mem _
 | ⟨.inr (b,l,r)⟩,x,hx=>by
  rw[coins,QE]at hx;rw[subs,List.mem_cons,QE];exact .inr (hx.imp leaf_mem leaf_mem)
structure Told(d:List UInt8->BA)(b:ByL)(S:Tr->Prop)(t:Tr):Prop where
 wf:t.Wf
 no:∀u∈t.subs,S u->Xd b (u.dig d)=none
 yes:∀u∈t.subs,¬S u->Xd b (u.dig d)=some (JF d u)
 inj:∀u∈t.subs,∀v∈t.subs,u.dig d=v.dig d->u=v
 low:∀u∈t.subs,S u->∀v∈u.subs,S v
theorem Told.sub{b:ByL}{S:Tr->Prop}{t s:Tr}(h:Told d b S t)(hw:s.Wf)(hs:∀u∈s.subs,u∈t.subs):Told d b S s:=
 ⟨hw,λu hu=>h.no u (hs u hu),λu hu=>h.yes u (hs u hu),λu hu v hv=>h.inj u (hs u hu) v (hs v hv),λu hu=>h.low u (hs u hu)⟩
structure Seen(d:List UInt8->BA)(b:ByL)(S:Tr->Prop)(t:Tr)(m:List BA)(o:List (BA×(Nat×Nat)))(l:List BA)(C:List Tr):Prop where
 met:∀e,e∈m↔∃u∈t.subs,¬S u/\e=u.dig d
 outs:∀q,q∈o↔∃x∈t.coins,¬S (.leaf x.1 x.2)/\q=(⟨x.1.toArray⟩,x.2)
 both:∀u,u∈C↔u∈t.subs/\S u
 once:C.Nodup
 left:(l++C.flatMap (Tr.kids d)).Perm (C.map (Tr.dig d))
 walk:∀(ab:Int)(r:List Spot)(v:Vw)(res:Option Vw),(∀u∈t.subs,u.dig d ∉ v.met)->(∀x∈t.coins,(⟨x.1.toArray⟩:BA) ∉ v.outs.map (·.1))->(∀b' l' r',t=.br b' l' r'->ab<(b':Int))->Jw b (Jt b (t.dig d) ab::r) v res->Jw b r ⟨v.met++m,v.outs++o,v.left++l⟩ res
theorem ZH{k k':Key}(h:(⟨k.toArray⟩:BA)=⟨k'.toArray⟩):k=k':=by
 have:=congrArg (λz=>z.data.toList) h;simpa using this
theorem Told.shared{b:ByL}{S:Tr->Prop}{t:Tr}(h:Told d b S t)(hs:S t):Seen d b S t [] [] [t.dig d] t.subs:=by
 have hall:∀u∈t.subs,S u:=h.low t t.self_mem hs;refine⟨λe=>⟨λk=>(by cases k),λ⟨u,hu,k,_⟩=>absurd (hall u hu) k⟩,λq=>⟨λk=>(by cases k),λ⟨x,hx,k,_⟩=>absurd (hall _ (Tr.leaf_mem hx)) k⟩,λu=>⟨λk=>⟨k,hall u k⟩,λk=>k.1⟩,Tr.subs_nodup h.wf,Tr.kids_all d t,λab r v res _ _ _ hk=>?_⟩;have hn:(Jt b (t.dig d) ab).nd=none:=h.no t t.self_mem hs;have:=hk.go (v':=⟨v.met,v.outs,v.left++[t.dig d]⟩) (.inl ⟨hn,rfl⟩);have hb:Xn b (Jt b (t.dig d) ab)=[]:=by unfold Xn;rw[hn]
 rw[hb,List.nil_append]at this;simpa using this
theorem Told.seen{b:ByL}{S:Tr->Prop}:∀{t:Tr},Told d b S t->∃m o l C,Seen d b S t m o l C:=by
 intro t
 induction t using Tr.ri with
 | leaf k o=>
  intro h
  rcases Classical.em (S (.leaf k o)) with hs|hs
  ·exact⟨_,_,_,_,h.shared hs⟩
  ·have hy:=h.yes _ (Tr.self_mem _) hs;refine⟨[(Tr.leaf k o).dig d],[(⟨k.toArray⟩,o)],[],[],λe=>?_,λq=>?_,λu=>?_,List.nodup_nil,by simp,λab r v res h1 h2 _ hk=>?_⟩
   ·rw[Qt];refine⟨λe=>⟨_,Tr.self_mem _,hs,e⟩,?_⟩;rintro⟨u,hu,_,rfl⟩;rw[Tr.subs,Qt]at hu;rw[hu]
   ·rw[Qt];refine⟨λe=>⟨(k,o),by simp[Tr.coins],hs,e⟩,?_⟩;rintro⟨x,hx,_,rfl⟩;rw[Tr.coins,Qt]at hx;rw[hx]
   ·rw[Tr.subs,Qt];exact⟨λk=>(by cases k),λk=>absurd (k.1 ▸ k.2) hs⟩
   ·have:=hk.go (v':=⟨v.met++[(Tr.leaf k o).dig d],v.outs++[(⟨k.toArray⟩,o)],v.left⟩) (.inr ⟨_,hy,.inr ⟨h1 _ (Tr.self_mem _),.inl ⟨rfl,.inr ⟨h2 (k,o) (by simp[Tr.coins]),rfl⟩⟩⟩⟩);have hb:Xn b (Jt b ((Tr.leaf k o).dig d) ab)=[]:=(by unfold Xn Jt;simp only[hy];rfl);rw[hb,List.nil_append]at this;simpa using this
 | br bit l r ihl ihr=>
  intro h
  rcases Classical.em (S (.br bit l r)) with hs|hs
  ·exact⟨_,_,_,_,h.shared hs⟩
  ·have hy:=h.yes _ (Tr.self_mem _) hs;have hsl:∀u∈l.subs,u∈(Tr.br bit l r).subs:=λu hu=>by rw[Tr.subs,List.mem_cons,QE];exact .inr (.inl hu)
   have hsr:∀u∈r.subs,u∈(Tr.br bit l r).subs:=λu hu=>by rw[Tr.subs,List.mem_cons,QE];exact .inr (.inr hu)
   have hcl:∀x∈l.coins,x∈(Tr.br bit l r).coins:=λx hx=>by rw[Tr.coins,QE];exact .inl hx
   have hcr:∀x∈r.coins,x∈(Tr.br bit l r).coins:=λx hx=>by rw[Tr.coins,QE];exact .inr hx
   have hnl:∀u∈l.subs++r.subs,Tr.br bit l r ≠ u:=λu hu e=>by
    rw[<-e]at hu
    rcases QE.1 hu with k|k
    ·have:=Tr.subs_size k;rw[Tr.sz]at this;omega
    ·have:=Tr.subs_size k;rw[Tr.sz]at this;omega
   obtain⟨m1,o1,l1,C1,A⟩:=ihl (h.sub h.wf.1 hsl);obtain⟨m2,o2,l2,C2,B⟩:=ihr (h.sub h.wf.2.1 hsr);refine⟨(Tr.br bit l r).dig d::(m1++m2),o1++o2,l1++l2,C1++C2,λe=>?_,λq=>?_,λu=>?_,?_,?_,λab rr v res h1 h2 h3 hk=>?_⟩
   ·rw[List.mem_cons,QE,A.met,B.met];constructor
    ·rintro(rfl|⟨u,hu,k,rfl⟩|⟨u,hu,k,rfl⟩)
     ·exact⟨_,Tr.self_mem _,hs,rfl⟩
     ·exact⟨u,hsl u hu,k,rfl⟩
     ·exact⟨u,hsr u hu,k,rfl⟩
    ·rintro⟨u,hu,k,rfl⟩;rw[Tr.subs,List.mem_cons,QE]at hu
     rcases hu with rfl|hu|hu
     ·exact .inl rfl
     ·exact .inr (.inl ⟨u,hu,k,rfl⟩)
     ·exact .inr (.inr ⟨u,hu,k,rfl⟩)
   ·rw[QE,A.outs,B.outs];constructor
    ·rintro(⟨x,hx,k,rfl⟩|⟨x,hx,k,rfl⟩)
     ·exact⟨x,hcl x hx,k,rfl⟩
     ·exact⟨x,hcr x hx,k,rfl⟩
    ·rintro⟨x,hx,k,rfl⟩;rw[Tr.coins,QE]at hx;exact hx.imp (λhx=>⟨x,hx,k,rfl⟩) (λhx=>⟨x,hx,k,rfl⟩)
   ·rw[QE,A.both,B.both,Tr.subs,List.mem_cons,QE];constructor
    ·rintro(k|k)
     ·exact⟨.inr (.inl k.1),k.2⟩
     ·exact⟨.inr (.inr k.1),k.2⟩
    ·rintro⟨rfl|k|k,k2⟩
     ·exact absurd k2 hs
     ·exact .inl ⟨k,k2⟩
     ·exact .inr ⟨k,k2⟩
   ·rw[List.nodup_append];exact⟨A.once,B.once,λu hu v hv=>Tr.apart h.wf ((A.both u).1 hu).1 ((B.both v).1 hv).1⟩
   ·rw[List.flatMap_append,List.map_append];refine List.Perm.trans ?_ (A.left.append B.left);rw[Qs,Qs];refine List.Perm.append_left _ ?_;rw[<-Qs,<-Qs];exact List.Perm.append_right _ List.perm_append_comm
   ·have e1:=hk.go (v':=⟨v.met++[(Tr.br bit l r).dig d],v.outs,v.left⟩) (.inr ⟨_,hy,.inr ⟨h1 _ (Tr.self_mem _),.inr (.inl ⟨rfl,.inr ⟨h3 _ _ _ rfl,rfl⟩⟩)⟩⟩);have hb:Xn b (Jt b ((Tr.br bit l r).dig d) ab)=[Jt b (l.dig d) (bit:Int),Jt b (r.dig d) (bit:Int)]:=by
     unfold Xn;rw[show (Jt b ((Tr.br bit l r).dig d) ab).nd=some (JF d (.br bit l r)) from hy];rfl
    rw[hb]at e1;have e2:=A.walk bit _ ⟨v.met++[(Tr.br bit l r).dig d],v.outs,v.left⟩ _ (λu hu=>?_) (λx hx=>h2 x (hcl x hx)) (λb' l' r' e=>by have:=Tr.bit_l h.wf (.inl e);omega) e1
    ·have e3:=B.walk bit _ ⟨v.met++[(Tr.br bit l r).dig d]++m1,v.outs++o1,v.left++l1⟩ _ (λu hu=>?_) (λx hx=>?_) (λb' l' r' e=>by have:=Tr.bit_l h.wf (.inr e);omega) e2
     ·simpa using e3
     ·simp only[QE,Qt,not_or];refine⟨⟨h1 u (hsr u hu),λe=>hnl u (QE.2 (.inr hu)) (h.inj _ (hsr u hu) _ (Tr.self_mem _) e).symm⟩,λk=>?_⟩;obtain⟨z,hz,_,e⟩:=(A.met _).1 k;exact Tr.apart h.wf hz hu (h.inj _ (hsr u hu) _ (hsl z hz) e).symm
     ·simp only[List.map_append,QE,not_or];refine⟨h2 x (hcr x hx),λk=>?_⟩;obtain⟨q,hq,e⟩:=QK.1 k;obtain⟨y,hy2,_,rfl⟩:=(A.outs q).1 hq;have e':=ZH e;have a1:=h.wf.2.2.1 y hy2;have a2:=h.wf.2.2.2.1 x hx;rw[e']at a1;omega
    ·simp only[QE,Qt,not_or];exact⟨h1 u (hsl u hu),λe=>hnl u (QE.2 (.inl hu)) (h.inj _ (hsl u hu) _ (Tr.self_mem _) e).symm⟩
def JbD:Option Tr->List Tr
 | none=>[]
 | some t=>t.subs
theorem Jdh{st:Option Tr}{x:Key×(Nat×Nat)}:Tr.leaf x.1 x.2∈JbD st↔x∈Jr st:=by
 cases st with
 | none=>simp[JbD,Jr]
 | some t=>exact⟨λh=>Tr.subs_coins h x (by simp[Tr.coins]),λh=>Tr.leaf_mem h⟩
theorem Jey{P:Jj->Prop}(hP:∀x y,P x->P y->d (txtN x)=d (txtN y)->x=y):∀(s u:Tr),(∀x∈Js d s,P x)->(∀x∈Js d u,P x)->JF d s=JF d u->s=u:=by
 intro s
 induction s using Tr.ri with
 | leaf k o=>
  intro u _ _ h
  cases u using Tr.ri with
  | leaf k' o'=>
   simp only[JF,Qw,true_and,and_true]at h;rw[ZH h.1,h.2]
  | br b l r=>simp[JF]at h
 | br b l r ihl ihr=>
  intro u hs hu h
  cases u using Tr.ri with
  | leaf k' o'=>simp[JF]at h
  | br b' l' r'=>
   simp only[JF,Qw,true_and]at h;have key:∀(x y:Tr),(∀z∈Js d x,P z)->(∀z∈Js d y,P z)->x.dig d=y.dig d->JF d x=JF d y:=λx y hx hy e=>by
    refine hP _ _ (hx _ ?_) (hy _ ?_) ?_
    ·rw[Xv];exact List.mem_map_of_mem x.self_mem
    ·rw[Xv];exact List.mem_map_of_mem y.self_mem
    ·rw[Xh,Xh,<-Tr.dig_text d x,<-Tr.dig_text d y];exact e
   have a1:∀z∈Js d l,P z:=λz hz=>hs z (by simp[Js,hz]);have a2:∀z∈Js d r,P z:=λz hz=>hs z (by simp[Js,hz]);have b1:∀z∈Js d l',P z:=λz hz=>hu z (by simp[Js,hz]);have b2:∀z∈Js d r',P z:=λz hz=>hu z (by simp[Js,hz]);rw[ihl l' a1 b1 (key l l' a1 b1 h.2.1),ihr r' a2 b2 (key r r' a2 b2 h.2.2),show b=b' by omega]
structure Ys(d:List UInt8->BA)(b:ByL)(st1 st2:Option Tr):Prop where
 nd:(b.map (·.1)).Nodup
 tell:∀e n,(e,n)∈b↔e=d (txtN n)/\((n∈Jd d st1/\n ∉ Jd d st2)\/(n ∉ Jd d st1/\n∈Jd d st2))
 inj:∀x y,x∈Jd d st1\/x∈Jd d st2->y∈Jd d st1\/y∈Jd d st2->d (txtN x)=d (txtN y)->x=y
 wf1:∀t,st1=some t->t.Wf
 wf2:∀t,st2=some t->t.Wf
theorem Ys.symm{b:ByL}{st1 st2:Option Tr}(h:Ys d b st1 st2):Ys d b st2 st1:=
 ⟨h.nd,λe n=>by rw[h.tell e n];exact⟨λk=>⟨k.1,k.2.symm.imp (λk=>⟨k.2,k.1⟩) (λk=>⟨k.2,k.1⟩)⟩,λk=>⟨k.1,k.2.symm.imp (λk=>⟨k.2,k.1⟩) (λk=>⟨k.2,k.1⟩)⟩⟩,λx y hx hy=>h.inj x y hx.symm hy.symm,h.wf2,h.wf1⟩
theorem Ys.get{b:ByL}{st1 st2:Option Tr}(h:Ys d b st1 st2)(hn:n∈Jd d st1):(n ∉ Jd d st2->Xd b (d (txtN n))=some n)/\(n∈Jd d st2->Xd b (d (txtN n))=none):=by
 refine⟨λk=>(JbZ h.nd).2 ((h.tell _ _).2 ⟨rfl,.inl ⟨hn,k⟩⟩),λk=>Jba.2 λhm=>?_⟩;obtain⟨⟨e,n'⟩,hq,he⟩:=QK.1 hm;obtain⟨e1,h2⟩:=(h.tell _ _).1 hq;have:n'=n:=h.inj _ _ (h2.imp (λk=>k.1) (λk=>k.2)) (.inl hn) (e1.symm.trans he);subst this
 rcases h2 with h2|h2
 ·exact h2.2 k
 ·exact h2.1 hn
theorem Ys.mem{b:ByL}{t:Tr}{st2:Option Tr}(h:Ys d b (some t) st2){u:Tr}(hu:u∈t.subs):JF d u∈Jd d st2↔u∈JbD st2:=by
 cases st2 with
 | none=>
  simp only[Jd,JbD,Qt,QD,iff_false]
  cases u using Tr.ri<;>simp[JF]
 | some s=>
  simp only[Jd,JbD];rw[Xv,QK];constructor
  ·rintro⟨v,hv,e⟩;have:v=u:=Jey (P:=λx=>x∈Js d t\/x∈Js d s) h.inj v u (λx hx=>.inr ?_) (λx hx=>.inl ?_) e
   ·rwa [<-this]
   ·rw[Xv]at hx ⊢;obtain⟨z,hz,rfl⟩:=QK.1 hx;exact List.mem_map_of_mem (Tr.subs_trans hv hz)
   ·rw[Xv]at hx ⊢;obtain⟨z,hz,rfl⟩:=QK.1 hx;exact List.mem_map_of_mem (Tr.subs_trans hu hz)
  ·exact λh=>⟨u,h,rfl⟩
theorem Ys.told{b:ByL}{t:Tr}{st2:Option Tr}(h:Ys d b (some t) st2):Told d b (λu=>u∈JbD st2) t:=by
 have hin:∀u∈t.subs,JF d u∈Jd d (some t):=λu hu=>by simp only[Jd];rw[Xv];exact List.mem_map_of_mem hu
 have ed:∀u:Tr,d (txtN (JF d u))=u.dig d:=λu=>by rw[Xh,<-Tr.dig_text d u]
 refine⟨h.wf1 t rfl,λu hu k=>?_,λu hu k=>?_,λu hu v hv e=>?_,λu hu k v hv=>?_⟩
 ·have:=(h.get (hin u hu)).2 ((h.mem hu).2 k)
  rwa [ed]at this
 ·have:=(h.get (hin u hu)).1 (λk2=>k ((h.mem hu).1 k2))
  rwa [ed]at this
 ·have:=h.inj _ _ (.inl (hin u hu)) (.inl (hin v hv)) (by rw[ed,ed];exact e);refine Jey (P:=λx=>x∈Js d t) (λx y hx hy=>h.inj x y (.inl hx) (.inl hy)) u v (λx hx=>?_) (λx hx=>?_) this
  ·rw[Xv]at hx ⊢;obtain⟨z,hz,rfl⟩:=QK.1 hx;exact List.mem_map_of_mem (Tr.subs_trans hu hz)
  ·rw[Xv]at hx ⊢;obtain⟨z,hz,rfl⟩:=QK.1 hx;exact List.mem_map_of_mem (Tr.subs_trans hv hz)
 ·cases st2 with
  | none=>cases k
  | some s=>exact Tr.subs_trans k hv
structure JfI(d:List UInt8->BA)(b:ByL)(st1 st2:Option Tr)(v:Vw):Prop where
 walk:∀res,Jw b [Jt b (JV d st1) (-1)] ⟨[],[],[]⟩ res->res=some v
 met:∀n∈Jd d st1,n ∉ Jd d st2->d (txtN n)∈v.met
 outs:∀q,q∈v.outs↔∃x∈Jr st1,x ∉ Jr st2/\q=(⟨x.1.toArray⟩,x.2)
 left:(st1=none/\st2=none/\v.left=[d [69]])\/((st1 ≠ none\/st2 ≠ none)/\∃C:List Tr,C.Nodup/\(∀u,u∈C↔u∈JbD st1/\u∈JbD st2)/\(v.left++C.flatMap (Tr.kids d)).Perm (C.map (Tr.dig d)))
theorem Ys.seen{b:ByL}{st1 st2:Option Tr}(h:Ys d b st1 st2):∃v,JfI d b st1 st2 v:=by
 cases st1 with
 | some t=>
  obtain⟨m,o,l,C,k⟩:=h.told.seen;refine⟨⟨m,o,l⟩,λres hr=>?_,λn hn k2=>?_,λq=>?_,.inr ⟨.inl (by simp),C,k.once,k.both,k.left⟩⟩
  ·have:=k.walk (-1) [] ⟨[],[],[]⟩ res (by simp) (by simp) (λb' _ _ _=>by omega) hr;simpa using this.end
  ·simp only[Jd]at hn;rw[Xv]at hn;obtain⟨u,hu,rfl⟩:=QK.1 hn;exact(k.met _).2 ⟨u,hu,λk3=>k2 ((h.mem hu).2 k3),by rw[Xh,<-Tr.dig_text d u]⟩
  ·rw[k.outs];constructor
   ·rintro⟨x,hx,h1,rfl⟩;exact⟨x,hx,λk=>h1 (Jdh.2 k),rfl⟩
   ·rintro⟨x,hx,h1,rfl⟩;exact⟨x,hx,λk=>h1 (Jdh.1 k),rfl⟩
 | none=>
  have hg:=h.get (n:=(⟨#[69]⟩,⟨#[]⟩,(0,0),0,⟨#[]⟩,⟨#[]⟩)) (by simp[Jd]);have et:txtN (⟨#[69]⟩,⟨#[]⟩,(0,0),0,⟨#[]⟩,⟨#[]⟩)=[69]:=rfl;rw[et]at hg
  cases st2 with
  | none=>
   have hn:=hg.2 (by simp[Jd]);refine⟨⟨[],[],[d [69]]⟩,λres hr=>?_,λn hn k2=>absurd hn k2,λq=>by simp[Jr],.inl ⟨rfl,rfl,rfl⟩⟩;have:=hr.go (v':=⟨[],[],[]++[d [69]]⟩) (.inl ⟨hn,rfl⟩);have hb:Xn b (Jt b (JV d none) (-1))=[]:=(by unfold Xn;rw[show (Jt b (JV d none) (-1)).nd=none from hn]);rw[hb]at this;exact this.end
  | some s=>
   have hn:=hg.1 (by
    simp only[Jd];rw[Xv,QK];rintro⟨u,_,e⟩
    cases u using Tr.ri<;>simp[JF]at e)
   refine⟨⟨[d [69]],[],[]⟩,λres hr=>?_,λn hn k2=>?_,λq=>by simp[Jr],.inr ⟨.inr (by simp),[],List.nodup_nil,by simp[JbD],by simp⟩⟩
   ·have:=hr.go (v':=⟨[]++[d [69]],[],[]⟩) (.inr ⟨_,hn,.inr ⟨by simp,.inr (.inr ⟨by decide,by decide,rfl⟩)⟩⟩);have hb:Xn b (Jt b (JV d none) (-1))=[]:=(by unfold Xn;rw[show (Jt b (JV d none) (-1)).nd=some _ from hn];rfl);rw[hb]at this;exact this.end
   ·simp only[Jd,Qt]at hn;rw[hn,et];simp
theorem Ys.left{b:ByL}{st1 st2:Option Tr}{v1 v2:Vw}(h1:JfI d b st1 st2 v1)(h2:JfI d b st2 st1 v2):v1.left.Perm v2.left:=by
 rcases h1.left with⟨rfl,rfl,e1⟩|⟨hn,C,c1,c2,c3⟩
 ·rcases h2.left with⟨_,_,e2⟩|⟨hn,_⟩
  ·rw[e1,e2]
  ·exact absurd rfl (hn.elim id id)
 ·rcases h2.left with⟨rfl,rfl,e2⟩|⟨_,D,d1,d2,d3⟩
  ·exact absurd rfl (hn.elim id id)
  ·have p:C.Perm D:=(List.perm_ext_iff_of_nodup c1 d1).2 λu=>by rw[c2,d2];exact And.comm
   have q:=(c3.trans (p.map _)).trans d3.symm;exact(List.perm_append_right_iff _).1 (q.trans (List.Perm.append_left _ ((p.flatMap_right _).symm)))
theorem Ys.met{b:ByL}{st1 st2:Option Tr}{v1 v2:Vw}(h:Ys d b st1 st2)(h1:JfI d b st1 st2 v1)(h2:JfI d b st2 st1 v2):∀e∈b.map (·.1),e∈v1.met\/e∈v2.met:=by
 intro e he;obtain⟨⟨e,n⟩,hq,rfl⟩:=QK.1 he;obtain⟨rfl,k⟩:=(h.tell _ _).1 hq;exact k.imp (λk=>h1.met n k.1 k.2) (λk=>h2.met n k.2 k.1)
