import Derived.Shelf.Small.Strs
import Derived.Shelf.Sort.Plain
import Derived.Shelf.Slices.In.SortNone
import Derived.Test.YtighkdnooglfjaaGreatDoorLxMp
import Derived.Test.YtighkdnooglfjaaGreatDoorLxPRs
namespace Go.Proofs.YtighkdnooglfjaaGreatDoor
open Tryz
set_option maxRecDepth 100000
set_option maxHeartbeats 1000000
open Go.RowKit

variable {wj:Int}{l:List BA}{done:List UInt8}{b:Nat}{g:Option Nat}{v:Value}{w w1 wr:World}
def szB(t:BA):List UInt8:=beL t.size 2 2++t.data.toList
def szsB(l:List BA):List UInt8:=l.flatMap szB
theorem JbQ(t:BA):(szB t).length=t.size+2:=by
 have e:t.data.size=t.size:=rfl;simp[szB,Jf,e];omega
def TxAt(b:Nat)(w:World)(v:Value)(l:List BA):Prop:=(∃a c,v=.slice a 0 c/\l=[])\/∃g o c,v=.slice (some ⟨g,o,none⟩) l.length c/\g<b/\g<w.heap.size/\∀i (h:i<l.length),w.cell? ⟨g,o+i,none⟩=some (.string l[i])
theorem TxAt.shape(h:TxAt b w v l):∃a c,v=.slice a l.length c:=by
 rcases h with⟨a,c,rfl,rfl⟩|⟨g,o,c,rfl,_⟩
 ·exact⟨a,c,rfl⟩
 ·exact⟨_,_,rfl⟩
theorem JhD{base:Nat}{e:Value}(hd:done ≠ [])(hp:Jc w b g wj e (.wr done))(hl:l ≠ [])(hn:NOwn base w v l):∀k,v.ownBlock=some k->g ≠ some k:=by
 intro k hk hg;obtain⟨vv,hv,hbs,_⟩:=hp;obtain⟨g2,cap,rfl,_,_,_,hc⟩:=hn.at hl
 cases hk
 rcases hbs with⟨rfl,h0⟩|⟨g3,cap3,rfl,_,_,_,_,h3,_⟩
 ·rw[hg]at hv;cases hv
 ·rw[hg]at hv
  cases hv
  have h4:=(hc 0 (by cases l with|nil=>exact absurd rfl hl|cons _ _=>simp)).1
  cases done with
  | nil=>exact hd rfl
  | cons x r=>
   have h5:=h3 0 _ (by simp[bc];rfl);rw[h4]at h5
   cases h5
structure RowI(b:Nat)(g:Option Nat)(wj:Int)(w:World)(done:List UInt8)(l:List BA)(v:Value)(wr:World):Prop where
 own:NOwn w.heap.size wr v l
 nil:l=[]->v=.slice none 0 0
 port:JW w wr b g wj (.wr (done++szsB l))
theorem RowI.next(h:RowI b g wj w done l v wr)(k:Tch NoB wr w1):RowI b g wj w done l v w1:=by
 obtain⟨g1,hp,hm,ht⟩:=h.port;exact⟨h.own.tch k (λ_ _ e=>e),h.nil,g1,hp.tch k (λe=>e) (λ_ _ e=>e),hm,ht.trans k (λ_ e=>e.elim)⟩
theorem RowI.add(h:RowI b g wj w done l v wr)(hb:b<w.heap.size)(x:BA)(hl:l.length<=1000000000){g1:Option Nat}(hp:Jc wr b g1 wj .nilIface (.wr (done++szsB l)))(hm:Jm w g g1)(ht:Tch (λk=>k=b\/some k=g) w wr)(h1:JW wr w1 b g1 wj (.wr (done++szsB l++szB x))):
  ∃v' w3,(Builtin.append_ #[58,58] 58 #[v,.slice (some ⟨w1.heap.size,0,none⟩) 1 1]).run prog (w1.alloc (.cells #[.string x] 9))=.ok v' w3/\RowI b g wj w done (l++[x]) v' w3:=by
 obtain⟨g2,hp2,hm2,ht2⟩:=h1;have hz:=ht.size;have hz2:=ht2.size;have hown:∀k,v.ownBlock=some k->w.heap.size<=k:=λk hk=>(h.own.own k hk).1;have hap:∀k,v.ownBlock=some k->g1 ≠ some k:=by
  intro k hk
  by_cases hn:l=[]
  ·rw[h.nil hn]at hk;cases hk
  ·refine JhD ?_ hp hn h.own k hk;intro e;obtain⟨y,r,rfl⟩:=List.exists_cons_of_ne_nil hn;have:=congrArg List.length e;simp[szsB,JbQ]at this
 have n1:NOwn w.heap.size w1 v l:=h.own.tch ht2 (λk hk e=>by
  rcases e with e|e
  ·have:=hown k hk;omega
  ·exact hap k hk e.symm)
 have tA:=Ta NoB w1 (.cells #[.string x] 9);have n2:=n1.tch tA (λ_ _ e=>e);obtain⟨v',w3,hr,h3,hg⟩:=Xx n2 w1.heap.size x (Ja (Qf _ _)) 58 (by omega) (by simp;omega);refine⟨v',w3,hr,h3,λe=>by simp at e,g2,?_,hm.trans hm2 hz,?_⟩
 ·have e:done++szsB (l++[x])=done++szsB l++szB x:=by simp[szsB]
  rw[e];refine(hp2.tch tA (λh=>h) (λ_ _ h=>h)).tch (Tg hg) (λe=>by have:=hown b e.symm;omega) (λk hk e=>?_)
  rcases hm2 with e2|⟨k2,e2,hk2⟩
  ·exact hap k e.symm (by rw[<-e2];exact hk)
  ·rw[e2]at hk
   cases hk
   have:=(h.own.own k e.symm).2;obtain⟨cs,m,hc⟩:=this;have:=(Jb hc)
   omega
 ·refine((ht.trans ht2 (λk hk=>?_)).trans tA noE).trans (Tg hg) (λk hk=>.inr (hown k hk.symm))
  rcases hk with hk|hk
  ·exact .inl (.inl hk)
  ·rcases hm with e2|⟨k2,e2,hk2⟩
   ·rw[e2]at hk;exact .inl (.inr hk)
   ·rw[e2]at hk;cases hk;exact .inr hk2
theorem JnP(E:Nat->Addr)(b:Nat)(g:Option Nat)(wj:Int)(what:BA)(v:Value)(l:List BA)(done:List UInt8)(w:World)(hp:Jc w b g wj .nilIface (.wr done))(hv:TxAt b w v l)(hs:∀t∈l,t.size<65536)(hl:l.length<=1000000000)(hd:(done++szsB l).length<=1000000000000):
  Calls prog 243 #[.pointer (some ⟨b,0,none⟩),.string what,v,.func (.func 210) #[.pointer (some ⟨b,0,none⟩)] #[]] w λe w'=>∃v',e=.returned v'/\RowI b g wj w done l v' w':=by
 have hb:=hp.lt;obtain⟨va,vc,hvs⟩:=hv.shape;have HG:Hid (∀j,g=some j->b<j):=λj h=>(hp.own j h).1;have HVS:Hid (v=.slice va l.length vc):=hvs;have HV:Hid (TxAt b w v l):=hv;have HS:Hid ((∀t∈l,t.size<65536)/\l.length<=1000000000/\(done++szsB l).length<=1000000000000):=⟨hs,hl,hd⟩
 have HI0:Hid (RowI b g wj w done [] (.slice none 0 0) w):=⟨NOwn.nil _ _,λ_=>rfl,g,by simpa [szsB]using hp,.inl rfl,Te _ _⟩
 obtain⟨n,hn⟩:∃n,n=l.length:=⟨_,rfl⟩
 rw[hvs,<-hn];have HN:Hid (n=l.length):=hn;have hnb:n<=1000000000:=by omega
 clear hp hv hs hl hd hvs hn;go_enter func243,ntmps243;go_wp2;go_loopw [9,10] (λv9 i wr=>∃k:Nat,k<=n/\i=.int .i64 (k:Int)/\(∃a m c,v9=.slice a m c)/\Hid (RowI b g wj w done (l.take k) v9 wr)) (λ_ i _=>n-(intOf i).toNat)
 case atStart=>exact⟨0,Nat.zero_le _,rfl,⟨_,_,_,rfl⟩,HI0⟩
 case round=>
  obtain⟨k,hk,rfl,⟨a9,m9,c9,rfl⟩,HI⟩:=hrel;have HM:Hid (∀m:Bool,Calls prog 221 #[.pointer (some ⟨b,0,none⟩),.bool m] wr λe w'=>e=.returned (.bool m)/\Tch NoB wr w'):=λm=>by
   obtain⟨g1,hp1,_⟩:=HI.o.port;exact Jir E b g1 wj m (some (.wr (done++szsB (l.take k)))) wr hp1
  by_cases hlt:k<n
  ·have hkl:k<l.length:=(by have:=HN.o;omega);obtain⟨x,hx⟩:∃x,x=l[k]:=⟨_,rfl⟩
   have HX:Hid (l.take (k+1)=l.take k++[x]/\x.size<65536/\(done++szsB (l.take k)).length<=1000000000000):=(by refine⟨by rw[hx,QQ hkl],by rw[hx];exact HS.o.1 _ (Qx hkl),?_⟩;have h1:=HS.o.2.2;have h2:l=l.take k++l.drop k:=(List.take_append_drop k l).symm;rw[h2]at h1;simp only[szsB,List.flatMap_append,Qe]at h1 ⊢;omega);obtain⟨gi,oi,hva,hgi,hcell⟩:∃gi oi,va=some ⟨gi,oi,none⟩/\gi<b/\w.cell? ⟨gi,oi+k,none⟩=some (.string x):=by
    rcases HV.o with⟨a,c,_,h0⟩|⟨gi,oi,c,e,h1,h2,h3⟩
    ·rw[h0]at hkl;simp at hkl
    ·rw[HVS.o]at e
     cases e
     exact⟨gi,oi,rfl,h1,by rw[hx];exact h3 k hkl⟩
   subst hva;have HCX:Hid (∀V,Tch (λj=>j=b\/some j=g) w V->V.cell? ⟨gi,oi+k,none⟩=some (.string x)):=λV hT=>(hT.cell (p:=⟨gi,oi+k,none⟩) (Qr _ _ hcell) (by
    rintro(e|e)
    ·simp only at e;omega
    ·have:=HG.o gi e.symm;omega)).trans hcell
   have HSZ:Hid (∀V g1,Jc V b g1 wj .nilIface (.wr (done++szsB (l.take k)))->Calls prog 210 #[.pointer (some ⟨b,0,none⟩),.string x] V λe w'=>e=.returned (.string x)/\JW V w' b g1 wj (.wr (done++szsB (l.take k)++szB x))):=λV g1 h=>(JgP b g1 wj _ x HX.o.2.1 HX.o.2.2 V h).mono λe w' h=>⟨h.1,by have:=h.2;rwa [Qs]at this⟩
   have hki:(k:Int)<(n:Int):=(by omega);clear hcell hx hkl;go_wp2_with fail;refine(HM.o true).mono ?_;rintro _ w1⟨rfl,ht1⟩;have HI1:Hid (RowI b g wj w done (l.take k) (.slice a9 m9 c9) w1):=HI.o.next ht1;obtain⟨g1,hp1,hm1,hT1⟩:=HI1.o.port;have hc1:=HCX.o w1 hT1;have HC:Hid (Calls prog 210 #[.pointer (some ⟨b,0,none⟩),.string x] w1 λe w'=>e=.returned (.string x)/\∃v' w3,(Builtin.append_ #[58,58] 58 #[.slice a9 m9 c9,.slice (some ⟨w'.heap.size,0,none⟩) 1 1]).run prog (w'.alloc (.cells #[.string x] 9))=.ok v' w3/\RowI b g wj w done (l.take k++[x]) v' w3):=(by refine(HSZ.o w1 g1 hp1).mono ?_;rintro e w2⟨rfl,hpt⟩;refine⟨rfl,HI1.o.add hb x (by rw[QB];have:=HN.o;omega) hp1 hm1 hT1 hpt⟩);clear ht1 hp1 hm1 hT1 HM HI HSZ;go_wp2_with fail;refine HC.o.mono ?_;rintro _ w2⟨rfl,v',w3,hap,hI3⟩;have hsv:∃a n c,v'=.slice a n c:=by obtain⟨a,c,h⟩:=hI3.own.shape;exact⟨_,_,_,h⟩
   obtain⟨a',m',c',rfl⟩:=hsv;obtain⟨g3,hp3,_⟩:=hI3.port;have ce:=hp3.errCell;have HI3:Hid (RowI b g wj w done (l.take k++[x]) (.slice a' m' c') w3):=hI3;clear hp3 hI3 HC hc1;go_wp2_with (at_builtin;refine Xr rfl _ _ 58 rfl rfl rfl hap ?_);go_roundw
   case rel=>exact⟨k+1,hlt,by go_num,⟨_,_,_,rfl⟩,by rw[HX.o.1];exact HI3⟩
   case measure=>simp[intOf];omega
  ·have hke:k=n:=(by omega);have HKE:Hid (l.take k=l):=QR (by have:=HN.o;omega);have hki:¬(k:Int)<(n:Int):=(by omega);clear hke;go_wp2_with fail;refine(HM.o false).mono ?_;rintro _ w1⟨rfl,ht1⟩;have HI1:Hid (RowI b g wj w done (l.take k) (.slice a9 m9 c9) w1):=HI.o.next ht1;clear ht1 HI HM;go_wp2;go_ret;exact⟨_,rfl,by rw[<-HKE.o];exact HI1.o⟩
end Go.Proofs.YtighkdnooglfjaaGreatDoor
namespace Go.Proofs
open Tryz
open Go.Lib Go.RowKit Go.Shelf Go.Sort
def Jgm:Go.Shelf.Ren:=⟨fun|106=>245|213=>321|265=>352|n=>n,fun|9=>9|3=>3|n=>n,fun|n=>n⟩
theorem Jms:Go.Proofs.Lays.n106 prog Jgm:={
 mixed:=by kernel_rfl
 f106:=func245.trans (congrArg some (by kernel_rfl))
 f213:=func321.trans (congrArg some (by kernel_rfl))
 f265:=func352.trans (congrArg some (by kernel_rfl))
 t3:=underlying3
 a3:=isAgg3
 z3:=sizeOf3
 v3:=zeroValue3
 t9:=underlying9
 a9:=isAgg9
 z9:=sizeOf9
 v9:=zeroValue9 }
theorem strings_Compare(a b:ByteArray)(w:World):
  Calls prog 245 #[.string a,.string b] w λe w'=>e=.returned (.int .i64 (Lib.compareBytes a.data.toList b.data.toList))/\w'=w:=Any.strings_Compare Jms a b w
def Jgn:Go.Shelf.Ren:=⟨fun|190=>155|125=>242|258=>241|128=>319|129=>320|302=>310|303=>311|304=>312|305=>313|306=>314|307=>315|308=>316|309=>317|310=>318|333=>346|329=>347|330=>348|334=>349|335=>350|336=>351|344=>359|n=>n,fun|31=>58|9=>9|3=>3|46=>322|0=>0|51=>429|53=>78|4=>4|183=>464|182=>463|131=>468|5=>5|218=>496|222=>500|228=>505|229=>506|n=>n,fun|n=>n⟩
theorem Jiq:Go.Proofs.Lays.n190 prog Jgn:={
 mixed:=by kernel_rfl
 f125:=func242.trans (congrArg some (by kernel_rfl))
 f128:=func319.trans (congrArg some (by kernel_rfl))
 f129:=func320.trans (congrArg some (by kernel_rfl))
 f190:=func155.trans (congrArg some (by kernel_rfl))
 f258:=func241.trans (congrArg some (by kernel_rfl))
 f302:=func310.trans (congrArg some (by kernel_rfl))
 f303:=func311.trans (congrArg some (by kernel_rfl))
 f304:=func312.trans (congrArg some (by kernel_rfl))
 f305:=func313.trans (congrArg some (by kernel_rfl))
 f306:=func314.trans (congrArg some (by kernel_rfl))
 f307:=func315.trans (congrArg some (by kernel_rfl))
 f308:=func316.trans (congrArg some (by kernel_rfl))
 f309:=func317.trans (congrArg some (by kernel_rfl))
 f310:=func318.trans (congrArg some (by kernel_rfl))
 f329:=func347.trans (congrArg some (by kernel_rfl))
 f330:=func348.trans (congrArg some (by kernel_rfl))
 f333:=func346.trans (congrArg some (by kernel_rfl))
 f334:=func349.trans (congrArg some (by kernel_rfl))
 f335:=func350.trans (congrArg some (by kernel_rfl))
 f336:=func351.trans (congrArg some (by kernel_rfl))
 f344:=func359.trans (congrArg some (by kernel_rfl))
 t0:=underlying0
 a0:=isAgg0
 z0:=sizeOf0
 v0:=zeroValue0
 t3:=underlying3
 a3:=isAgg3
 z3:=sizeOf3
 v3:=zeroValue3
 t4:=underlying4
 a4:=isAgg4
 z4:=sizeOf4
 v4:=zeroValue4
 t5:=underlying5
 a5:=isAgg5
 z5:=sizeOf5
 v5:=zeroValue5
 t9:=underlying9
 a9:=isAgg9
 z9:=sizeOf9
 v9:=zeroValue9
 t31:=underlying58
 a31:=isAgg58
 z31:=sizeOf58
 v31:=zeroValue58
 t46:=underlying322
 a46:=isAgg322
 z46:=sizeOf322
 v46:=zeroValue322
 t51:=underlying429
 a51:=isAgg429
 z51:=sizeOf429
 v51:=zeroValue429
 t53:=underlying78
 a53:=isAgg78
 z53:=sizeOf78
 v53:=zeroValue78
 t131:=underlying468
 a131:=isAgg468
 z131:=sizeOf468
 v131:=zeroValue468
 t182:=underlying463
 a182:=isAgg463
 z182:=sizeOf463
 v182:=zeroValue463
 t183:=underlying464
 a183:=isAgg464
 z183:=sizeOf464
 v183:=zeroValue464
 t218:=underlying496
 a218:=isAgg496
 z218:=sizeOf496
 v218:=zeroValue496
 t222:=underlying500
 a222:=isAgg500
 z222:=sizeOf500
 v222:=zeroValue500
 t228:=underlying505
 a228:=isAgg505
 z228:=sizeOf505
 v228:=zeroValue505
 t229:=underlying506
 a229:=isAgg506
 z229:=sizeOf506
 v229:=zeroValue506 }
theorem slices_Sort_string(blk off cap:Nat)(ss:List (List UInt8))(w:World)(hH:Holds encStr w blk off ss.toArray)(hblk:blk<w.heap.size)(hsz:ss.length<4611686018427387904):
  Calls prog 155 #[.slice (some ⟨blk,off,none⟩) ss.length cap] w λe w'=>
   e=.returned (.tuple #[])/\∃n os,w'=grow (putRow encStr (Sort.ahead w n) blk off (ss.mergeSort λx y=>decide (x<=y)).toArray) os:=Any.slices_Sort_string Jiq blk off cap ss w hH hblk hsz
theorem slices_Sort_string_none(p:Option Addr)(cap:Nat)(w:World):
  Calls prog 155 #[.slice p 0 cap] w λe w'=>e=.returned (.tuple #[])/\w'=w:=Any.slices_Sort_string_none Jiq p cap w
end Go.Proofs
namespace Go.Proofs.YtighkdnooglfjaaGreatDoor
open Tryz
set_option maxRecDepth 100000
open Go.RowKit

def ZJ(l:List BA):Prop:=∀i (h:i+1<l.length),Lib.compareBytes (l[i]'(by omega)).data.toList l[i+1].data.toList<0
theorem Jdx(b:Nat)(g:Option Nat)(wj:Int)(what:BA)(base:Nat)(v:Value)(l:List BA)(p:PS)(w:World)(hp:Jc w b g wj .nilIface p)(hv:NOwn base w v l)(hr:ZJ l)(hl:l.length<=1000000000):
  Calls prog 244 #[.pointer (some ⟨b,0,none⟩),.string what,v,.func (.func 245) #[] #[]] w λe w'=>e=.returned (.tuple #[])/\Tch NoB w w':=by
 obtain⟨va,vc,hvs⟩:=hv.shape;have HV:Hid (NOwn base w v l):=hv;have HVS:Hid (v=.slice va l.length vc):=hvs;have HR:Hid (ZJ l):=hr;have ce:=hp.errCell;have HCE:Hid (∀V,Tch NoB w V->V.cell? ⟨b,2,none⟩=some .nilIface):=λV hT=>(hp.tch hT (λh=>h) (λ_ _ h=>h)).errCell;obtain⟨n,hn⟩:∃n,n=l.length:=⟨_,rfl⟩
 rw[hvs,<-hn];have HN:Hid (n=l.length):=hn;have hnb:n<=1000000000:=by omega
 clear hp hv hr hl hvs hn ce;go_enter func244,ntmps244;go_wp2;go_loopw [8] (λi wr=>∃k:Nat,1<=k/\i=.int .i64 (k:Int)/\Hid (Tch NoB w wr)) (λi _=>n+1-(intOf i).toNat)
 case atStart=>exact⟨1,Ql _,rfl,Te _ _⟩
 case round=>
  obtain⟨k,hk,rfl,HT⟩:=hrel;have ce:=HCE.o wr HT.o
  by_cases hlt:k<n
  ·obtain⟨j,hjk⟩:∃j,k=j+1:=⟨k-1,by omega⟩
   have hkl:k<l.length:=(by have:=HN.o;omega);have hjl:j<l.length:=(by omega);obtain⟨x,hx⟩:∃x,x=l[j]:=⟨_,rfl⟩
   obtain⟨y,hy⟩:∃y,y=l[k]:=⟨_,rfl⟩
   obtain⟨gi,cap,hvg,_,_,_,hcell⟩:=HV.o.at (λe=>by rw[e]at hjl;simp at hjl);have hva:va=some ⟨gi,0,none⟩:=(by rw[HVS.o]at hvg;cases hvg;rfl);subst hva;have HC:Hid (∀V,Tch NoB w V->V.cell? ⟨gi,j,none⟩=some (.string x)/\V.cell? ⟨gi,k,none⟩=some (.string y)):=λV hT=>by
    have c1:=(hcell j hjl).1;have c2:=(hcell k hkl).1;exact⟨((hT.cell (p:=⟨gi,j,none⟩) (Qr _ _ c1) (λh=>h)).trans c1).trans (by rw[hx]),((hT.cell (p:=⟨gi,k,none⟩) (Qr _ _ c2) (λh=>h)).trans c2).trans (by rw[hy])⟩
   obtain⟨z,hz⟩:∃z,z=Lib.compareBytes x.data.toList y.data.toList:=⟨_,rfl⟩
   have hz0:¬(0<=z):=(by have:=HR.o j (by omega);subst hjk;rw[<-hx,<-hy,<-hz]at this;omega);have HCO:Hid (∀V,Calls prog 245 #[.string x,.string y] V λe w'=>e=.returned (.int .i64 z)/\w'=V):=λV=>by rw[hz];exact strings_Compare x y V
   obtain⟨c1,c2⟩:=HC.o wr HT.o;have hen:∀args w,(callFunc 245 args).run prog w=.ok (.enter 245 args) w:=λ_ _=>by kernel_rfl
   have hki:(k:Int)<(n:Int):=(by omega);have hji:(j:Int)<(n:Int):=(by omega);have hsub:IntKind.i64.wrap ((k:Int)-1)=(j:Int):=(by simp[IntKind.wrap,IntKind.bits,IntKind.signed];omega);have HJK:Hid (k=j+1):=hjk;clear hcell hx hy hz hjl hkl hvg hjk;go_upto_region 3 with fail;go_cut [33] (λv wx=>v=.bool false/\Hid (Tch NoB w wx))
   case first=>
    go_region_held3 (λV=>V.cell? ⟨gi,j,none⟩=some (.string x)/\V.cell? ⟨gi,k,none⟩=some (.string y)) (go_keep) ((go_at_call 245;refine(HCO.o _).mono ?_;rintro _ X⟨rfl,hX⟩;rw[hX];clear hX X))
    all_goals go_wp2;go_meet;exact⟨by simp[hz0],HT.o.go (Td _ _ _)⟩
   case rest=>
   obtain⟨rfl,HT2⟩:=hcut;clear c1 c2 hsub;go_wp2;go_roundw
   case rel=>exact⟨k+1,by omega,by go_num,HT2⟩
   case measure=>simp[intOf];omega
  ·have hki:¬(k:Int)<(n:Int):=(by omega);go_wp2;exact bodyPost_end (v:=.tuple #[]) (results_none results244 _ _ _) rfl ⟨rfl,HT.o⟩
theorem JdV(E:Nat->Addr)(b:Nat)(g:Option Nat)(wj:Int)(v:Value)(l:List BA)(done:List UInt8)(w:World)(hp:Jc w b g wj .nilIface (.wr done))(hv:TxAt b w v l)(hs:∀t∈l,t.size<65536)(hr:ZJ l)(hl:l.length<=1000000000)(hd:(done++szsB l).length<=1000000000000):
  Calls prog 156 #[.pointer (some ⟨b,0,none⟩),v] w λe w'=>(∃v',e=.returned v')/\JW w w' b g wj (.wr (done++szsB l)):=by
 have hmf:∀(fn:Fn)(first cap:Array Value)(w:World),(Instr.makeFunc fn first cap).run prog w=.ok (.func fn first cap) w:=λ_ _ _ _=>rfl;have HRW:Hid (Calls prog 243 _ w _):=JnP E b g wj ⟨#[110,111,100,101]⟩ v l done w hp hv hs hl hd;have HRI:Hid (∀V v',RowI b g wj w done l v' V->Calls prog 244 #[.pointer (some ⟨b,0,none⟩),.string ⟨#[110,111,100,101]⟩,v',.func (.func 245) #[] #[]] V λe w'=>e=.returned (.tuple #[])/\RowI b g wj w done l v' w'):=λV v' h=>by
  obtain⟨g1,hp1,_⟩:=h.port;exact(Jdx b g1 wj _ _ v' l _ V hp1 h.own hr hl).mono λe w' k=>⟨k.1,h.next k.2⟩
 obtain⟨va,vc,hvs⟩:=hv.shape;rw[hvs]at HRW ⊢;clear hp hv hs hr hl hd hvs;go_enter func156,ntmps156;go_wp2_with fail;refine HRW.o.mono ?_;rintro _ w1⟨v',rfl,hI⟩;obtain⟨a',c',hv'⟩:=hI.own.shape;subst hv';have HI:Hid (RowI b g wj w done l (.slice a' l.length c') w1):=hI;clear hI HRW;go_wp2_with fail;refine(HRI.o w1 _ HI.o).mono ?_;rintro _ w2⟨rfl,hI2⟩;have HI2:Hid (RowI b g wj w done l (.slice a' l.length c') w2):=hI2;clear hI2;go_wp2;go_ret;exact⟨⟨_,rfl⟩,HI2.o.port⟩

def strR(l:List BA):Array Value:=(l.map Value.string).toArray
theorem JlN(l:List BA)(k:Nat)(x:BA):(strR l).setIfInBounds k (.string x)=strR (l.set k x):=by
 unfold strR;rw[Qa,List.map_set]
theorem JmG(n:Nat)(h:n<=1000000000)(w:World):(Instr.makeSlice 58 (.int .i64 (n:Int)) (.int .i64 (n:Int))).run prog w=.ok (.slice (some ⟨w.heap.size,0,none⟩) n n) (w.alloc (.cells (strR (List.replicate n ⟨#[]⟩)) 9)):=by
 obtain⟨i,hi,hp⟩:=Option.map_eq_some_iff.1 Jgi;simp only[Qw]at hp;obtain⟨hz,hsz,hby⟩:=hp;have:=run_make (P:=prog) w 58 9 i _ underlying58 hi hz .i64 .i64 (n:Int) (n:Int) (by omega) (by omega) (by rw[hby];omega) (by omega);rw[this,Int.toNat_natCast,hsz,Nat.mul_one];have e:madeCells (Value.string ⟨#[]⟩).cells n=strR (List.replicate n ⟨#[]⟩):=by
  unfold madeCells strR;apply Array.ext_getElem?;intro j;rw[show (Value.string ⟨#[]⟩).cells= #[.string ⟨#[]⟩] from rfl]
  by_cases hj:j<n
  ·simp[hj,Nat.mod_one]
  ·simp[hj]
 rw[e]
theorem YF.at{base:Nat}{w:World}{v:Value}{l:List Jk}(h:YF base w v l)(hl:l ≠ []):∃g cap,v=.slice (some ⟨g,0,none⟩) l.length cap/\base<=g/\g<w.heap.size/\∀i (hi:i<l.length) c (_:c<7),w.cell? ⟨g,i*7+c,none⟩=(Jo l[i])[c]? :=by
 obtain⟨h1,⟨_,h0⟩|⟨g,cap,cur,rfl,hb,hrow,h2,h3,h4,h5⟩⟩:=h
 ·exact absurd (QO h0) hl
 ·refine⟨g,cap,rfl,hb,(Jb hrow),λi hi c _=>?_⟩;rw[Ja hrow,<-Array.getElem?_toList];have hlt:i*7+c<l.length*7:=by omega
  have e:(cur.toList.take (l.length*7))[i*7+c]? =cur.toList[i*7+c]? :=List.getElem?_take_of_lt hlt;rw[<-e,h5];have key:∀(l:List Jk)(i:Nat)(hi:i<l.length),(l.flatMap λn=>(Jo n).toList)[i*7+c]? =(Jo l[i])[c]? :=by
   intro l
   induction l with
   | nil=>intro i hi;simp at hi
   | cons x r ih=>
    intro i hi
    cases i with
    | zero=>
     rw[QG,QF (by rw[Jca];omega),Nat.zero_mul,Nat.zero_add,Array.getElem?_toList];rfl
    | succ i=>
     rw[QG,Qz (by rw[Jca];omega),Jca,show (i+1)*7+c-7=i*7+c by omega,ih i (by simpa using hi)];rfl
  exact key l i hi
def bsL(t:List UInt8):BA:=⟨t.toArray⟩
theorem Tch.putRowG{α:Type}[Inhabited α](enc:α->Value)(w:World)(n blk off:Nat)(d:Array α)(os:Array Obj):Tch (λj=>j=blk) w (Go.Sort.grow (Go.Sort.putRow enc (Go.Sort.ahead w n) blk off d) os):=by
 refine⟨rfl,rfl,rfl,by simp,λk hk hn=>?_⟩;rw[Go.Sort.heap_grow_old _ _ (by simpa using hk)];simp[Go.Sort.putRow,Go.Sort.mapBlock,Go.Sort.ahead,Array.getElem?_modify,Ne.symm hn]
theorem JjQ(g cap:Nat)(ss:List (List UInt8))(w:World)(hr:w.heap[g]? =some (.cells (strR (ss.map bsL)) 9))(hl:ss.length<=1000000000):
  Calls prog 155 #[.slice (some ⟨g,0,none⟩) ss.length cap] w λe w'=>e=.returned (.tuple #[])/\Tch (λj=>j=g) w w'/\∀i (h:i<(ss.mergeSort λx y=>decide (x<=y)).length),w'.cell? ⟨g,i,none⟩=some (.string (bsL (ss.mergeSort λx y=>decide (x<=y))[i])):=by
 have hgl:=(Jb hr)
 have hH:Go.Sort.Holds Go.Proofs.encStr w g 0 ss.toArray:=λj hj=>by
  have hj':j<ss.length:=by simpa using hj
  refine⟨?_,?_⟩
  ·rw[Nat.zero_add,Ja hr];simp[strR,hj'];rfl
  ·exact Qg _ _ _ _ _ hr
 refine(slices_Sort_string g 0 cap ss w hH hgl (by omega)).mono ?_;rintro e w'⟨rfl,n,os,rfl⟩;refine⟨rfl,Tch.putRowG _ _ _ _ _ _ _,λi h=>?_⟩;have hsz:(ss.mergeSort λx y=>decide (x<=y)).toArray.size=ss.toArray.size:=by simp
 have:=Go.Sort.holds_putRow Go.Proofs.encStr (Go.Sort.ahead w n) g 0 ss.toArray (ss.mergeSort λx y=>decide (x<=y)).toArray (Go.Sort.holds_ahead _ _ _ _ _ _ hH) hsz;have h2:=(Go.Sort.holds_grow _ _ os g 0 _ (by simpa using hgl) this i (by simpa using h)).1;rw[Nat.zero_add]at h2;rw[h2,getElem!_pos _ i (by simpa using h)];rfl
