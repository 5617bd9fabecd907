import Derived.Test.YtighkdnooglfjaaGreatDoorLcDig
import Derived.Shelf.Strconv.Itoa3
import Derived.Lib.ItoaLen
import Derived.Deep.RegionHeld3
import Derived.RangeFuncCalls
import Derived.Shelf.SlicesE.Reverse
import Derived.Shelf.Small.Strs
import Derived.Shelf.Sort.Plain
import Derived.Shelf.Slices.In.SortNone
namespace Go.Proofs.YtighkdnooglfjaaGreatDoor
open Go.RowKit

section
variable {w W:World}{a b:Obj}
theorem hn1(h:W=w.alloc a):W.heap[w.heap.size]? =some a:=by rw[h];exact Qf _ _
end
end Go.Proofs.YtighkdnooglfjaaGreatDoor
namespace Go.Proofs
open Tryz
open Go.Shelf
def Je8:Go.Shelf.Ren:=⟨fun|171=>101|243=>162|246=>248|283=>323|284=>324|285=>325|286=>326|129=>320|317=>354|318=>355|319=>356|320=>357|337=>360|338=>361|n=>n,fun|3=>3|9=>9|2=>2|4=>4|171=>472|0=>0|53=>78|37=>52|5=>5|173=>474|212=>503|51=>429|20=>20|213=>504|46=>322|232=>335|233=>508|n=>n,fun|17=>15|18=>16|19=>17|n=>n⟩
theorem Jk8:Go.Proofs.LaysM.n171 prog Je8:={
 mixed:=by kernel_rfl
 f129:=func320.trans (congrArg some (by kernel_rfl))
 f171:=func101.trans (congrArg some (by kernel_rfl))
 f243:=func162.trans (congrArg some (by kernel_rfl))
 f246:=func248.trans (congrArg some (by kernel_rfl))
 f283:=func323.trans (congrArg some (by kernel_rfl))
 f284:=func324.trans (congrArg some (by kernel_rfl))
 f285:=func325.trans (congrArg some (by kernel_rfl))
 f286:=func326.trans (congrArg some (by kernel_rfl))
 f317:=func354.trans (congrArg some (by kernel_rfl))
 f318:=func355.trans (congrArg some (by kernel_rfl))
 f319:=func356.trans (congrArg some (by kernel_rfl))
 f320:=func357.trans (congrArg some (by kernel_rfl))
 f337:=func360.trans (congrArg some (by kernel_rfl))
 f338:=func361.trans (congrArg some (by kernel_rfl))
 t0:=underlying0
 a0:=isAgg0
 z0:=sizeOf0
 v0:=zeroValue0
 t2:=underlying2
 a2:=isAgg2
 z2:=sizeOf2
 v2:=zeroValue2
 t3:=underlying3
 a3:=isAgg3
 z3:=sizeOf3
 v3:=zeroValue3
 t4:=underlying4
 a4:=isAgg4
 z4:=sizeOf4
 v4:=zeroValue4
 t5:=underlying5
 a5:=isAgg5
 z5:=sizeOf5
 v5:=zeroValue5
 t9:=underlying9
 a9:=isAgg9
 z9:=sizeOf9
 v9:=zeroValue9
 t20:=underlying20
 a20:=isAgg20
 z20:=sizeOf20
 v20:=zeroValue20
 t37:=underlying52
 a37:=isAgg52
 z37:=sizeOf52
 v37:=zeroValue52
 t46:=underlying322
 a46:=isAgg322
 z46:=sizeOf322
 v46:=zeroValue322
 t51:=underlying429
 a51:=isAgg429
 z51:=sizeOf429
 v51:=zeroValue429
 t53:=underlying78
 a53:=isAgg78
 z53:=sizeOf78
 v53:=zeroValue78
 t171:=underlying472
 a171:=isAgg472
 z171:=sizeOf472
 v171:=zeroValue472
 t173:=underlying474
 a173:=isAgg474
 z173:=sizeOf474
 v173:=zeroValue474
 t212:=underlying503
 a212:=isAgg503
 z212:=sizeOf503
 v212:=zeroValue503
 t213:=underlying504
 a213:=isAgg504
 z213:=sizeOf504
 t232:=underlying335
 a232:=isAgg335
 z232:=sizeOf335
 v232:=zeroValue335
 t233:=underlying508
 a233:=isAgg508
 z233:=sizeOf508
 v233:=zeroValue508
 g17:=by kernel_rfl
 g18:=by kernel_rfl
 g19:=by kernel_rfl
 i0:=by kernel_rfl
 i2:=by kernel_rfl
 i3:=by kernel_rfl
 i4:=by kernel_rfl
 i5:=by kernel_rfl
 i9:=by kernel_rfl
 i20:=by kernel_rfl
 i37:=by kernel_rfl
 i46:=by kernel_rfl
 i51:=by kernel_rfl
 i53:=by kernel_rfl
 i171:=by kernel_rfl
 i173:=by kernel_rfl
 i212:=by kernel_rfl
 i232:=by kernel_rfl
 i233:=by kernel_rfl
 m17:=by kernel_rfl
 m18:=by kernel_rfl
 m19:=by kernel_rfl }
open Go.RowKit Go.Sort Go.Lib in
theorem strconv_Itoa(n:Int)(h0: -9223372036854775808<=n)(h1:n<=9223372036854775807)(w:World)(htab:Lib.TabIs prog w "internal/strconv.uint64pow10" .u64 Lib.pow10Tab):
  Calls prog 101 #[.int .i64 n] w λe w'=>e=.returned (.string ⟨(Lib.itoa n).toArray⟩)/\∃k os,w'=grow (w.drewN k) os:=Any.strconv_Itoa Jk8 n h0 h1 w htab
end Go.Proofs
namespace Go.Proofs.YtighkdnooglfjaaGreatDoor
open Tryz
open Go.RowKit
theorem Jc4(w:World)(k:Nat)(os:Array Obj):Below w.heap.size w (Go.Sort.grow (w.drewN k) os):=
 ⟨rfl,rfl,rfl,by simp[Go.Sort.grow,World.drewN],λj hj=>by simp[Go.Sort.grow,World.drewN,Array.getElem?_append_left hj]⟩
theorem Jk3{E:Nat->Addr}{w:World}(hE:Env E w)(i:Nat)(hi:i<100000):Calls prog 101 #[.int .i64 (i:Int)] w λe w'=>(∃s:BA,s.size<=30/\e=.returned (.string s))/\Below w.heap.size w w':=by
 refine(strconv_Itoa (i:Int) (by omega) (by omega) w hE.pow).mono λe w' h=>?_;obtain⟨h1,k,os,h2⟩:=h;refine⟨⟨_,?_,h1⟩,by rw[h2];exact Jc4 w k os⟩;have:=Lib.itoa_length_le (i:Int) (by omega) (by omega);show (Lib.itoa (i:Int)).toArray.size<=30;simp;omega

def dgW(wj:Nat)(l:List UInt8):ByteArray:=⟨((digL l).take wj).toArray⟩
theorem Jz(wj:Nat)(hw:wj<=32)(l:List UInt8):(dgW wj l).size=wj:=by
 show ((digL l).take wj).toArray.size=wj;simp[Jcm];omega
open Go

section
variable {P:Program}{md:Region.Mode}{Q:Exit->Act->World->Prop}

def Jai(md:Region.Mode)(o:Oper):List Nat:=(o.after.toList.filter (Region.binds md)).map (·.on)
def JlX(md:Region.Mode)(l:List Oper):Nat->List Nat->List Nat
 | 0,D=>D
 | n+1,D=>JlX md l n ((D++D.flatMap λj=>((l[j]?).map (Jai md)).getD []).eraseDups)
def Jk7(md:Region.Mode)(l:List Oper)(o:Oper)(n:Nat):Bool:=
 (List.range l.length).all (λj=>(JlX md l n (Jai md o)).contains j) && (Jai md o).all (λj=>decide (j<l.length)) &&
 (List.range l.length).all (λi=>((l[i]?).map (λx=>(Jai md x).all (λj=>decide (j<i)))).getD true) && l.all (λx=>x.guard.isNone) && o.guard.isNone
theorem YS{o:Oper}{j:Nat}:j∈Jai md o↔∃e∈o.after,Region.binds md e=true/\e.on=j:=by
 simp only[Jai,List.mem_map,List.mem_filter,Array.mem_toList_iff,and_assoc]
def Jh9(md:Region.Mode)(l:List Oper)(listed:Array Bool):Prop:=∀i o,l[i]? =some o->listed.getD i false=true->∀j∈Jai md o,listed.getD j false=true
theorem JbU{l:List Oper}{listed:Array Bool}(h:Jh9 md l listed):∀(n:Nat)(D:List Nat),(∀j∈D,listed.getD j false=true)->∀j∈JlX md l n D,listed.getD j false=true
 | 0,_,hD=>hD
 | n+1,D,hD=>JbU h n _ (λj hj=>by
   rw[List.mem_eraseDups,List.mem_append,List.mem_flatMap]at hj
   rcases hj with hj|⟨i,hi,hj⟩
   ·exact hD j hj
   ·cases ho:l[i]? with
    | none=>rw[ho]at hj;simp at hj
    | some o=>rw[ho]at hj;exact h i o ho (hD i hi) j (by simpa using hj))
def Jkf(P:Program)(ops:Array Oper)(o:Oper)(Q:Exit->Act->World->Prop):Exit->Act->World->Prop
 | .normal,a,w=>wpList P ops Q [o] a w
 | e,a,w=>Q e a w
theorem Zj{listed:Array Bool}{i:Nat}(h:i<listed.size)(d:Bool):(listed.push false).getD i d=listed.getD i d:=by
 simp[Array.getD,h,Array.getElem_push_lt,Nat.lt_succ_of_lt h]
theorem Jh3{l:List Oper}{o:Oper}{n:Nat}(hB:Jk7 md l o n=true):∀(fuel:Nat)(listed:Array Bool)(a:Act)(w:World),listed.size=l.length->Jh9 md l listed->
  wpAny P md l.toArray (Jkf P (l++[o]).toArray o Q) fuel listed a w->wpAny P md (l++[o]).toArray Q (fuel+1) (listed.push false) a w:=by
 simp only[Jk7,Bool.and_eq_true,List.all_eq_true,List.mem_range,List.contains_iff_mem,decide_eq_true_eq,Option.isNone_iff_eq_none]at hB;obtain⟨⟨⟨⟨h1,h2⟩,h3⟩,h4⟩,h5⟩:=hB;have hlast:∀listed:Array Bool,listed.size=l.length->Jh9 md l listed->l.length∈Region.ready md (l++[o]).toArray (listed.push false)->∀j<l.length,listed.getD j false=true:=by
  intro listed hs hc hr j hj;obtain⟨_,o',ho',hall⟩:=mem_ready.1 hr;have ho'':o'=o:=by simpa using ho'.symm
  subst ho'';refine JbU hc n _ (λi hi=>?_) j (h1 j hj);obtain⟨e,he,hb,rfl⟩:=YS.1 hi;have:=hall e he hb
  rwa [Zj (by rw[hs];exact h2 _ hi)]at this
 have hsame:∀(listed:Array Bool),listed.size=l.length->∀i,i<l.length->(i∈Region.ready md (l++[o]).toArray (listed.push false)↔i∈Region.ready md l.toArray listed):=by
  intro listed hs i hi;rw[mem_ready,mem_ready,Zj (by omega)];have e1:((l++[o]).toArray)[i]? =l.toArray[i]? :=by simp[List.getElem?_append_left hi]
  rw[e1];refine and_congr_right λ_=>exists_congr λx=>and_congr_right λhx=>forall_congr' λe=>forall_congr' λhe=>forall_congr' λhb=>?_;have hx':l[i]? =some x:=by simpa using hx
  have hlt:e.on<i:=by have:=h3 i hi;rw[hx']at this;simp only[Option.map_some,Option.getD_some,List.all_eq_true,decide_eq_true_eq]at this;exact this _ (YS.2 ⟨e,he,hb,rfl⟩)
  rw[Zj (by omega)]
 have hempty:∀(listed:Array Bool),listed.size=l.length->Region.ready md l.toArray listed=[]->∀j<l.length,listed.getD j false=true:=by
  intro listed hs hr j
  induction j using Nat.strongRecOn with
  | _ j ih=>
   intro hj
   cases hd:listed.getD j false with
   | true=>rfl
   | false=>
    exfalso;have:j∈Region.ready md l.toArray listed:=by
     refine mem_ready.2 ⟨?_,l[j],by simp[hj],λe he hb=>?_⟩
     ·have hj':j<listed.size:=(by omega);simp[Array.getD,hj']at hd ⊢;exact hd
     ·have hx:=h3 j hj;rw[List.getElem?_eq_getElem hj]at hx;simp only[Option.map_some,Option.getD_some,List.all_eq_true,decide_eq_true_eq]at hx;have:=hx _ (YS.2 ⟨e,he,hb,rfl⟩);exact ih _ this (by omega)
    rw[hr]at this;cases this
 have hwO:∀(listed:Array Bool)(i:Nat)(K:Act->World->Prop)(Q':Exit->Act->World->Prop)(a:Act)(w:World),i<l.length->wpOp P l.toArray Q' i K a w->wpOp P (l++[o]).toArray Q' i K a w:=by
  intro listed i K Q' a w hi h;unfold wpOp at *;have e1:((l++[o]).toArray)[i]? =l.toArray[i]? :=by simp[List.getElem?_append_left hi]
  rw[e1];have e2:l.toArray[i]? =some l[i]:=by simp[hi]
  rw[e2]at h ⊢;have hg:(l[i]).guard=none:=h4 _ (List.getElem_mem hi);simpa only [Region.wanted,hg,if_true]using h
 have hQ:∀(i:Nat)(K:Act->World->Prop)(a:Act)(w:World),wpOp P (l++[o]).toArray (Jkf P (l++[o]).toArray o Q) i K a w->wpOp P (l++[o]).toArray Q i K a w:=by
  intro i K a w h;unfold wpOp at *
  split at h
  ·exact h
  ·rename_i x hx
   split at h
   ·rename_i hw;rw[if_pos hw]
    rcases h with h|⟨h,hl⟩
    ·refine .inl ?_;unfold Oper.wp at *;generalize (execOp a.eval x).run P w=r at *
     cases r with
     | ok nx w'=>
      cases nx<;>simp only[Oper.upon]at h ⊢<;>first|exact h|exact Calls.mono h (λe w'' he=>by cases e<;>exact he)
     | halt y w'=>cases y<;>simp only[Oper.upon]at h ⊢<;>exact h
    ·exact .inr ⟨h,hl⟩
   ·rename_i hw;rw[if_neg hw];exact h
 have hk:∀(listed:Array Bool),listed.size=l.length->∀i∈Region.ready md (l++[o]).toArray (listed.push false),i<l.length\/i=l.length:=by intro listed hs i hi;obtain⟨_,x,hx,_⟩:=mem_ready.1 hi;have:=(Array.getElem?_eq_some_iff.1 hx).1;simp at this;omega
 have hend:∀(fuel:Nat)(listed:Array Bool)(a:Act)(w:World),listed.size=l.length->(∀j<l.length,listed.getD j false=true)->wpList P (l++[o]).toArray Q [o] a w->wpAny P md (l++[o]).toArray Q (fuel+1) (listed.push false) a w:=by
  intro fuel listed a w hs hall h;have hkr:l.length∈Region.ready md (l++[o]).toArray (listed.push false):=by
   refine mem_ready.2 ⟨?_,o,by simp,λe he hb=>?_⟩
   ·simp[Array.getD,<-hs]
   ·have:=h2 _ (YS.2 ⟨e,he,hb,rfl⟩);rw[Zj (by omega)];exact hall _ this
  have honly:∀i∈Region.ready md (l++[o]).toArray (listed.push false),i=l.length:=by
   intro i hi
   rcases hk listed hs i hi with hlt|he
   ·have h0:=(mem_ready.1 hi).1;rw[Zj (by omega)]at h0;have:=hall i hlt;have hj':i<listed.size:=(by omega);simp[Array.getD,hj']at h0 this;rw[h0]at this;cases this
   ·exact he
  refine⟨λh0=>(by rw[h0]at hkr;cases hkr),λi hi=>?_⟩;have:=honly i hi;subst this;have hend2:∀(f:Nat)(a:Act)(w:World),Q .normal a w->wpAny P md (l++[o]).toArray Q f ((listed.push false).setIfInBounds l.length true) a w:=by
   intro f a w hq;have hnone:Region.ready md (l++[o]).toArray ((listed.push false).setIfInBounds l.length true)=[]:=by
    cases hr:Region.ready md (l++[o]).toArray ((listed.push false).setIfInBounds l.length true) with
    | nil=>rfl
    | cons i t=>
     exfalso;have hi':i∈Region.ready md (l++[o]).toArray ((listed.push false).setIfInBounds l.length true):=(by rw[hr];exact List.mem_cons_self);obtain⟨h0,x,hx,_⟩:=mem_ready.1 hi';have hlt:=(Array.getElem?_eq_some_iff.1 hx).1;simp at hlt
     by_cases hil:i=l.length
     ·subst hil;simp[Array.getD,<-hs]at h0
     ·rw[getD_set_ne true (λe=>hil e.symm),Zj (by omega)]at h0;have:=hall i (by omega);have hj':i<listed.size:=(by omega);simp[Array.getD,hj']at h0 this;rw[h0]at this;cases this
   cases f with
   | zero=>exact⟨hnone,hq⟩
   | succ f=>exact⟨λ_=>hq,by rw[hnone];intro i hi;cases hi⟩
  unfold wpOp;have e2:((l++[o]).toArray)[l.length]? =some o:=by simp
  rw[e2];simp only[wpList]at h;simp only[Region.wanted,h5,if_true]at h ⊢
  rcases h with h|h
  ·exact .inl (Oper.wp_mono (λa w hq=>hend2 fuel a w hq) h)
  ·exact .inr h
 intro fuel
 induction fuel with
 | zero=>
  intro listed a w hs hc h;exact hend 0 listed a w hs (hempty listed hs h.1) h.2
 | succ fuel ih=>
  intro listed a w hs hc h
  by_cases hne:Region.ready md l.toArray listed=[]
  ·exact hend (fuel+1) listed a w hs (hempty listed hs hne) (h.1 hne)
  ·refine⟨λh0=>?_,λi hi=>?_⟩
   ·exfalso
    cases hr:Region.ready md l.toArray listed with
    | nil=>exact hne hr
    | cons j t=>
     have hj:j∈Region.ready md l.toArray listed:=(by rw[hr];exact List.mem_cons_self);have hlt:j<l.length:=(by obtain⟨_,x,hx,_⟩:=mem_ready.1 hj;simpa using (Array.getElem?_eq_some_iff.1 hx).1);have:=(hsame listed hs j hlt).2 hj;rw[h0]at this;cases this
   ·rcases hk listed hs i hi with hlt|he
    ·have hi':=(hsame listed hs i hlt).1 hi;have hw:=h.2 i hi';have hset:(listed.push false).setIfInBounds i true=(listed.setIfInBounds i true).push false:=by
      apply Array.ext_getElem?;intro j;simp only[Array.getElem?_setIfInBounds,Array.getElem?_push,Array.size_setIfInBounds,Array.size_push]
      by_cases hji:i=j
      ·subst hji;simp[hs,hlt,Nat.lt_succ_of_lt hlt,Nat.ne_of_lt hlt]
      ·simp[hji]
     have hc':Jh9 md l (listed.setIfInBounds i true):=by
      intro m x hx hm j hj
      by_cases hmi:m=i
      ·subst hmi;obtain⟨_,x',hx',hall⟩:=mem_ready.1 hi';have:x'=x:=by
        have:l[m]? =some x':=(by simpa using hx');rw[hx]at this;exact(Option.some.inj this).symm
       subst this;obtain⟨e,he,hb,rfl⟩:=YS.1 hj;exact getD_set_true (hall e he hb)
      ·rw[getD_set_ne false (λe=>hmi e.symm)]at hm;exact getD_set_true (hc m x hx hm j hj)
     refine hQ i _ a w (hwO listed i _ _ a w hlt (wpOp_mono (λa' w' h'=>?_) hw));rw[hset];exact ih _ a' w' (by simp[hs]) hc' h'
    ·subst he;have:=hlast listed hs hc hi;exfalso;apply hne
     cases hr:Region.ready md l.toArray listed with
     | nil=>rfl
     | cons j t=>
      have hj:j∈Region.ready md l.toArray listed:=(by rw[hr];exact List.mem_cons_self);obtain⟨h0,x,hx,_⟩:=mem_ready.1 hj;have hlt:j<l.length:=(by simpa using (Array.getElem?_eq_some_iff.1 hx).1);have h':=this j hlt;have hj':j<listed.size:=(by omega);simp[Array.getD,hj']at h0 h';rw[h0]at h';cases h'
theorem Jds(n:Nat):(Array.replicate n false).push false=Array.replicate (n+1) false:=by rw[Array.replicate_succ]

variable {S:World->Prop}
theorem JU{id:Nat}{a:Act}{w:World}{L:List Oper}(n:Nat)(hne:L ≠ [])(hm:P.follows .mixedOrders=true)(hB:Jk7 .any L.dropLast (L.getLast hne) n=true)(hS:S w.drew)
  (h:S w.drew->∀l o,L.dropLast=l->L.getLast hne=o->wpAnyH P .any l.toArray (Jkf P L.toArray o Q) S l.length (Array.replicate l.length false) a w.drew):(Code.region id L.toArray true).wp P Q a w:=by
 refine wp_region_any hm ?_;have e:L=L.dropLast++[L.getLast hne]:=(List.dropLast_concat_getLast hne).symm;have h1:=wpAny_of_held _ _ _ _ (h hS _ _ rfl rfl);have h2:=Jh3 (Q:=Q) hB L.dropLast.length (Array.replicate L.dropLast.length false) a w.drew (by simp) (λi o _ hi=>by simp[Array.getD]at hi) (by rw[<-e];exact h1);rw[<-e,Jds]at h2;have hl:L.dropLast.length+1=L.toArray.size:=by have:=congrArg List.length e;simpa using this.symm
 rw[hl]at h2;exact h2
theorem Jov{l:List Oper}{md:Region.Mode}{i:Nat}{oi:Oper}{v:Value}{fuel:Nat}{listed:Array Bool}{a:Act}{w:World}(hi:l[i]? =some oi)
  (hs:Region.noSelect l.toArray=true) (hf:Region.free md l.toArray listed i=true) (hr:(Region.ready md l.toArray listed).contains i=true)
  (hQ:∀c a w,Q (.panic c) (a.put oi.dst v) w->Q (.panic c) a w) (hg:oi.guard=none) (hy:∀w,S w->(execOp a.eval oi).run P w=.ok (.value v) w) (hS:S w)
  (h:wpAnyH P md l.toArray Q S fuel (listed.setIfInBounds i true) (a.put oi.dst v) w):wpAnyH P md l.toArray Q S (fuel+1) listed a w:=
 wpAnyH_take (by simpa using hi) hs hf hr hQ (.inl ⟨by simp[Region.wanted,hg],hy⟩) hS h
theorem tkL{l:List Oper}{md:Region.Mode}(i:Nat){oi:Oper}{v:Value}{fuel:Nat}{listed:Array Bool}{a:Act}{w:World}(h:wpAnyH P md l.toArray Q S fuel (listed.setIfInBounds i true) (a.put oi.dst v) w)(hi:l[i]? =some oi:=by rfl)(hs:Region.noSelect l.toArray=true:=by kernel_rfl)(hf:Region.free md l.toArray listed i=true:=by kernel_rfl)(hr:(Region.ready md l.toArray listed).contains i=true:=by kernel_rfl)
  (hQ:∀c a w,Q (.panic c) (a.put oi.dst v) w->Q (.panic c) a w:=by exact λ_ _ _ h=>h) (hg:oi.guard=none:=by rfl) (hy:∀w,S w->(execOp a.eval oi).run P w=.ok (.value v) w:=by intro W hSW;(try dsimp only at hSW);go_simp;(try with_reducible rfl)) (hS:S w:=by first|assumption|trivial):wpAnyH P md l.toArray Q S (fuel+1) listed a w:=Jov hi hs hf hr hQ hg hy hS h
theorem Zr{l:List Oper}{md:Region.Mode}{i:Nat}{oi:Oper}{fuel:Nat}{listed:Array Bool}{a:Act}{w:World}(hi:l[i]? =some oi)(hr:Region.ready md l.toArray listed=[i])
  (h:∀K:Act->World->Prop,Shut (∀a w,S w->(S w->wpAnyH P md l.toArray Q S fuel (listed.setIfInBounds i true) a w)->K a w)->if Region.wanted oi (yielded l.toArray a.tmps)=true then Oper.wp P oi a w K Q else K (a.put oi.dst undef) w):wpAnyH P md l.toArray Q S (fuel+1) listed a w:=
 wpAnyH_ready hr (by simp) (AllReadyH.cons (o:=oi) (by simpa using hi) h AllReadyH.nil)
end

section
variable {P:Program}{md:Region.Mode}{Q:Exit->Act->World->Prop}{l n:Nat}
theorem JmJ{o:Oper}{a:Act}{w:World}{K K':Act->World->Prop}(hnd:∀c,o.op ≠ .defer c)(hK:∀a w,K a w->K' a w)(h:Oper.wp P o a w K Q):Oper.wpIn (Fence.wide.inRound l) n P o a w K' Q:=by
 unfold Oper.wpIn;refine⟨λ_ _=>trivial,?_⟩;rw[Fence.inRound_round,Oper.semAt_some l _ _ hnd];unfold Oper.wp at h;generalize (execOp a.eval o).run P w=r at *
 cases r with
 | ok x w'=>
  cases x with
  | enter f args=>
   refine⟨λh=>by simp[Fence.wide]at h,callsIn_wide.2 (Calls.mono h ?_)⟩;intro e w2 h2
   cases e with
   | returned v=>exact hK _ _ h2
   | panicked c=>exact h2
   | outgrown=>exact h2
  | row r args=>
   refine⟨λh=>by simp[Fence.wide]at h,λc cs _=>?_⟩;obtain⟨v,w2,h2,h3⟩:=h c cs;exact⟨v,w2,hK _ _ h2,stepsIn_wide.2 h3⟩
  | value v=>exact hK _ _ h
  | skip=>exact hK _ _ h
  | defer d=>exact hK _ _ h
  | round _ _ _ _ _=>exact h.elim
  | _=>exact h.elim
 | halt hl w'=>
  cases hl with
  | panic v=>exact h
  | _=>exact h.elim
variable {S:World->Prop}
end
end Go.Proofs.YtighkdnooglfjaaGreatDoor
namespace Go.Proofs
open Go.Shelf
end Go.Proofs
namespace Go.Proofs
open Tryz
open Go.Lib Go.RowKit Go.Shelf Go.Sort
def Jgl:Go.Shelf.Ren:=⟨fun|106=>245|213=>321|265=>352|n=>n,fun|9=>9|3=>3|n=>n,fun|n=>n⟩
theorem Jmt:Go.Proofs.Lays.n106 prog Jgl:={
 mixed:=by kernel_rfl
 f106:=func245.trans (congrArg some (by kernel_rfl))
 f213:=func321.trans (congrArg some (by kernel_rfl))
 f265:=func352.trans (congrArg some (by kernel_rfl))
 t3:=underlying3
 a3:=isAgg3
 z3:=sizeOf3
 v3:=zeroValue3
 t9:=underlying9
 a9:=isAgg9
 z9:=sizeOf9
 v9:=zeroValue9 }
theorem strings_Compare(a b:ByteArray)(w:World):
  Calls prog 245 #[.string a,.string b] w λe w'=>e=.returned (.int .i64 (Lib.compareBytes a.data.toList b.data.toList))/\w'=w:=Any.strings_Compare Jmt a b w
def Jgm:Go.Shelf.Ren:=⟨fun|190=>155|125=>242|258=>241|128=>319|129=>320|302=>310|303=>311|304=>312|305=>313|306=>314|307=>315|308=>316|309=>317|310=>318|333=>346|329=>347|330=>348|334=>349|335=>350|336=>351|344=>359|n=>n,fun|31=>58|9=>9|3=>3|46=>322|0=>0|51=>429|53=>78|4=>4|183=>464|182=>463|131=>468|5=>5|218=>496|222=>500|228=>505|229=>506|n=>n,fun|n=>n⟩
theorem Jin:Go.Proofs.Lays.n190 prog Jgm:={
 mixed:=by kernel_rfl
 f125:=func242.trans (congrArg some (by kernel_rfl))
 f128:=func319.trans (congrArg some (by kernel_rfl))
 f129:=func320.trans (congrArg some (by kernel_rfl))
 f190:=func155.trans (congrArg some (by kernel_rfl))
 f258:=func241.trans (congrArg some (by kernel_rfl))
 f302:=func310.trans (congrArg some (by kernel_rfl))
 f303:=func311.trans (congrArg some (by kernel_rfl))
 f304:=func312.trans (congrArg some (by kernel_rfl))
 f305:=func313.trans (congrArg some (by kernel_rfl))
 f306:=func314.trans (congrArg some (by kernel_rfl))
 f307:=func315.trans (congrArg some (by kernel_rfl))
 f308:=func316.trans (congrArg some (by kernel_rfl))
 f309:=func317.trans (congrArg some (by kernel_rfl))
 f310:=func318.trans (congrArg some (by kernel_rfl))
 f329:=func347.trans (congrArg some (by kernel_rfl))
 f330:=func348.trans (congrArg some (by kernel_rfl))
 f333:=func346.trans (congrArg some (by kernel_rfl))
 f334:=func349.trans (congrArg some (by kernel_rfl))
 f335:=func350.trans (congrArg some (by kernel_rfl))
 f336:=func351.trans (congrArg some (by kernel_rfl))
 f344:=func359.trans (congrArg some (by kernel_rfl))
 t0:=underlying0
 a0:=isAgg0
 z0:=sizeOf0
 v0:=zeroValue0
 t3:=underlying3
 a3:=isAgg3
 z3:=sizeOf3
 v3:=zeroValue3
 t4:=underlying4
 a4:=isAgg4
 z4:=sizeOf4
 v4:=zeroValue4
 t5:=underlying5
 a5:=isAgg5
 z5:=sizeOf5
 v5:=zeroValue5
 t9:=underlying9
 a9:=isAgg9
 z9:=sizeOf9
 v9:=zeroValue9
 t31:=underlying58
 a31:=isAgg58
 z31:=sizeOf58
 v31:=zeroValue58
 t46:=underlying322
 a46:=isAgg322
 z46:=sizeOf322
 v46:=zeroValue322
 t51:=underlying429
 a51:=isAgg429
 z51:=sizeOf429
 v51:=zeroValue429
 t53:=underlying78
 a53:=isAgg78
 z53:=sizeOf78
 v53:=zeroValue78
 t131:=underlying468
 a131:=isAgg468
 z131:=sizeOf468
 v131:=zeroValue468
 t182:=underlying463
 a182:=isAgg463
 z182:=sizeOf463
 v182:=zeroValue463
 t183:=underlying464
 a183:=isAgg464
 z183:=sizeOf464
 v183:=zeroValue464
 t218:=underlying496
 a218:=isAgg496
 z218:=sizeOf496
 v218:=zeroValue496
 t222:=underlying500
 a222:=isAgg500
 z222:=sizeOf500
 v222:=zeroValue500
 t228:=underlying505
 a228:=isAgg505
 z228:=sizeOf505
 v228:=zeroValue505
 t229:=underlying506
 a229:=isAgg506
 z229:=sizeOf506
 v229:=zeroValue506 }
theorem slices_Sort_string(blk off cap:Nat)(ss:List (List UInt8))(w:World)(hH:Holds encStr w blk off ss.toArray)(hblk:blk<w.heap.size)(hsz:ss.length<4611686018427387904):
  Calls prog 155 #[.slice (some ⟨blk,off,none⟩) ss.length cap] w λe w'=>
   e=.returned (.tuple #[])/\∃n os,w'=grow (putRow encStr (Sort.ahead w n) blk off (ss.mergeSort λx y=>decide (x<=y)).toArray) os:=Any.slices_Sort_string Jin blk off cap ss w hH hblk hsz
theorem slices_Sort_string_none(p:Option Addr)(cap:Nat)(w:World):
  Calls prog 155 #[.slice p 0 cap] w λe w'=>e=.returned (.tuple #[])/\w'=w:=Any.slices_Sort_string_none Jin p cap w
end Go.Proofs
