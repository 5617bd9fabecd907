import Derived.Test.YtighkdnooglfjaaGreatDoorOcKPay
import Derived.Test.YtighkdnooglfjaaGreatDoorOcKSpec
namespace Go.Proofs.YtighkdnooglfjaaGreatDoor
open Go.Proofs.Tryz
set_option maxRecDepth 100000
set_option maxHeartbeats 4000000
open Go.RowKit

theorem SOwn.kind {base:Nat} {w:World} {v:Value} {l:List Sl} (h:SOwn base w v l):∀j,v.ownBlock=some j->∃cur m,w.heap[j]? =some (.cells cur 43 m):=by
 obtain ⟨_,⟨rfl,h0⟩ | ⟨g,cap,cur,rfl,hb,hrow,_⟩⟩:=h
 ·intro k hk;cases hk
 ·intro k hk;cases hk;exact ⟨cur,_,hrow⟩
def Jcm (w:World) (v:Value) (ps:List PayL):Prop:=
 ((∃a c,v=.slice a 0 c)/\ps=[])\/∃g o c,v=.slice (some ⟨g,o,none⟩) ps.length c/\g<w.heap.size/\∀i (h:i<ps.length),∃va,Zs w va ps[i].amounts/\
  w.cell? ⟨g,o+i * 6,none⟩=some (.int .i64 ps[i].from_)/\w.cell? ⟨g,o+i * 6+1,none⟩=some (.int .i64 ps[i].many)/\w.cell? ⟨g,o+i * 6+2,none⟩=some va/\w.cell? ⟨g,o+i * 6+3,none⟩=some (.int .u8 ((ps[i].owner:Nat):Int))/\w.cell? ⟨g,o+i * 6+4,none⟩=some (.bool ps[i].wild)/\w.cell? ⟨g,o+i * 6+5,none⟩=some (.bool ps[i].other)
theorem Jcm.shape {w:World} {v:Value} {l:List PayL} (h:Jcm w v l):∃a c,v=.slice a l.length c:=by
 rcases h with ⟨⟨a,c,rfl⟩,rfl⟩ | ⟨gi,oi,c,rfl,_⟩
 ·exact ⟨a,c,rfl⟩
 ·exact ⟨_,_,rfl⟩
def YG (base:Nat) (w:World) (v:Value) (ts:List TxL):Prop:=
 ∃l:List (Sl×Sl),TOwn base w v l/\l.length=ts.length/\∀(j:Nat) x t,l[j]? =some x->ts[j]? =some t->COwn base w (.slice x.1.1 x.1.2.1 x.1.2.2) t.1/\OOwn base w (.slice x.2.1 x.2.2.1 x.2.2.2) t.2
theorem YG.is {base:Nat} {w:World} {v:Value} {ts:List TxL} (h:YG base w v ts):Jjc w v ts:=by
 obtain ⟨l,h1,h2,h3⟩:=h
 exact ⟨l,h1.at,h2,λj x t hx ht=>⟨(h3 j x t hx ht).1.at,(h3 j x t hx ht).2.at⟩⟩
theorem JaC {b b':Nat} {w:World} {v v2:Value} {cs:List (BA×Int)} {l:List (Sl×Sl)} (h:COwn b w v cs) (h2:TOwn b' w v2 l):∀j,v.ownBlock=some j->¬some j=v2.ownBlock:=by
 intro j hj hj2
 obtain ⟨_,⟨rfl,_⟩ | ⟨g,cap,cur,rfl,_,hrow,_⟩⟩:=h
 ·cases hj
 obtain ⟨_,⟨rfl,_⟩ | ⟨g',cap',cur',rfl,_,hrow',_⟩⟩:=h2
 ·cases hj2
 cases hj
 cases hj2
 rw [hrow] at hrow'
 simp at hrow'
theorem Jbf {b b':Nat} {w:World} {v v2:Value} {cs:List (Nat×Nat)} {l:List (Sl×Sl)} (h:OOwn b w v cs) (h2:TOwn b' w v2 l):∀j,v.ownBlock=some j->¬some j=v2.ownBlock:=by
 intro j hj hj2
 obtain ⟨_,⟨rfl,_⟩ | ⟨g,cap,cur,rfl,_,hrow,_⟩⟩:=h
 ·cases hj
 obtain ⟨_,⟨rfl,_⟩ | ⟨g',cap',cur',rfl,_,hrow',_⟩⟩:=h2
 ·cases hj2
 cases hj
 cases hj2
 rw [hrow] at hrow'
 simp at hrow'
theorem Jdj {b':Nat} {w:World} {v v2:Value} {cs:List Held} {l:List (Sl×Sl)} (h:XQ w v cs) (h2:TOwn b' w v2 l):∀j,v.ownBlock=some j->¬some j=v2.ownBlock:=by
 intro j hj hj2
 obtain ⟨cur,m,hrow⟩:=h.2 j hj
 obtain ⟨_,⟨rfl,_⟩ | ⟨g',cap',cur',rfl,_,hrow',_⟩⟩:=h2
 ·cases hj2
 cases hj2
 rw [hrow] at hrow'
 simp at hrow'
theorem YG.tch {base:Nat} {w w':World} {v:Value} {ts:List TxL} (h:YG base w v ts) (k:Tch NoB w w'):YG base w' v ts:=by
 obtain ⟨l,h1,h2,h3⟩:=h
 exact ⟨l,h1.tch k (λ_ _ e=>e),h2,λj x t hx ht=>⟨(h3 j x t hx ht).1.tch k (λ_ _ e=>e),(h3 j x t hx ht).2.tch k (λ_ _ e=>e)⟩⟩
theorem YG.push {base:Nat} {W w3:World} {v v3:Value} {ts:List TxL} {lt:List (Sl×Sl)} {x:Sl×Sl} {t:TxL} (h1:TOwn base W v lt) (h2:lt.length=ts.length) (h3:∀(j:Nat) x t,lt[j]? =some x->ts[j]? =some t->COwn base W (.slice x.1.1 x.1.2.1 x.1.2.2) t.1/\OOwn base W (.slice x.2.1 x.2.2.1 x.2.2.2) t.2)
  (hc:COwn base W (.slice x.1.1 x.1.2.1 x.1.2.2) t.1) (ho:OOwn base W (.slice x.2.1 x.2.2.1 x.2.2.2) t.2) (hn:TOwn base w3 v3 (lt++[x])) (hg:World.grownBy W w3 v.ownBlock):YG base w3 v3 (ts++[t]):=by
 refine ⟨lt++[x],hn,by simp [h2],λj y u hy hu=>?_⟩
 have hold:COwn base W (.slice y.1.1 y.1.2.1 y.1.2.2) u.1/\OOwn base W (.slice y.2.1 y.2.2.1 y.2.2.2) u.2:=by
  by_cases hj:j<lt.length
  ·rw [QF hj] at hy
   rw [QF (by omega)] at hu
   exact h3 j y u hy hu
  ·rw [Qz (by omega)] at hy
   rw [Qz (by omega)] at hu
   have e1:j - lt.length=0:=by have:=(Qo.1 hy).1;simp at this;omega
   rw [e1] at hy
   rw [<-h2,e1] at hu
   simp only [List.getElem?_cons_zero,Qh] at hy hu
   subst hy;subst hu
   exact ⟨hc,ho⟩
 exact ⟨hold.1.tch (Tg hg) (JaC hold.1 h1),hold.2.tch (Tg hg) (Jbf hold.2 h1)⟩
structure JbO (wd:Nat) (l0:List Held) (st0:Option Tr) (ts:List TxL) (cur:List Held) (code:Int):Prop where
 ok:∀t∈ts,TxOk wd t
 res:(code=0/\XG (dgW wd) l0 ts=.ok cur/\∃st,JR (dgW wd) st0 ts=.ok st/\Book wd st cur)\/(∃er,code=Xs er/\XG (dgW wd) l0 ts=.error er/\JR (dgW wd) st0 ts=.error er)
theorem JaJ (er:Er):¬Xs er=0:=by cases er using Er.on <;> decide
theorem Jag (dg:List UInt8->BA) (t:TxL):∀(ts:List TxL) (l l1:List Held),XG dg l ts=.ok l1->XG dg l (ts++[t])=Xh dg l1 t:=by
 intro ts
 induction ts with
 | nil=>
  intro l l1 h
  simp only [XG,Except.ok.injEq] at h
  subst h
  simp only [List.nil_append,XG]
  cases Xh dg l t <;> rfl
 | cons x r ih=>
  intro l l1 h
  simp only [XG,List.cons_append] at h ⊢
  cases hx:Xh dg l x with
  | error e=>rw [hx] at h;cases h
  | ok l2=>rw [hx] at h;exact ih l2 l1 h
theorem JbR (dg:List UInt8->BA) (t:TxL):∀(ts:List TxL) (s s1:Option Tr),JR dg s ts=.ok s1->JR dg s (ts++[t])=JY dg s1 t:=by
 intro ts
 induction ts with
 | nil=>
  intro l l1 h
  simp only [JR,Except.ok.injEq] at h
  subst h
  simp only [List.nil_append,JR]
  cases JY dg l t <;> rfl
 | cons x r ih=>
  intro l l1 h
  simp only [JR,List.cons_append] at h ⊢
  cases hx:JY dg l x with
  | error e=>rw [hx] at h;cases h
  | ok l2=>rw [hx] at h;exact ih l2 l1 h
theorem JbO.next {wd:Nat} (hw:wd<=32) {l0:List Held} {st0:Option Tr} {ts:List TxL} {cur:List Held} (h:JbO wd l0 st0 ts cur 0) (t:TxL) (ht:TxOk wd t):
  (∀l',Xh (dgW wd) cur t=.ok l'->JbO wd l0 st0 (ts++[t]) l' 0)/\(∀er,Xh (dgW wd) cur t=.error er->JbO wd l0 st0 (ts++[t]) cur (Xs er)):=by
 have hok:∀x∈ts++[t],TxOk wd x:=by
  intro x hx;rw [QE,Qt] at hx;rcases hx with hx | rfl
  ·exact h.ok x hx
  ·exact ht
 obtain ⟨h1,st,h2,B⟩:XG (dgW wd) l0 ts=.ok cur/\∃st,JR (dgW wd) st0 ts=.ok st/\Book wd st cur:=by
  rcases h.res with ⟨_,h1,h2⟩ | ⟨er,he,_⟩
  ·exact ⟨h1,h2⟩
  ·exact absurd he.symm (JaJ er)
 have ha:=Jed wd (dgW wd) (Jq wd hw) t ht st cur B
 refine ⟨λl' hl=>?_,λer he=>?_⟩
 ·rw [hl] at ha
  obtain ⟨st',e1,B'⟩:=ha
  exact ⟨hok,.inl ⟨rfl,by rw [Jag _ _ _ _ _ h1];exact hl,st',by rw [JbR _ _ _ _ _ h2];exact e1,B'⟩⟩
 ·rw [he] at ha
  exact ⟨hok,.inr ⟨er,rfl,by rw [Jag _ _ _ _ _ h1];exact he,by rw [JbR _ _ _ _ _ h2];exact ha⟩⟩
theorem JeY (dg:List UInt8->BA) (l:List Held) (t:TxL) (l':List Held) (h:Xh dg l t=.ok l'):l'.length<=l.length+t.2.length:=by
 have hs:∀(cs:List (BA×Int)) (s s':List Held×Nat×Bool),Xc cs s=some s'->s'.1.length<=s.1.length:=by
  intro cs
  induction cs with
  | nil=>intro s s' h;simp only [Xc,Qh] at h;rw [h];exact Ql _
  | cons c r ih=>
   rintro ⟨now,i,o⟩ s' h
   simp only [Xc] at h
   cases hf:JZ now c with
   | none=>rw [hf] at h;cases h
   | some k=>
    rw [hf] at h
    have:=ih _ _ h
    exact Qm this (List.length_eraseIdx_le _ _)
 have hr:∀(id:BA) (os:List (Nat×Nat)) (i:Nat) (s s':List Held×Nat×Bool),JE id i os s=some s'->s'.1.length<=s.1.length+os.length:=by
  intro id os
  induction os with
  | nil=>intro i s s' h;simp only [JE,Qh] at h;rw [h];simp
  | cons c r ih=>
   rintro i ⟨now,a,o⟩ s' h
   simp only [JE] at h
   cases hf:JZ now (id,(i:Int)) with
   | some k=>rw [hf] at h;cases h
   | none=>
    rw [hf] at h
    have:=ih _ _ _ h
    simp only [Qe,Qp,Qv] at this ⊢
    omega
 unfold Xh at h
 cases h1:Xc t.1 (l,0,false) with
 | none=>rw [h1] at h;cases h
 | some q=>
  obtain ⟨n1,i1,o1⟩:=q
  rw [h1] at h
  dsimp only at h
  cases h2:JE (dg (84 :: txB t)) 0 t.2 (n1,0,o1) with
  | none=>rw [h2] at h;cases h
  | some q=>
   obtain ⟨n2,i2,o2⟩:=q
   rw [h2] at h
   dsimp only at h
   split at h
   ·cases h
   ·cases h
    have a:=hs _ _ _ h1
    have b:=hr _ _ _ _ _ h2
    simp only at a b
    omega
theorem Ch.last_get (ch:Ch) (m:Nat) (h:ch.length=m+1):ch.last=ch[m]'(by omega):=by
 unfold Ch.last
 rw [List.getLastD_eq_getLast?,List.getLast?_eq_getElem?]
 have e:ch.length - 1=m:=by omega
 rw [e,Qd (by omega)]
 rfl
theorem Jgb (wd:Nat) (hw:wd<=32) (ch:Ch) (ts:List TxL) (h:∀t∈ts,TxOk wd t) (h3:ts.length<=3) (st:Option Tr):1<=(Ye (dgW wd) ch ts st).length/\(Ye (dgW wd) ch ts st).length<=1000000:=by
 have hb:(Xf ts).length<=1+ts.length * 200:=by
  unfold Xf
  rw [Qe,Je]
  have:∀(l:List TxL),(∀t∈l,TxOk wd t)->(l.flatMap txB).length<=l.length * 200:=by
   intro l
   induction l with
   | nil=>intro _;simp
   | cons x r ih=>
    intro hl
    have a:=Jdb wd x (hl x QM) hw x.2.length
    rw [Jda] at a
    have b:=ih (λy hy=>hl y (QO _ hy))
    rw [QG,Qe,Qp,Nat.succ_mul]
    omega
  have:=this ts h
  omega
 have sz:∀x:BA,x.data.toList.length=x.size:=λx=>by simp only [QA];rfl
 have hh:(hdrB (Zl (dgW wd) ch (Xf ts) (Xi (dgW wd) st))).length=4+3 * wd:=by
  unfold hdrB Zl
  simp only [Qe,Je,sz,Jq wd hw,XW (dgW wd) wd (Jq wd hw)]
  omega
 unfold Ye
 rw [Qe,hh]
 omega
def Jme {E:Nat->Addr} {wd base:Nat} (L:Led E wd base) (w:World) (xb lb:Nat) (F:Nat->Prop) (fl:Nat) (ch:Ch) (vst:Value) (states:List (List Held)) (e:Ending) (w':World):Prop:=
 e=.returned (.bool true)/\∃F' ch' vst' sl' states',JO L w' xb lb F' fl ch' vst' sl' states'/\Tch (λj=>F j\/j=xb\/some j=vst.ownBlock) w w'/\(∀j,F' j->F j\/w.heap.size<=j)/\(∃r,ch'=ch++r)/\states'.length<=states.length+1/\∀l∈states',∃l0∈states,l.length<=l0.length+9
theorem JiD {E:Nat->Addr} {wd base:Nat} {L:Led E wd base} {w w2 w3 w4:World} {xb lb:Nat} {F F':Nat->Prop} {fl:Nat} {ch:Ch} {c:BA×Option Tr} {vst v4:Value} {sl:List Sl} {states:List (List Held)} {x:Sl} {cur:List Held}
  (HS2:JO L w2 xb lb F fl ch vst sl states) (HC2:XQ w2 (.slice x.1 x.2.1 x.2.2) cur) (HB:Book wd c.2 cur) (HTW2:Tch NoB w w2) (HT3:Tch F w2 w3) (HAT:L.At w3 lb F' fl (ch++[c]))
  (R3:w3.heap[xb]? =some (.cells #[.pointer (some ⟨lb,0,none⟩),.int .i64 (wd:Int),vst,.int .i64 (fl:Int)] 35)) (S3:SOwn base w3 vst sl) (B3:∀(v:Value) l,XQ w2 v l->XQ w3 v l)
  (ho:SOwn base w4 v4 (sl++[x])) (hg:World.grownBy (w3.alloc (.cells #[.slice x.1 x.2.1 x.2.2] 43)) w4 vst.ownBlock):
  w4.heap[xb]? =some (.cells #[.pointer (some ⟨lb,0,none⟩),.int .i64 (wd:Int),vst,.int .i64 (fl:Int)] 35)/\JO L (w4.setCell ⟨xb,2,none⟩ v4) xb lb F' fl (ch++[c]) v4 (sl++[x]) (states++[cur])/\Tch (λj=>F j\/j=xb\/some j=vst.ownBlock) w (w4.setCell ⟨xb,2,none⟩ v4):=by
 have tA:=Ta NoB w3 (.cells #[.slice x.1 x.2.1 x.2.2] 43)
 have hxb:=(Jb R3)
 have kst:∀j,vst.ownBlock=some j->∃cur m,(w3.alloc (.cells #[.slice x.1 x.2.1 x.2.2] 43)).heap[j]? =some (.cells cur 43 m):=SOwn.kind (S3.tch tA (λ_ _ e=>e))
 have RA:(w3.alloc (.cells #[.slice x.1 x.2.1 x.2.2] 43)).heap[xb]? =_:=(tA.block _ hxb (λe=>e)).trans R3
 have xne:¬some xb=vst.ownBlock:=λe=>by
  obtain ⟨cu,m,hr⟩:=kst xb e.symm
  rw [RA] at hr;simp at hr
 have R4:w4.heap[xb]? =some (.cells #[.pointer (some ⟨lb,0,none⟩),.int .i64 (wd:Int),vst,.int .i64 (fl:Int)] 35):=(hg.block _ (by simp;omega) xne).trans RA
 have hset:w4.setCell ⟨xb,2,none⟩ v4=w4.setRow xb #[.pointer (some ⟨lb,0,none⟩),.int .i64 (wd:Int),v4,.int .i64 (fl:Int)]:=Qj w4 xb 2 _ _ _ v4 R4
 have tS:=Ts w4 xb #[.pointer (some ⟨lb,0,none⟩),.int .i64 (wd:Int),v4,.int .i64 (fl:Int)]
 have hld:L.At w4 lb F' fl (ch++[c]):=by
  have h1:=L.keep HAT tA (λ_ e=>e.elim)
  refine L.keep h1 (Tg hg) (λj hj hF=>?_)
  obtain ⟨cu,m,hr⟩:=kst j hj.symm
  exact (L.kinds h1 j hF _ _ _ hr).2.1 rfl
 have hh:∀v l,XQ w3 v l->XQ (w4.setRow xb #[.pointer (some ⟨lb,0,none⟩),.int .i64 (wd:Int),v4,.int .i64 (fl:Int)]) v l:=by
  intro v l hv
  have h1:=hv.tch tA (λ_ _ e=>e)
  have h2:=h1.tch (Tg hg) (λj hj e=>by
   obtain ⟨cu,m,hr⟩:=h1.2 j hj
   obtain ⟨cu',m',hr'⟩:=kst j e.symm
   rw [hr] at hr';simp at hr')
  exact h2.tch tS (λj hj e=>by
   obtain ⟨cu,m,hr⟩:=h2.2 j hj
   subst e
   rw [R4] at hr;simp at hr)
 refine ⟨R4,?_,?_⟩
 ·rw [hset]
  refine ⟨Qi _ _ _ _ _ _ R4,?_,?_,HS2.low,?_,?_,?_,?_⟩
  ·exact L.keep hld tS (λj hj hF=>by subst hj;exact (L.kinds hld j hF _ _ _ R4).1 rfl)
  ·exact ho.tch tS (λj hj e=>by
    obtain ⟨cu,m,hr⟩:=SOwn.kind ho j hj
    subst e
    rw [R4] at hr;simp at hr)
  ·intro i y l hy hl
   by_cases hi:i<sl.length
   ·rw [QF hi] at hy
    rw [QF (by have:=HS2.len;omega)] at hl
    exact hh _ _ (B3 _ _ (HS2.held i y l hy hl))
   ·rw [Qz (by omega)] at hy
    rw [Qz (by have:=HS2.len;omega)] at hl
    have e1:i - sl.length=0:=by have:=(Qo.1 hy).1;simp at this;omega
    have e2:i - states.length=0:=by have:=(Qo.1 hl).1;simp at this;omega
    rw [e1] at hy
    rw [e2] at hl
    simp only [List.getElem?_cons_zero,Qh] at hy hl
    subst hy;subst hl
    exact hh _ _ (B3 _ _ HC2)
  ·have:=HS2.len
   simp only [Qe,Qp,Qv]
   omega
  ·have:=HS2.floor
   simp only [Qe,Qp,Qv]
   omega
  ·intro i d l hfl hd hl
   by_cases hi:i<ch.length
   ·rw [QF hi] at hd
    rw [QF (by have:=HS2.len;omega)] at hl
    exact HS2.book i d l hfl hd hl
   ·rw [Qz (by omega)] at hd
    rw [Qz (by have:=HS2.len;omega)] at hl
    have e1:i - ch.length=0:=by have:=(Qo.1 hd).1;simp at this;omega
    have e2:i - states.length=0:=by have:=(Qo.1 hl).1;simp at this;omega
    rw [e1] at hd
    rw [e2] at hl
    simp only [List.getElem?_cons_zero,Qh] at hd hl
    subst hd;subst hl
    exact HB
 ·rw [hset]
  have t0:Tch (λj=>F j\/j=xb\/some j=vst.ownBlock) w w2:=HTW2.mono noE
  exact (((t0.trans HT3 (λj hj=>.inl (.inl hj))).trans tA noE).trans (Tg hg) (λj hj=>.inl (.inr (.inr hj)))).trans tS (λj hj=>.inl (.inr (.inl hj)))
theorem Jmw {E:Nat->Addr} {wd base:Nat} (L:Led E wd base) (hw1:1<=wd) (hw:wd<=32) (xb lb:Nat) (F:Nat->Prop) (fl:Nat) (ch:Ch) (vst:Value) (sl:List Sl) (states:List (List Held)) (v:Value) (ps:List PayL) (w:World) (hF:JT E base w) (hS:JO L w xb lb F fl ch vst sl states) (hp:Jcm w v ps) (hpo:∀p∈ps,p.Ok) (hlen:∀l∈states,l.length<=800000000) (hc:ch.length+1<2 ^ 27):
  Calls prog 17 #[.pointer (some ⟨xb,0,none⟩),v] w (Jme L w xb lb F fl ch vst states):=by
 obtain ⟨a0,c0,rfl⟩:=hp.shape
 obtain ⟨m,hm⟩:∃m,sl.length=m+1:=⟨sl.length - 1,by have:=hS.len;omega⟩
 have hsl:sl ≠ []:=by intro h;rw [h] at hm;simp at hm
 obtain ⟨gs,cap,rfl,hcell⟩:=hS.st.at hsl
 have q2:w.cell? ⟨xb,2,none⟩=some (.slice (some ⟨gs,0,none⟩) sl.length cap):=Ja hS.row
 have qm:=hcell m (by omega)
 have hms:m<states.length:=by have:=hS.len;omega
 have hmc:m<ch.length:=by have:=hS.len;omega
 have H0:Hid (XQ w (.slice (sl[m]'(by omega)).1 (sl[m]'(by omega)).2.1 (sl[m]'(by omega)).2.2) states[m]):=hS.held m _ _ (Qd (by omega)) (Qd hms)
 have HB0:Hid (Book wd ch[m].2 states[m]):=hS.book m _ _ (by have:=hS.floor;have:=hS.len;omega) (Qd hmc) (Qd hms)
 have HL0:Hid (states[m].length<=800000000):=hlen _ (Qx hms)
 have HLAST:Hid (ch.last.2=ch[m].2):=(by rw [Ch.last_get ch m (by have:=hS.len;omega)]:ch.last.2=ch[m].2)
 have HS:Hid _:=hS
 have HF:Hid _:=hF
 have HP:Hid _:=hp
 have HPO:Hid _:=hpo
 have HLEN:Hid _:=hlen
 have HC:Hid _:=hc
 have HMS:Hid _:=hms
 generalize hl0:states[m]=l0 at *
 generalize hst0:ch[m].2=st0 at *
 generalize hx0:(sl[m]'(by omega))=x0 at *
 obtain ⟨xa,xn,xc⟩:=x0
 simp only at qm H0
 have HL0E:Hid (states[m]? =some l0):=(by rw [<-hl0];exact Qd hms:states[m]? =some l0)
 rw [hm] at q2
 have hmi:((m+1:Nat):Int) - 1=(m:Int):=by omega
 have hmi2:(m:Int)<((m+1:Nat):Int):=by omega
 have hm32:m<4294967296:=by have:=HS.o.len;have:=HC.o;omega
 have hwm:IntKind.i64.wrap (m:Int)=(m:Int):=by simp [IntKind.wrap,IntKind.bits,IntKind.signed];omega
 have hwm2:wrap64 (m:Int)=(m:Int):=by unfold wrap64;omega
 clear hS hF hp hpo hlen hc hcell hl0 hst0 hx0 hms hmc hsl
 go_enter func17,ntmps17
 go_wp2
 go_region
 go_wp2
 have HSH:Hid (JO L w.drew xb lb F fl ch (.slice (some ⟨gs,0,none⟩) sl.length cap) sl states):=HS.o.next (Td _ w 1)
 have HM:Hid _:=hm
 clear hmi hmi2 hm32 hwm hwm2 q2 qm hm
 go_loopw [5,6,7,8] (λvn vt vc i wr=>∃(k:Nat) (ts:List TxL) (cur:List Held) (code:Int),k<=3/\i=.int .i64 k/\vc=.int .i64 code/\Hid (YG w.heap.size wr vt ts)/\Hid (ts.length=k)/\Hid (XQ wr vn cur)/\Hid (JbO wd l0 st0 ts cur code)/\Hid (cur.length<=l0.length+3 * k)/\Hid (Tch NoB w wr)) (λ_ _ _ i _=>3 - (intOf i).toNat)
 case atStart=>
  exact ⟨0,[],l0,0,by omega,rfl,rfl,⟨[],⟨rfl,.inl ⟨rfl,rfl⟩⟩,rfl,λj x t h=>by simp at h⟩,rfl,H0.o.tch (Td NoB w 1) (λ_ _ e=>e),⟨λt ht=>(QD ht).elim,.inl ⟨rfl,rfl,st0,rfl,HB0.o⟩⟩,(by omega:l0.length<=l0.length+3 * 0),Td _ w 1⟩
 case round=>
  obtain ⟨k,ts,cur,code,hk,rfl,rfl,HTX,HTL,HCU,HPY,HCL,HT⟩:=hrel
  go_upto_region 5 with fail
  go_cut [37] (λvb wx=>∃b:Bool,vb=.bool b/\wx=wr/\(b=true->k<ps.length/\k<3/\code=0))
  case first=>
   by_cases h1:k<ps.length
   ·have h1i:(k:Int)<(ps.length:Int):=by omega
    by_cases h2:k<3
    ·have h2i:(k:Int)<3:=by omega
     go_wp2
     go_meet
     exact ⟨_,rfl,rfl,λh=>⟨h1,h2,by simpa using h⟩⟩
    ·have h2i:¬(k:Int)<3:=by omega
     go_wp2
     go_meet
     exact ⟨false,rfl,rfl,λh=>by cases h⟩
   ·have h1i:¬(k:Int)<(ps.length:Int):=by omega
    go_wp2
    go_meet
    exact ⟨false,rfl,rfl,λh=>by cases h⟩
  case rest=>
  obtain ⟨b,rfl,rfl,hb⟩:=hcut
  obtain ⟨wA,hwA⟩:∃wA,wA=wc:=⟨wc,rfl⟩
  subst hwA
  cases b with
  | true=>
   obtain ⟨hkp,hk3,rfl⟩:=hb rfl
   clear hb
   rcases HP.o with ⟨_,e2⟩ | ⟨g0,o0,cc,e,hg0,hcell⟩
   ·rw [e2] at hkp;simp at hkp
   simp only [Qy,true_and] at e
   obtain ⟨rfl,rfl⟩:=e
   obtain ⟨va,hnum,p0,p1,p2,p3,p4,p5⟩:=hcell k hkp
   have HPK:Hid (PayL.Ok ps[k]):=HPO.o _ (Qx hkp)
   have cl:∀o,wA.cell? ⟨g0,o,none⟩=w.cell? ⟨g0,o,none⟩:=λo=>HT.o.cell (p:=⟨g0,o,none⟩) hg0 (λe=>e)
   have q0:=(cl _).trans p0
   have q1:=(cl _).trans p1
   have q2:=(cl _).trans p2
   have q3:=(cl _).trans p3
   have q4:=(cl _).trans p4
   have q5:=(cl _).trans p5
   have HNU:Hid (Zs wA va ps[k].amounts):=hnum.tch HT.o
   have HSA:Hid (JO L wA xb lb F fl ch (.slice (some ⟨gs,0,none⟩) sl.length cap) sl states):=HS.o.next HT.o
   have HFA:Hid (JT E base wA):=HF.o.tch HT.o noE
   have HCO:Hid (∀x∈cur,Jn wd x.1/\Jr x.2):=by
    rcases HPY.o.res with ⟨_,_,st,_,B⟩ | ⟨er,he,_⟩
    ·exact B.ok
    ·exact absurd he.symm (JaJ er)
   have hxw:wA.cell? ⟨xb,1,none⟩=some (.int .i64 (wd:Int)):=Ja HSA.o.row
   have HTXC:Hid (Calls _ _ _ wA _):=k_tx E wd hw1 hw xb u5 cur ps[k] va wA HFA.o.env hxw HCU.o.1 (by have:=HCL.o;have:=HL0.o;omega) HCO.o HPK.o HNU.o
   have hki:(k:Int)<(ps.length:Int):=by omega
   obtain ⟨na,nc,rfl⟩:=hnum.shape
   clear hcell p0 p1 p2 p3 p4 p5 cl hnum HNU hxw
   generalize ps[k]=p at *
   obtain ⟨pf,pm,pam,pow,pwi,pot⟩:=p
   simp only at q0 q1 q2 q3 q4 q5 HTXC
   obtain ⟨ca,ccp,rfl⟩:=HCU.o.1.shape
   obtain ⟨lt,hto,hll,hin⟩:=HTX.o
   obtain ⟨ta,tc,rfl⟩:=hto.shape
   have HTO:Hid (TOwn w.heap.size wA (.slice ta lt.length tc) lt):=hto
   have HIN:Hid _:=hin
   have HLL:Hid _:=hll
   clear hto hin hll HTX
   go_upto_region 8 with (go_at_call 43;refine HTXC.o.mono ?_;rintro _ w1 ⟨ht1,t,v1,v2,rfl,htk,hco,hou⟩;have HT1:Hid (Tch _ wA w1):=ht1;have HTK:Hid (TxOk wd t):=htk;have HCI:Hid (COwn wA.heap.size w1 _ _):=hco;have HOU:Hid (OOwn wA.heap.size w1 _ _):=hou;obtain ⟨i1,n1,m1,hv1⟩:=hco.shape3;obtain ⟨i2,n2,m2,hv2⟩:=hou.shape3;subst hv1;subst hv2;clear ht1 htk hco hou)
   have T2:Hid (Tch NoB wA (w1.alloc (.cells #[.slice i1 n1 m1,.slice i2 n2 m2] 98))):=HT1.o.trans (Ta NoB w1 _) noE
   have T3:Hid (Tch NoB wA ((w1.alloc (.cells #[.slice i1 n1 m1,.slice i2 n2 m2] 98)).alloc (.cells #[.slice i1 n1 m1,.slice i2 n2 m2] 98))):=T2.out.trans (Ta NoB _ _) noE
   have TW:Hid (Tch NoB w1 ((w1.alloc (.cells #[.slice i1 n1 m1,.slice i2 n2 m2] 98)).alloc (.cells #[.slice i1 n1 m1,.slice i2 n2 m2] 98))):=(Ta NoB w1 _).trans (Ta NoB _ _) noE
   have HNT:Hid (Xe (w1.heap.size+1+1) ((w1.alloc (.cells #[.slice i1 n1 m1,.slice i2 n2 m2] 98)).alloc (.cells #[.slice i1 n1 m1,.slice i2 n2 m2] 98)) (.slice (some ⟨w1.heap.size+1,0,none⟩) 1 1) [((i1,n1,m1),(i2,n2,m2))]):=by
    have:=JmD (w1.alloc (.cells #[.slice i1 n1 m1,.slice i2 n2 m2] 98)) ((i1,n1,m1),(i2,n2,m2))
    have e:(w1.alloc (.cells #[.slice i1 n1 m1,.slice i2 n2 m2] 98)).heap.size=w1.heap.size+1:=by simp
    rw [e] at this
    exact this
   have HTT:Hid (TOwn w.heap.size ((w1.alloc (.cells #[.slice i1 n1 m1,.slice i2 n2 m2] 98)).alloc (.cells #[.slice i1 n1 m1,.slice i2 n2 m2] 98)) (.slice ta lt.length tc) lt):=HTO.o.tch T3.out (λ_ _ h=>h)
   have HPUSH:Hid (∀w3 v3,TOwn w.heap.size w3 v3 (lt++[((i1,n1,m1),(i2,n2,m2))])->World.grownBy ((w1.alloc (.cells #[.slice i1 n1 m1,.slice i2 n2 m2] 98)).alloc (.cells #[.slice i1 n1 m1,.slice i2 n2 m2] 98)) w3 (Value.slice ta lt.length tc).ownBlock->
     YG w.heap.size w3 v3 (ts++[t])/\COwn w.heap.size w3 (.slice i1 n1 m1) t.1/\OOwn w.heap.size w3 (.slice i2 n2 m2) t.2/\Tch (λk=>some k=(Value.slice ta lt.length tc).ownBlock) ((w1.alloc (.cells #[.slice i1 n1 m1,.slice i2 n2 m2] 98)).alloc (.cells #[.slice i1 n1 m1,.slice i2 n2 m2] 98)) w3/\w3.heap[w1.heap.size]? =some (.cells #[.slice i1 n1 m1,.slice i2 n2 m2] 98)):=by
    intro w3 v3 hn hg
    have hsz:=HT.o.size
    have hc1:COwn w.heap.size ((w1.alloc (.cells #[.slice i1 n1 m1,.slice i2 n2 m2] 98)).alloc (.cells #[.slice i1 n1 m1,.slice i2 n2 m2] 98)) (.slice i1 n1 m1) t.1:=(HCI.o.low hsz).tch TW.out (λ_ _ e=>e)
    have ho1:OOwn w.heap.size ((w1.alloc (.cells #[.slice i1 n1 m1,.slice i2 n2 m2] 98)).alloc (.cells #[.slice i1 n1 m1,.slice i2 n2 m2] 98)) (.slice i2 n2 m2) t.2:=(HOU.o.low hsz).tch TW.out (λ_ _ e=>e)
    have hold:∀(j:Nat) x t,lt[j]? =some x->ts[j]? =some t->COwn w.heap.size ((w1.alloc (.cells #[.slice i1 n1 m1,.slice i2 n2 m2] 98)).alloc (.cells #[.slice i1 n1 m1,.slice i2 n2 m2] 98)) (.slice x.1.1 x.1.2.1 x.1.2.2) t.1/\OOwn w.heap.size ((w1.alloc (.cells #[.slice i1 n1 m1,.slice i2 n2 m2] 98)).alloc (.cells #[.slice i1 n1 m1,.slice i2 n2 m2] 98)) (.slice x.2.1 x.2.2.1 x.2.2.2) t.2:=λj x t hx ht=>⟨(HIN.o j x t hx ht).1.tch T3.out (λ_ _ e=>e),(HIN.o j x t hx ht).2.tch T3.out (λ_ _ e=>e)⟩
    refine ⟨YG.push (x:=((i1,n1,m1),(i2,n2,m2))) HTT.o HLL.o hold hc1 ho1 hn hg,hc1.tch (Tg hg) (JaC hc1 HTT.o),ho1.tch (Tg hg) (Jbf ho1 HTT.o),Tg hg,?_⟩
    refine (hg.block _ (by simp;omega) (λe=>?_)).trans (heap_alloc2_old _ _ _)
    have h1:=(HTO.o.own _ e.symm).2
    have h2:=HT1.o.size
    omega
   go_cut [6] (λv3 w3=>Hid (YG w.heap.size w3 v3 (ts++[t]))/\Hid (COwn w.heap.size w3 (.slice i1 n1 m1) t.1)/\Hid (OOwn w.heap.size w3 (.slice i2 n2 m2) t.2)/\Hid (Tch (λk=>some k=(Value.slice ta lt.length tc).ownBlock) ((w1.alloc (.cells #[.slice i1 n1 m1,.slice i2 n2 m2] 98)).alloc (.cells #[.slice i1 n1 m1,.slice i2 n2 m2] 98)) w3)/\Hid (w3.heap[w1.heap.size]? =some (.cells #[.slice i1 n1 m1,.slice i2 n2 m2] 98)))
   case first=>
    go_wp2_with (at_builtin;refine JbM rfl _ _ rfl rfl HTT.o _ _ [((i1,n1,m1),(i2,n2,m2))] rfl HNT.o (by have:=HLL.o;have:=HTL.o;simp;omega) (by have:=HT.o.size;have:=HT1.o.size;simp;omega) ?_;intro v3 w3 hown3 hg3;obtain ⟨hpu,hc3,ho3,ht3,hr3⟩:=HPUSH.o w3 v3 hown3 hg3;have HP3:Hid (YG _ w3 v3 _):=hpu;have HC3:Hid (COwn _ w3 _ _):=hc3;have HO3:Hid (OOwn _ w3 _ _):=ho3;have HT3:Hid (Tch _ _ w3):=ht3;have HR3:Hid (_=_):=hr3;clear hown3 hg3 hpu hc3 ho3 ht3 hr3)
    go_meet
    exact ⟨HP3,HC3,HO3,HT3,HR3⟩
   case rest=>
   obtain ⟨HP3,HC3,HO3,HT3,HR3⟩:=hcut
   obtain ⟨wB,hwB⟩:∃wB,wB=wc:=⟨wc,rfl⟩
   subst hwB
   have HCB:Hid (XQ wB (.slice ca cur.length ccp) cur):=(HCU.o.tch T3.out (λ_ _ e=>e)).tch HT3.o (Jdj (HCU.o.tch T3.out (λ_ _ e=>e)) HTT.o)
   have HTB:Hid (Tch NoB w wB):=(HT.o.trans T3.out noE).trans HT3.o (λj hj=>.inr (HTT.o.own j hj.symm).1)
   have HSB:Hid (JO L wB xb lb F fl ch (.slice (some ⟨gs,0,none⟩) sl.length cap) sl states):=HS.o.next HTB.o
   have HFB:Hid (JT E base wB):=HF.o.tch HTB.o noE
   have HAC:Hid (Calls _ _ _ wB _):=Jh6 E wd hw1 hw xb (.slice ca cur.length ccp) cur wB.heap.size (.slice i1 n1 m1) (.slice i2 n2 m2) t wB HFB.o.env (Ja HSB.o.row) HCB.o.1 HTK.o HC3.o.at HO3.o.at (by have:=HCL.o;have:=HL0.o;omega) (λx hx=>(HCO.o x hx).2)
   have e0:wB.cell? ⟨w1.heap.size,0,none⟩=some (.slice i1 n1 m1):=Ja HR3.o
   have e1:wB.cell? ⟨w1.heap.size,1,none⟩=some (.slice i2 n2 m2):=Ja HR3.o
   have HNX:=JbO.next hw HPY.o t HTK.o
   have HN1:Hid _:=HNX
   clear HNX HCU HTO HIN HNT HTT HPUSH T2 T3 TW HT3 HSA HFA HTXC q0 q1 q2 q3 q4 q5
   cases hap:Xh (dgW wd) cur t with
   | error er=>
    have HAE:Hid (Calls prog 44 #[.pointer (some ⟨xb,0,none⟩),.slice ca cur.length ccp,.agg #[.slice i1 n1 m1,.slice i2 n2 m2]] wB λe w'=>Tch NoB wB w'/\e=.returned (.tuple #[.slice ca cur.length ccp,.int .i64 (Xs er)])):=HAC.o.mono (by rintro e w' ⟨h1,h2⟩;rw [hap] at h2;exact ⟨h1,h2⟩)
    have HPE:Hid (JbO wd l0 st0 (ts++[t]) cur (Xs er)):=HN1.o.2 er hap
    clear HAC hap HN1
    go_wp2_with (go_at_call 44;refine HAE.o.mono ?_;rintro _ w4 ⟨ht4,rfl⟩;have HT4:Hid (Tch _ wB w4):=ht4;clear ht4)
    go_roundw
    case rel=>exact ⟨k+1,ts++[t],cur,Xs er,by omega,by go_num,rfl,HP3.o.tch HT4.o,(by have:=HTL.o;simp;omega:(ts++[t]).length=k+1),HCB.o.tch HT4.o (λ_ _ e=>e),HPE.o,(by have:=HCL.o;omega:cur.length<=l0.length+3 * (k+1)),HTB.o.trans HT4.o noE⟩
    case measure=>simp [intOf];omega
   | ok l'=>
    have HAE:Hid (Calls prog 44 #[.pointer (some ⟨xb,0,none⟩),.slice ca cur.length ccp,.agg #[.slice i1 n1 m1,.slice i2 n2 m2]] wB λe w'=>Tch NoB wB w'/\∃v',e=.returned (.tuple #[v',.int .i64 0])/\XQ w' v' l'/\∀j,v'.ownBlock=some j->wB.heap.size<=j):=HAC.o.mono (by rintro e w' ⟨h1,h2⟩;rw [hap] at h2;exact ⟨h1,h2⟩)
    have HPE:Hid (JbO wd l0 st0 (ts++[t]) l' 0):=HN1.o.1 l' hap
    have HLE:Hid (l'.length<=cur.length+3):=(by have:=JeY _ _ _ _ hap;have:=HTK.o.made;omega:l'.length<=cur.length+3)
    clear HAC hap HN1
    go_wp2_with (go_at_call 44;refine HAE.o.mono ?_;rintro _ w4 ⟨ht4,v4,rfl,hh4,hn4⟩;have HN4:Hid (∀j,v4.ownBlock=some j->wB.heap.size<=j):=hn4;clear hn4;have HT4:Hid (Tch _ wB w4):=ht4;have HH4:Hid (XQ w4 v4 l'):=hh4;obtain ⟨z1,z2,hv4⟩:=hh4.1.shape;obtain ⟨z3,hz3⟩:∃z3,z3=l'.length:=⟨_,rfl⟩;rw [<-hz3] at hv4;subst hv4;clear ht4 hh4 hz3)
    go_roundw
    case rel=>exact ⟨k+1,ts++[t],l',0,by omega,by go_num,rfl,HP3.o.tch HT4.o,(by have:=HTL.o;simp;omega:(ts++[t]).length=k+1),HH4.o,HPE.o,(by have:=HCL.o;have:=HLE.o;omega:l'.length<=l0.length+3 * (k+1)),HTB.o.trans HT4.o noE⟩
    case measure=>simp [intOf];omega
  | false=>
   clear hb
   have HSA:Hid (JO L wA xb lb F fl ch (.slice (some ⟨gs,0,none⟩) sl.length cap) sl states):=HS.o.next HT.o
   have HFA:Hid (JT E base wA):=HF.o.tch HT.o noE
   have c0:wA.cell? ⟨xb,0,none⟩=some (.pointer (some ⟨lb,0,none⟩)):=Ja HSA.o.row
   have HSE:Hid (Calls _ _ _ wA _):=L.seals u6 ts HSA.o.led HFA.o HTX.o.is HPY.o.ok (by have:=HTL.o;omega) (by have:=HC.o;omega)
   have HSQ:Hid (JfL (dgW wd) wd ch ts=match JR (dgW wd) st0 ts with | .error e=>.error e | .ok st=>.ok (Ye (dgW wd) ch ts st)):=by
    have:=Jhq (dgW wd) wd (Jq wd hw) ch (by have:=HC.o;omega) ts HPY.o.ok (by have:=HTL.o;omega)
    rw [HLAST.o] at this
    exact this
   obtain ⟨ta,tn,tc,hu6⟩:∃a n c,u6=.slice a n c:=by
    obtain ⟨lt,h1,_⟩:=HTX.o
    exact h1.shape3
   obtain ⟨ca,ccp,hu5⟩:=HCU.o.1.shape
   subst hu6
   subst hu5
   rcases HPY.o.res with ⟨rfl,_,st,hap,B⟩ | ⟨er,rfl,_,hap⟩
   ·have hc32:ch.length<2 ^ 32:=by have:=HC.o;omega
    have ht3:ts.length<=3:=by have:=HTL.o;omega
    have HBT:Hid (Xo (dgW wd) wd ch (Ye (dgW wd) ch ts st)=.ok (ch++[(⟨(hdrB (Zl (dgW wd) ch (Xf ts) (Xi (dgW wd) st))).toArray⟩,st)])):=Je4 (dgW wd) wd (Jq wd hw) ch hc32 ts HPY.o.ok ht3 st (by rw [HLAST.o];exact hap)
    have HSN:Hid (Calls prog 18 #[.pointer (some ⟨lb,0,none⟩),.slice ta tn tc] wA λe w'=>Tch NoB wA w'/\e=.returned (.tuple #[.string ⟨(Ye (dgW wd) ch ts st).toArray⟩,.int .i64 0])):=HSE.o.mono (by rintro e w' ⟨h1,h2⟩;rw [HSQ.o,hap] at h2;exact ⟨h1,h2⟩)
    have HBL:Hid (1<=(Ye (dgW wd) ch ts st).length/\(Ye (dgW wd) ch ts st).length<=1000000):=Jgb wd hw ch ts HPY.o.ok ht3 st
    have HBK:Hid (Book wd st cur):=B
    clear HSE HSQ hap HPY hc32 ht3 B
    generalize hBB:Ye (dgW wd) ch ts st=bb at *
    generalize hHH:(⟨(hdrB (Zl (dgW wd) ch (Xf ts) (Xi (dgW wd) st))).toArray⟩:BA)=hh at *
    clear hBB hHH
    obtain ⟨S,hS⟩:∃S:BA,S=⟨bb.toArray⟩:=⟨_,rfl⟩
    have HSD:Hid (S.data.toList=bb/\S.size<=1000000):=⟨by rw [hS],by rw [hS];have:=HBL.o.2;show bb.toArray.size<=1000000;simpa using this⟩
    have hSe:S.toList.isEmpty=false:=by
     rw [ByteArray.toList_eq,HSD.o.1]
     have:=HBL.o.1
     cases bb with
     | nil=>simp at this
     | cons _ _=>rfl
    rw [<-hS] at HSN
    clear hS
    go_upto_region 15 with (go_at_call 18;refine HSN.o.mono ?_;rintro _ w2 ⟨ht2,rfl⟩;have HT2:Hid (Tch _ wA w2):=ht2;clear ht2)
    have HS2:Hid (JO L w2 xb lb F fl ch (.slice (some ⟨gs,0,none⟩) sl.length cap) sl states):=HSA.o.next HT2.o
    have HF2:Hid (JT E base w2):=HFA.o.tch HT2.o noE
    have HC2:Hid (XQ w2 (.slice ca cur.length ccp) cur):=HCU.o.tch HT2.o (λ_ _ e=>e)
    have HTW2:Hid (Tch NoB w w2):=HT.o.trans HT2.o noE
    have c2:w2.cell? ⟨xb,0,none⟩=some (.pointer (some ⟨lb,0,none⟩)):=Ja HS2.o.row
    have HSU:Hid (Calls prog 19 #[.pointer (some ⟨lb,0,none⟩),.string S] w2 λe w'=>Tch F w2 w'/\∃F':Nat->Prop,(∀j,F' j->F j\/w2.heap.size<=j)/\e=.returned (.int .i64 0)/\L.At w' lb F' fl (ch++[(hh,st)])):=(L.submits S HS2.o.led HF2.o HSD.o.2 (by have:=HC.o;omega)).mono (by
     rintro e w' ⟨h1,F',h2,h3⟩
     rw [HSD.o.1,HBT.o] at h3
     exact ⟨h1,F',h2,h3⟩)
    clear HSN HT2 HSA HFA c0 hSe
    go_upto_region 16 with (go_at_call 19;refine HSU.o.mono ?_;rintro _ w3 ⟨ht3,F',hF',rfl,hat3⟩;have HT3:Hid (Tch F w2 w3):=ht3;have HFF:Hid (∀j,F' j->F j\/w2.heap.size<=j):=hF';have HAT:Hid (L.At w3 lb F' fl _):=hat3;clear ht3 hF' hat3)
    have HKX:Hid (∀j cur T m,w2.heap[j]? =some (.cells cur T m)->(T=35\/T=43\/T=87)->¬F j):=λj cur T m hr hT hj=>by
     obtain ⟨k1,k2,k3⟩:=L.kinds HS2.o.led j hj cur T m hr
     rcases hT with h | h | h
     ·exact k1 h
     ·exact k2 h
     ·exact k3 h
    have HST:Hid (∀j,(Value.slice (some ⟨gs,0,none⟩) sl.length cap).ownBlock=some j->∃cur m,w2.heap[j]? =some (.cells cur 43 m)):=λj hj=>SOwn.kind HS2.o.st j hj
    have R3:Hid (w3.heap[xb]? =some (.cells #[.pointer (some ⟨lb,0,none⟩),.int .i64 (wd:Int),.slice (some ⟨gs,0,none⟩) sl.length cap,.int .i64 (fl:Int)] 35)):=(HT3.o.block _ (Jb HS2.o.row) (HKX.o xb _ _ _ HS2.o.row (.inl rfl))).trans HS2.o.row
    have S3:Hid (SOwn base w3 (.slice (some ⟨gs,0,none⟩) sl.length cap) sl):=HS2.o.st.tch HT3.o (λj hj=>by obtain ⟨c,m,hr⟩:=HST.o j hj;exact HKX.o j c _ m hr (.inr (.inl rfl)))
    have B3:Hid (∀(v:Value) l,XQ w2 v l->XQ w3 v l):=λv l hv=>hv.tch HT3.o (λj hj=>by obtain ⟨c,m,hr⟩:=hv.2 j hj;exact HKX.o j c _ m hr (.inr (.inr rfl)))
    have t3:w3.cell? ⟨xb,2,none⟩=some (.slice (some ⟨gs,0,none⟩) sl.length cap):=Ja R3.o
    have HEND:Hid (∀w4 v4,SOwn base w4 v4 (sl++[(ca,cur.length,ccp)])->World.grownBy (w3.alloc (.cells #[.slice ca cur.length ccp] 43)) w4 (Value.slice (some ⟨gs,0,none⟩) sl.length cap).ownBlock->
      w4.heap[xb]? =some (.cells #[.pointer (some ⟨lb,0,none⟩),.int .i64 (wd:Int),.slice (some ⟨gs,0,none⟩) sl.length cap,.int .i64 (fl:Int)] 35)/\JO L (w4.setCell ⟨xb,2,none⟩ v4) xb lb F' fl (ch++[(hh,st)]) v4 (sl++[(ca,cur.length,ccp)]) (states++[cur])/\Tch (λj=>F j\/j=xb\/some j=(Value.slice (some ⟨gs,0,none⟩) sl.length cap).ownBlock) w (w4.setCell ⟨xb,2,none⟩ v4)):=by
     intro w4 v4 ho hg
     exact JiD HS2.o HC2.o HBK.o HTW2.o HT3.o HAT.o R3.o S3.out B3.out ho hg
    have HSL:Hid (SOwn base (w3.alloc (.cells #[.slice ca cur.length ccp] 43)) (.slice (some ⟨gs,0,none⟩) sl.length cap) sl):=S3.out.tch (Ta NoB w3 _) (λ_ _ e=>e)
    have HCN:Hid ((w3.alloc (.cells #[.slice ca cur.length ccp] 43)).cell? ⟨w3.heap.size,0,none⟩=some (.slice ca cur.length ccp)):=Ja (Qf _ _)
    have HBW:Hid (base<=w3.heap.size/\sl.length<=10000000000):=⟨by have:=HS2.o.low;have:=(Jb R3.o);omega,by have:=HS.o.len;have:=HC.o;omega⟩
    go_cut [] (λwx=>∃g4 cap4,Hid (JO L wx xb lb F' fl (ch++[(hh,st)]) (.slice (some ⟨g4,0,none⟩) (m+2) cap4) (sl++[(ca,cur.length,ccp)]) (states++[cur]))/\Hid (Tch (λj=>F j\/j=xb\/some j=(Value.slice (some ⟨gs,0,none⟩) sl.length cap).ownBlock) w wx))
    case first=>
     go_wp2_with (at_builtin;(refine JbL rfl _ _ rfl rfl HSL.o w3.heap.size (ca,cur.length,ccp) rfl HCN.o HBW.o.2 (Qm HBW.o.1 (Ta NoB w3 _).size) ?_);intro v4 w4 hown4 hg4;obtain ⟨g4,cap4,hv4,_⟩:=hown4.at (by simp);have hl4:(sl++[(ca,cur.length,ccp)]).length=m+2:=(by simp [HM.o]);rw [hl4] at hv4;subst hv4;obtain ⟨hr4,hs4,ht4⟩:=HEND.o w4 _ hown4 hg4;have x2:w4.cell? ⟨xb,2,none⟩=some (.slice (some ⟨gs,0,none⟩) sl.length cap):=Ja hr4;have x3:w4.frozen? ⟨xb,2,none⟩=false:=Qg _ _ _ _ _ hr4;have HS4:Hid (JO L _ _ _ _ _ _ _ _ _):=hs4;have HT4:Hid (Tch _ w _):=ht4;clear hown4 hg4 hr4 hs4 ht4 hl4)
     go_meet
     exact ⟨g4,cap4,HS4,HT4⟩
    case rest=>
    obtain ⟨g4,cap4,HS4,HT4⟩:=hcut
    obtain ⟨wD,hwD⟩:∃wD,wD=wc:=⟨wc,rfl⟩
    subst hwD
    have HFD:Hid (JT E base wD):=HF.o.tch HT4.o (λj hj=>by
     rcases hj with h | h | h
     ·exact (L.own HS.o.led j h).1
     ·rw [h];exact HS.o.low
     ·exact (HS.o.st.own j h.symm).1)
    have c4:wD.cell? ⟨xb,0,none⟩=some (.pointer (some ⟨lb,0,none⟩)):=Ja HS4.o.row
    have HLC:Hid (((ch++[(hh,st)]).length:Int) - 1=(m:Int)+1):=(by have:=HS.o.len;have:=HM.o;simp;omega:((ch++[(hh,st)]).length:Int) - 1=(m:Int)+1)
    have HTIP:Hid (Calls prog 15 #[.pointer (some ⟨lb,0,none⟩)] wD λe w'=>e=.returned (.int .i64 ((m:Int)+1))/\Tch NoB wD w'):=(L.tip HS4.o.led HFD.o).mono (by rintro e w' ⟨h1,h2⟩;rw [HLC.o] at h1;exact ⟨h1,h2⟩)
    have hm32:m<4294967296:=by have:=HS.o.len;have:=HC.o;have:=HM.o;omega
    have hw1':wrap64 ((m:Int)+1)=(m:Int)+1:=by unfold wrap64;omega
    have hw2':IntKind.i64.wrap ((m:Int)+1)=(m:Int)+1:=by simp [IntKind.wrap,IntKind.bits,IntKind.signed];omega
    have hm2:((m+2:Nat):Int) - 1=(m:Int)+1:=by omega
    clear HSU HEND HSL HCN HBW t3 c2
    go_wp2_with (go_at_call 15;refine HTIP.o.mono ?_;rintro _ w6 ⟨rfl,ht6⟩;have HT6:Hid (Tch _ wD w6):=ht6;have y2:w6.cell? ⟨xb,2,none⟩=some (.slice (some ⟨g4,0,none⟩) (m+2) cap4):=Ja (HS4.o.next ht6).row;clear ht6)
    go_ret
    have hbeq:((m:Int)+1 == (m:Int)+2 - 1)=true:=by rw [beq_iff_eq];omega
    refine ⟨?_,F',ch++[(hh,st)],_,_,states++[cur],HS4.o.next HT6.o,HT4.o.trans HT6.o noE,λj hj=>?_,⟨_,rfl⟩,by simp,λl hl=>?_⟩
    ·exact congrArg (λb=>Ending.returned (Value.bool b)) hbeq
    ·rcases HFF.o j hj with h | h
     ·exact .inl h
     ·exact .inr (Qm HTW2.o.size h)
    ·rw [QE,Qt] at hl
     rcases hl with hl | rfl
     ·exact ⟨l,hl,by omega⟩
     ·exact ⟨l0,QR HL0E.o,by have:=HCL.o;omega⟩
   ·have HSN:Hid (Calls prog 18 #[.pointer (some ⟨lb,0,none⟩),.slice ta tn tc] wA λe w'=>Tch NoB wA w'/\e=.returned (.tuple #[.string ⟨#[]⟩,.int .i64 (Xs er)])):=HSE.o.mono (by rintro e w' ⟨h1,h2⟩;rw [HSQ.o,hap] at h2;exact ⟨h1,h2⟩)
    have hne:=JaJ er
    generalize Xs er=code at *
    have hnb:(code != 0)=true:=by simp [hne]
    have hnb2:(code == 0)=false:=by simp [hne]
    have hnb3:(code != code)=false:=by simp
    clear HSE HSQ hap HPY
    go_wp2_with (go_at_call 18;refine HSN.o.mono ?_;rintro _ w2 ⟨ht2,rfl⟩;have HT2:Hid (Tch _ wA w2):=ht2;clear ht2)
    go_ret
    exact ⟨rfl,F,ch,_,sl,states,HSA.o.next HT2.o,(HT.o.trans HT2.o noE).mono noE,λj hj=>.inl hj,⟨[],(QC _).symm⟩,by omega,λl hl=>⟨l,hl,by omega⟩⟩

structure Ji5 (E:Nat->Addr) (base:Nat) where
 led:∀wd,Led E wd base
 make:∀(wd:Nat) {w:World} (v:Value) (outs:List (Nat×Nat)),1<=wd->wd<=32->JT E base w->base<=w.heap.size->Jo w.heap.size w v outs->1<=outs.length->outs.length<=3->(∀o∈outs,Jr o)->
  Calls prog 37 #[.int .i64 (wd:Int),v] w λe w'=>Tch NoB w w'/\∃lb F h st,e=.returned (.tuple #[.pointer (some ⟨lb,0,none⟩),.int .i64 0])/\(led wd).At w' lb F 0 [(h,st)]/\JG (dgW wd (71 :: JW outs)) 0 outs none=.ok st
def Xp (id:BA) (outs:List (Nat×Nat)) (n:Nat):List Held:=(List.range n).map λ(i:Nat)=>((id,(i:Int)),outs.getD i (0,0))
theorem JbU (id:BA) (outs:List (Nat×Nat)) (n:Nat):Xp id outs (n+1)=Xp id outs n++[((id,(n:Int)),outs.getD n (0,0))]:=by
 unfold Xp;rw [List.range_succ,List.map_append];rfl
theorem Jfm (id:BA) (outs:List (Nat×Nat)) (n:Nat):JZ (Xp id outs n) (id,(n:Int))=none:=by
 unfold JZ
 rw [List.findIdx?_eq_none_iff]
 intro x hx
 unfold Xp at hx
 rw [QK] at hx
 obtain ⟨i,hi,rfl⟩:=hx
 rw [List.mem_range] at hi
 simp only [decide_eq_false_iff_not]
 intro h
 have:=congrArg Prod.snd h
 simp only at this
 omega
theorem JaE (id:BA) (outs:List (Nat×Nat)):∀(r:List (Nat×Nat)) (n:Nat),outs.drop n=r->n+r.length=outs.length->∀(o:Nat) (b:Bool),∃o' b',JE id n r (Xp id outs n,o,b)=some (Xp id outs outs.length,o',b'):=by
 intro r
 induction r with
 | nil=>intro n _ hn o b;simp only [Qv,Nat.add_zero] at hn;subst hn;exact ⟨o,b,rfl⟩
 | cons x r ih=>
  intro n hd hn o b
  simp only [JE,Jfm]
  have hlt:n<outs.length:=by simp only [Qp] at hn;omega
  have e:=List.drop_eq_getElem_cons hlt
  rw [hd] at e
  simp only [QH] at e
  have ex:outs.getD n (0,0)=x:=by simp [List.getD_eq_getElem?_getD,List.getElem?_eq_getElem hlt,e.1]
  have:=ih (n+1) e.2.symm (by simp only [Qp] at hn;omega) ((o+x.1) % M64) (b || decide ((o+x.1) % M64<o))
  rw [JbU,ex] at this
  exact this
theorem Jgl (wd:Nat) (outs:List (Nat×Nat)) (ho:∀o∈outs,Jr o) (h3:outs.length<=3) (id:BA) (hid:id.size=wd) (st:Option Tr) (h:JG id 0 outs none=.ok st):Book wd st (Xp id outs outs.length):=by
 have B0:Book wd none []:=by
  refine ⟨?_,?_,?_,?_⟩
  ·intro t ht;cases ht
  ·intro h hh;exact (QD hh).elim
  ·exact List.nodup_nil
  ·intro k o;simp [Xb]
 have:=ZT wd id hid outs ho 0 (by omega) none [] 0 false B0
 obtain ⟨o',b',e⟩:=JaE id outs outs 0 rfl (by omega) 0 false
 have e0:Xp id outs 0=[]:=rfl
 rw [e0] at e
 rw [show (0:Nat) % M64=0 from rfl,e] at this
 obtain ⟨st',e1,B,_⟩:=this
 rw [h] at e1
 cases e1
 exact B
theorem JcJ {b b':Nat} {w:World} {v v2:Value} {os:List (Nat×Nat)} {l:List Held} (h:OOwn b w v os) (h2:HOwn b' w v2 l):∀j,v.ownBlock=some j->¬some j=v2.ownBlock:=by
 intro j hj hj2
 obtain ⟨_,⟨rfl,_⟩ | ⟨g,cap,cur,rfl,_,hrow,_⟩⟩:=h
 ·cases hj
 obtain ⟨_,⟨rfl,_⟩ | ⟨g',cap',cur',rfl,_,hrow',_⟩⟩:=h2
 ·cases hj2
 cases hj
 cases hj2
 rw [hrow] at hrow'
 simp at hrow'
def Jja {E:Nat->Addr} {base:Nat} (M:Ji5 E base) (w:World) (e:Ending) (w':World):Prop:=
 Tch NoB w w'/\∃wd xb lb F ch vst sl states,1<=wd/\wd<=32/\e=.returned (.pointer (some ⟨xb,0,none⟩))/\JO (M.led wd) w' xb lb F 0 ch vst sl states/\states.length=1/\∀l∈states,l.length<=3
def frT (os:List (Nat×Nat)) (i:Nat):List UInt8:=71 :: (beL os.length 1 1++(os.take i).flatMap outB)
theorem JjL (os:List (Nat×Nat)) (i:Nat) (h:i<os.length):frT os (i+1)=frT os i++outB os[i]:=by
 unfold frT;rw [QP h];simp only [List.flatMap_append,QG,List.flatMap_nil,QC,Qs,List.cons_append]
theorem Jhg (os:List (Nat×Nat)) (h:os.length<=3) (i:Nat):(frT os i).length<=100:=by
 unfold frT;rw [Qp,Qe,Je,JdI,QB];omega
theorem Jmx {E:Nat->Addr} {base:Nat} (M:Ji5 E base) (c:Int) (B:Nat) (v:Value) (first:List (Nat×Nat)) (w:World) (hF:JT E base w) (hb:base<=w.heap.size) (h:Jo B w v first) (ho:∀o∈first,Jr o) (h1: -9223372036854775808<=c) (h2:c<9223372036854775808):
  Calls prog 14 #[.int .i64 c,v] w (Jja M w):=by
 obtain ⟨a0,c0,rfl⟩:=h.shape
 have HF:Hid _:=hF
 have HB:Hid _:=hb
 have H:Hid _:=h
 have HO:Hid _:=ho
 have HWI:Hid (∀W,Calls prog 36 #[.int .i64 c] W _):=λW=>Jh8 c W h1 h2
 clear hF hb h ho h1 h2
 go_enter func14,ntmps14
 go_wp2
 go_loopw [5,6] (λvo i wr=>∃(k:Nat) (os:List (Nat×Nat)),k<=3/\i=.int .i64 k/\Hid (OOwn w.heap.size wr vo os)/\Hid (os.length=k)/\Hid (∀o∈os,Jr o)/\Hid (Tch NoB w wr)) (λ_ i _=>3 - (intOf i).toNat)
 case atStart=>exact ⟨0,[],by omega,rfl,OOwn.nil _ _,rfl,(λc hc=>(QD hc).elim:∀c∈([]:List (Nat×Nat)),Jr c),Te _ _⟩
 case round=>
  obtain ⟨k,os,hk,rfl,HOO,HOL,HOK,HT⟩:=hrel
  obtain ⟨va,vc,rfl⟩:=HOO.o.shape
  by_cases hgo:k<first.length/\k<3
  ·obtain ⟨hkf,hk3⟩:=hgo
   rcases H.out with ⟨_,e2⟩ | ⟨g0,o0,cc,e,_,hg0,hcell⟩
   ·rw [e2] at hkf;simp at hkf
   simp only [Qy,true_and] at e
   obtain ⟨rfl,rfl⟩:=e
   obtain ⟨f0,f1⟩:=hcell k hkf
   have q0:=(HT.o.cell (p:=⟨g0,o0+k * 2,none⟩) hg0 (λe=>e)).trans f0
   have q1:=(HT.o.cell (p:=⟨g0,o0+k * 2+1,none⟩) hg0 (λe=>e)).trans f1
   have HOF:Hid (Jr first[k]):=HO.o _ (Qx hkf)
   have hki:(k:Int)<(first.length:Int):=by omega
   have hk3i:(k:Int)<3:=by omega
   clear hcell f0 f1
   generalize first[k]=o at *
   obtain ⟨oa,oo⟩:=o
   simp only at q0 q1
   have HNO:Hid (Jo (wr.heap.size+1) (wr.alloc (.cells #[.int .u64 ((oa:Nat):Int),.int .u8 ((oo:Nat):Int)] 80)) (.slice (some ⟨wr.heap.size,0,none⟩) 1 1) [(oa,oo)]):=Jew wr (oa,oo)
   have HOW:Hid (OOwn w.heap.size (wr.alloc (.cells #[.int .u64 ((oa:Nat):Int),.int .u8 ((oo:Nat):Int)] 80)) (.slice va os.length vc) os):=HOO.o.tch (Ta NoB wr _) (λ_ _ h=>h)
   go_wp2_with (at_builtin;refine Yl rfl _ _ rfl rfl HOW.o _ _ [(oa,oo)] rfl HNO.o (by have:=HOL.o;simp;omega) (Qm HT.o.size (Ta NoB wr _).size) ?_;intro v1 w1 hown1 hg1;have HO1:Hid _:=hown1;have HG1:Hid _:=hg1;clear hown1 hg1)
   go_roundw
   case rel=>exact ⟨k+1,os++[(oa,oo)],by omega,by go_num,HO1.o,(by have:=HOL.o;simp;omega:(os++[(oa,oo)]).length=k+1),(by intro c hc;rw [QE,Qt] at hc;rcases hc with hc | rfl;exact HOK.o c hc;exact HOF.o:∀c∈os++[(oa,oo)],Jr c),(HT.o.trans (Ta NoB wr _) noE).trans (Tg HG1.o) (λj hj=>.inr (HOO.o.own j hj.symm).1)⟩
   case measure=>simp [intOf];omega
  ·have HL3:Hid (os.length<=3):=(by have:=HOL.o;omega:os.length<=3)
   go_upto_region 3 with fail
   go_cut [22] (λvb wx=>vb=.bool false/\wx=wr)
   case first=>
    by_cases hkf:k<first.length
    ·have hki:(k:Int)<(first.length:Int):=by omega
     have hk3i:¬(k:Int)<3:=by omega
     go_wp2
     go_meet
     exact ⟨rfl,rfl⟩
    ·have hki:¬(k:Int)<(first.length:Int):=by omega
     go_wp2
     go_meet
     exact ⟨rfl,rfl⟩
   case rest=>
   obtain ⟨rfl,rfl⟩:=hcut
   obtain ⟨wA,hwA⟩:∃wA,wA=wc:=⟨wc,rfl⟩
   subst hwA
   go_upto_if 34 with fail
   go_cut [5] (λvo wx=>∃os':List (Nat×Nat),Hid (OOwn w.heap.size wx vo os')/\Hid (1<=os'.length/\os'.length<=3/\∀o∈os',Jr o)/\Hid (Tch NoB w wx))
   case first=>
    by_cases h0:os.length=0
    ·have h0i:(os.length:Int)=0:=by omega
     have HNO:Hid (Jo (wA.heap.size+1) (wA.alloc (.cells #[.int .u64 100,.int .u8 1] 80)) (.slice (some ⟨wA.heap.size,0,none⟩) 1 1) [(100,1)]):=Jew wA (100,1)
     have HOW:Hid (OOwn w.heap.size (wA.alloc (.cells #[.int .u64 100,.int .u8 1] 80)) (.slice va os.length vc) os):=HOO.o.tch (Ta NoB wA _) (λ_ _ h=>h)
     have H0:Hid _:=h0
     clear h0
     go_wp2_with (at_builtin;refine Yl rfl _ _ rfl rfl HOW.o _ _ [(100,1)] rfl HNO.o (by have:=H0.o;simp;omega) (Qm HT.o.size (Ta NoB wA _).size) ?_;intro v1 w1 hown1 hg1;have HO1:Hid _:=hown1;have HG1:Hid _:=hg1;clear hown1 hg1)
     go_meet
     exact ⟨os++[(100,1)],HO1,⟨by simp,by have:=H0.o;simp;omega,by intro o ho;rw [QE,Qt] at ho;rcases ho with ho | rfl;exact HOK.o o ho;exact ⟨by decide,by decide⟩⟩,(HT.o.trans (Ta NoB wA _) noE).trans (Tg HG1.o) (λj hj=>.inr (HOO.o.own j hj.symm).1)⟩
    ·have h0i:¬(os.length:Int)=0:=by omega
     have H0:Hid _:=h0
     clear h0
     go_wp2
     go_meet
     exact ⟨os,HOO,⟨by have:=H0.o;omega,HL3.o,HOK.o⟩,HT⟩
   case rest=>
   obtain ⟨os',HOP,HOQ,HTB⟩:=hcut
   obtain ⟨wB,hwB⟩:∃wB,wB=wc:=⟨wc,rfl⟩
   subst hwB
   clear HOO HOL HOK HT HL3 hgo
   obtain ⟨vb,vd,hu5⟩:=HOP.o.shape
   subst hu5
   go_wp2_with fail
   refine (HWI.o _).mono ?_
   rintro _ w1 ⟨⟨wd,hw1,hw32,rfl⟩,ht1⟩
   have HT1:Hid (Tch NoB w w1):=HTB.o.trans ht1 noE
   have HO1:Hid (OOwn w.heap.size w1 (.slice vb os'.length vd) os'):=HOP.o.tch ht1 (λ_ _ e=>e)
   have HF1:Hid (JT E base w1):=HF.o.tch HT1.o noE
   have HNW:Hid (Calls _ _ _ w1 _):=M.make wd (.slice vb os'.length vd) os' hw1 hw32 HF1.o (Qm HB.o HT1.o.size) HO1.o.at HOQ.o.1 HOQ.o.2.1 HOQ.o.2.2
   clear ht1
   go_wp2_with fail
   refine HNW.o.mono ?_
   rintro _ w2 ⟨ht2,lb,F,hd,st,rfl,hat,hrc⟩
   have HT2:Hid (Tch NoB w w2):=HT1.o.trans ht2 noE
   have HO2:Hid (OOwn w.heap.size w2 (.slice vb os'.length vd) os'):=HO1.o.tch ht2 (λ_ _ e=>e)
   have HAT:Hid _:=hat
   have HRC:Hid (_=_):=hrc
   have HF2:Hid (JT E base w2):=HF.o.tch HT2.o noE
   clear ht2 hat hrc HNW
   have hn3:=HOQ.o.2.1
   have HQ:Hid (1<=os'.length/\os'.length<=3/\∀o∈os',Jr o):=HOQ.o
   have hwn:IntKind.u8.wrap (os'.length:Int)=(os'.length:Int):=by simp [IntKind.wrap,IntKind.bits,IntKind.signed];omega
   have hby:=Jgp os'.length w2 (by omega)
   have hadd0:=Jbo [71] [UInt8.ofNat os'.length] (by simp)
   have HX0:Hid ([71]++[UInt8.ofNat os'.length]=frT os' 0):=(by rw [frT,beL1];simp:[71]++[UInt8.ofNat os'.length]=frT os' 0)
   have TB2:Hid (Tch NoB w (w2.alloc (.cells #[.int .u8 (os'.length:Int)] 5))):=HT2.o.trans (Ta NoB w2 _) noE
   have OB2:Hid (OOwn w.heap.size (w2.alloc (.cells #[.int .u8 (os'.length:Int)] 5)) (.slice vb os'.length vd) os'):=HO2.o.tch (Ta NoB w2 _) (λ_ _ e=>e)
   have TL2:Hid (Tch NoB w2 (w2.alloc (.cells #[.int .u8 (os'.length:Int)] 5))):=Ta NoB w2 _
   generalize [71]++[UInt8.ofNat os'.length]=X0 at *
   clear HOQ HOP HTB HT1 HO1 HF1
   go_wp2
   clear hby hadd0 hwn
   go_loopw [10,11] (λsx i wr=>∃k:Nat,k<=os'.length/\i=.int .i64 k/\sx=.string ⟨(frT os' k).toArray⟩/\Hid (OOwn w.heap.size wr (.slice vb os'.length vd) os')/\Hid (Tch NoB w2 wr)) (λ_ i _=>os'.length - (intOf i).toNat)
   case atStart=>exact ⟨0,by omega,rfl,by rw [HX0.o],OB2.out,TL2.out⟩
   case round=>
    clear HX0 TB2 OB2 TL2
    obtain ⟨k,hk,rfl,rfl,HOO,HT⟩:=hrel
    by_cases hlt:k<os'.length
    ·rcases HOO.o.at with ⟨e,_⟩ | ⟨gi,oi,cc,e,_,hgi,hcell⟩
     ·simp only [Qy] at e;omega
     simp only [Qy,true_and] at e
     obtain ⟨rfl,rfl⟩:=e
     obtain ⟨q0,q1⟩:=hcell k hlt
     have hok:=HQ.o.2.2 _ (Qx hlt)
     have hlti:(k:Int)<(os'.length:Int):=by omega
     have hadd:=Jbo (frT os' k) (outB os'[k]) (by have:=Jhg os' HQ.o.2.1 k;rw [JcI];omega)
     rw [<-JjL os' k hlt] at hadd
     have HLT:Hid _:=hlt
     have HKT:Hid (Calls _ _ _ wr _):=JdP os'[k].1 os'[k].2 wr hok.2
     clear hcell hok
     generalize os'[k]=o at *
     obtain ⟨oa,oo⟩:=o
     simp only at q0 q1
     generalize hX1:frT os' (k+1)=X1 at *
     generalize frT os' k=X0 at *
     have HX1:Hid (_=X1):=hX1
     clear hX1
     generalize outB (oa,oo)=cb at *
     go_wp2_with (go_at_call 38;refine HKT.o.mono ?_;rintro _ w3 ⟨rfl,ht3⟩;have HT3:Hid _:=ht3;clear ht3)
     go_roundw
     case rel=>exact ⟨k+1,HLT.o,by go_num,by rw [HX1.o],HOO.o.tch HT3.o (λ_ _ e=>e),HT.o.trans HT3.o noE⟩
     case measure=>have:=HLT.o;simp [intOf];omega
    ·have HK:Hid (k=os'.length):=(by omega:k=os'.length)
     have hge:¬(k:Int)<(os'.length:Int):=by omega
     have HX:Hid (frT os' k=71 :: JW os'):=(by rw [HK.o,frT,JW,List.take_length]:frT os' k=71 :: JW os')
     have HXL:Hid ((frT os' k).length<=100):=Jhg os' HQ.o.2.1 k
     have HTW:Hid (Tch NoB w wr):=HT2.o.trans HT.o noE
     have HEW:Hid (Env E wr):=(HF.o.tch HTW.o noE).env
     obtain ⟨S,hS1,hS2⟩:∃S:BA,S=⟨(frT os' k).toArray⟩/\S.data.toList=71 :: JW os':=⟨_,rfl,by simp [HX.o]⟩
     have hSz:S.size<1152921504606846976:=by rw [hS1];show (frT os' k).toArray.size<_;have:=HXL.o;simp;omega
     have HDG:Hid (Calls prog 39 #[.int .i64 (wd:Int),.string S] wr λe w'=>e=.returned (.string (dgW wd (71 :: JW os')))/\Tch NoB wr w'):=(Ja5 wd S wr hw1 hw32 hSz (Qk (by decide) HEW.o.size) HEW.o.table).mono (by rintro _ w' ⟨rfl,ht⟩;exact ⟨by rw [hS2];rfl,ht⟩)
     rw [<-hS1]
     clear hS1 hS2 hSz HX HXL
     obtain ⟨id,hid⟩:∃id,dgW wd (71 :: JW os')=id:=⟨_,rfl⟩
     have HIDS:id.size=wd:=by rw [<-hid];exact Jq wd hw32 _
     rw [hid] at HDG HRC
     clear hid
     go_upto_region 18 with (go_at_call 39;refine HDG.o.mono ?_;rintro _ w3 ⟨rfl,ht3⟩;have HT3:Hid _:=ht3;clear ht3)
     have HTV:Hid (Tch NoB w w3):=HTW.o.trans HT3.o noE
     have HT23:Hid (Tch NoB w2 w3):=HT.o.trans HT3.o noE
     have HO3:Hid (OOwn w.heap.size w3 (.slice vb os'.length vd) os'):=HOO.o.tch HT3.o (λ_ _ e=>e)
     have hszi:(id.size:Int)=(wd:Int):=by rw [HIDS]
     have HIDH:Hid _:=HIDS
     have HTU:Hid (Tch NoB w w2):=HT2.o
     clear HIDS HOO HT HTW HEW HDG HT3 HT2 HO2 HF2 HK
     go_upto_region 20 with fail
     clear hszi
     go_wp2
     go_loopw [13,14] (λvn i wr=>∃k:Nat,k<=os'.length/\i=.int .i64 k/\Hid (HOwn w2.heap.size wr vn (Xp id os' k))/\Hid (OOwn w.heap.size wr (.slice vb os'.length vd) os')/\Hid (Tch NoB w2 wr)) (λ_ i _=>os'.length - (intOf i).toNat)
     case atStart=>exact ⟨0,by omega,rfl,HOwn.nil _ _,HO3.o,HT23.o⟩
     case round=>
      clear HO3 HT23 HTV
      obtain ⟨k,hk,rfl,HHO,HOO,HT⟩:=hrel
      obtain ⟨na,nc,hvn⟩:=HHO.o.shape
      obtain ⟨nl,hnl⟩:∃nl,(Xp id os' k).length=nl:=⟨_,rfl⟩
      rw [hnl] at hvn
      subst hvn
      have HNL:Hid _:=hnl
      have HNK:Hid ((Xp id os' k).length=k):=(by simp [Xp]:(Xp id os' k).length=k)
      clear hnl
      by_cases hlt:k<os'.length
      ·rcases HOO.o.at with ⟨e,_⟩ | ⟨gi,oi,cc,e,_,hgi,hcell⟩
       ·simp only [Qy] at e;omega
       simp only [Qy,true_and] at e
       obtain ⟨rfl,rfl⟩:=e
       obtain ⟨q0,q1⟩:=hcell k hlt
       have hlti:(k:Int)<(os'.length:Int):=by omega
       have HLT:Hid _:=hlt
       have HSU:Hid (Xp id os' (k+1)=Xp id os' k++[((id,(k:Int)),os'[k])]):=(by
        have eg:os'.getD k (0,0)=os'[k]:=by rw [Qn,Qd hlt];rfl
        rw [JbU,eg]:Xp id os' (k+1)=Xp id os' k++[((id,(k:Int)),os'[k])])
       clear hcell
       generalize os'[k]=o at *
       obtain ⟨oa,oo⟩:=o
       simp only at q0 q1
       have HNW:Hid (Xa (wr.alloc (.cells #[.string id,.int .i64 (k:Int),.int .u64 ((oa:Nat):Int),.int .u8 ((oo:Nat):Int)] 87)) (.slice (some ⟨wr.heap.size,0,none⟩) 1 1) [((id,(k:Int)),(oa,oo))]):=Jfn wr (id,(k:Int)) (oa,oo)
       have HHW:Hid (HOwn w2.heap.size (wr.alloc (.cells #[.string id,.int .i64 (k:Int),.int .u64 ((oa:Nat):Int),.int .u8 ((oo:Nat):Int)] 87)) (.slice na nl nc) (Xp id os' k)):=HHO.o.tch (Ta NoB wr _) (λ_ _ e=>e)
       have TAL:Hid (Tch NoB w2 (wr.alloc (.cells #[.string id,.int .i64 (k:Int),.int .u64 ((oa:Nat):Int),.int .u8 ((oo:Nat):Int)] 87))):=HT.o.trans (Ta NoB wr _) noE
       go_wp2_with (at_builtin;refine Xm rfl _ _ rfl rfl HHW.o _ [((id,(k:Int)),(oa,oo))] rfl HNW.o (by rw [HNK.o];simp;omega) (Qm HT.o.size (Ta NoB wr _).size) ?_;intro v1 w1 hown1 hg1;have HO1:Hid _:=hown1;have HG1:Hid _:=hg1;clear hown1 hg1)
       go_roundw
       case rel=>exact ⟨k+1,HLT.o,by go_num,by rw [HSU.o];exact HO1,(HOO.o.tch (Ta NoB wr _) (λ_ _ e=>e)).tch (Tg HG1.o) (JcJ (HOO.o.tch (Ta NoB wr _) (λ_ _ e=>e)) HHW.o),TAL.out.trans (Tg HG1.o) (λj hj=>.inr (HHO.o.own j hj.symm).1)⟩
       case measure=>have:=HLT.o;simp [intOf];omega
      ·have HK:Hid (k=os'.length):=(by omega:k=os'.length)
       have hge:¬(k:Int)<(os'.length:Int):=by omega
       go_wp2
       go_ret
       have tA:=(Ta NoB wr (.cells #[.slice na nl nc] 43)).trans (Ta NoB _ (.cells #[.pointer (some ⟨lb,0,none⟩),.int .i64 (wd:Int),.slice (some ⟨wr.heap.size,0,none⟩) 1 1,.int .i64 0] 35)) (λ_ h=>.inl h)
       have hbw:base<=wr.heap.size:=Qm HB.o (Qm HTU.o.size HT.o.size)
       refine ⟨(HTU.o.trans HT.o noE).trans tA noE,wd,wr.heap.size+1,lb,F,[(hd,st)],.slice (some ⟨wr.heap.size,0,none⟩) 1 1,[(na,nl,nc)],[Xp id os' k],hw1,hw32,rfl,?_,rfl,?_⟩
       ·refine ⟨heap_alloc2_new _ _ _,(M.led wd).keep ((M.led wd).keep HAT.o HT.o (λ_ e=>e.elim)) tA (λ_ e=>e.elim),⟨rfl,.inr ⟨wr.heap.size,1,#[.slice na nl nc],rfl,hbw,heap_alloc2_old _ _ _,Ql _,by decide,rfl,rfl⟩⟩,by omega,?_,⟨rfl,rfl,by simp⟩,by simp,?_⟩
        ·intro i x l hx hl
         cases i with
         | zero=>
          simp only [List.getElem?_cons_zero,Qh] at hx hl
          subst hx;subst hl
          exact HHO.o.t.tch tA (λ_ _ e=>e)
         | succ i=>simp at hx
        ·intro i d l _ hd' hl
         cases i with
         | zero=>
          simp only [List.getElem?_cons_zero,Qh] at hd' hl
          subst hd';subst hl
          rw [HK.o]
          exact Jgl wd os' HQ.o.2.2 HQ.o.2.1 id HIDH.o st HRC.o
         | succ i=>simp at hd'
       ·intro l hl
        simp only [Qt] at hl
        subst hl
        have:=HNK.o;have:=HQ.o.2.1;omega
