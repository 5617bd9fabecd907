import Derived.Test.YtighkdnooglfjaaGreatDoorLcKPay
import Derived.Test.YtighkdnooglfjaaGreatDoorLcPRd
namespace Go.Proofs.YtighkdnooglfjaaGreatDoor
open Tryz
set_option maxRecDepth 100000
set_option maxHeartbeats 4000000
open Go.RowKit

variable {l:List (Sl×Sl)}{cur:List Held}{ts:List TxL}{b b' base wj:Nat}{E:Nat->Addr}{v v2:Value}{w w3:World}
theorem SOwn.kind{l:List Sl}(h:SOwn base w v l):∀j,v.ownBlock=some j->∃cur m,w.heap[j]? =some (.cells cur 43 m):=by
 obtain⟨_,⟨rfl,h0⟩|⟨g,cap,cur,rfl,hb,hrow,_⟩⟩:=h
 ·intro k hk;cases hk
 ·intro k hk;cases hk;exact⟨cur,_,hrow⟩
def JeN(w:World)(v:Value)(ps:List PayL):Prop:=
 ((∃a c,v=.slice a 0 c)/\ps=[])\/∃g o c,v=.slice (some ⟨g,o,none⟩) ps.length c/\g<w.heap.size/\∀i (h:i<ps.length),∃va,ZG w va ps[i].amounts/\
  w.cell? ⟨g,o+i*6,none⟩=some (.int .i64 ps[i].from_)/\w.cell? ⟨g,o+i*6+1,none⟩=some (.int .i64 ps[i].many)/\w.cell? ⟨g,o+i*6+2,none⟩=some va/\w.cell? ⟨g,o+i*6+3,none⟩=some (.int .u8 ((ps[i].owner:Nat):Int))/\w.cell? ⟨g,o+i*6+4,none⟩=some (.bool ps[i].wild)/\w.cell? ⟨g,o+i*6+5,none⟩=some (.bool ps[i].other)
theorem JeN.shape{l:List PayL}(h:JeN w v l):∃a c,v=.slice a l.length c:=by
 rcases h with⟨⟨a,c,rfl⟩,rfl⟩|⟨gi,oi,c,rfl,_⟩
 ·exact⟨a,c,rfl⟩
 ·exact⟨_,_,rfl⟩
def YX(base:Nat)(w:World)(v:Value)(ts:List TxL):Prop:=
 ∃l:List (Sl×Sl),TOwn base w v l/\l.length=ts.length/\∀(j:Nat) x t,l[j]? =some x->ts[j]? =some t->COwn base w (.slice x.1.1 x.1.2.1 x.1.2.2) t.1/\OOwn base w (.slice x.2.1 x.2.2.1 x.2.2.2) t.2
theorem YX.is(h:YX base w v ts):Jkn w v ts:=by
 obtain⟨l,h1,h2,h3⟩:=h;exact⟨l,h1.at,h2,λj x t hx ht=>⟨(h3 j x t hx ht).1.at,(h3 j x t hx ht).2.at⟩⟩
theorem Ja0{cs:List (BA×Int)}(h:COwn b w v cs)(h2:TOwn b' w v2 l):∀j,v.ownBlock=some j->¬some j=v2.ownBlock:=by
 intro j hj hj2;obtain⟨_,⟨rfl,_⟩|⟨g,cap,cur,rfl,_,hrow,_⟩⟩:=h
 ·cases hj
 obtain⟨_,⟨rfl,_⟩|⟨g',cap',cur',rfl,_,hrow',_⟩⟩:=h2
 ·cases hj2
 cases hj
 cases hj2
 rw[hrow]at hrow';simp at hrow'
theorem JbF{cs:List (Nat×Nat)}(h:OOwn b w v cs)(h2:TOwn b' w v2 l):∀j,v.ownBlock=some j->¬some j=v2.ownBlock:=by
 intro j hj hj2;obtain⟨_,⟨rfl,_⟩|⟨g,cap,cur,rfl,_,hrow,_⟩⟩:=h
 ·cases hj
 obtain⟨_,⟨rfl,_⟩|⟨g',cap',cur',rfl,_,hrow',_⟩⟩:=h2
 ·cases hj2
 cases hj
 cases hj2
 rw[hrow]at hrow';simp at hrow'
theorem JdV{cs:List Held}(h:Yi w v cs)(h2:TOwn b' w v2 l):∀j,v.ownBlock=some j->¬some j=v2.ownBlock:=by
 intro j hj hj2;obtain⟨cur,m,hrow⟩:=h.2 j hj;obtain⟨_,⟨rfl,_⟩|⟨g',cap',cur',rfl,_,hrow',_⟩⟩:=h2
 ·cases hj2
 cases hj2
 rw[hrow]at hrow';simp at hrow'
theorem YX.tch{w':World}(h:YX base w v ts)(k:Tch NoB w w'):YX base w' v ts:=by
 obtain⟨l,h1,h2,h3⟩:=h;exact⟨l,h1.tch k (λ_ _ e=>e),h2,λj x t hx ht=>⟨(h3 j x t hx ht).1.tch k (λ_ _ e=>e),(h3 j x t hx ht).2.tch k (λ_ _ e=>e)⟩⟩
theorem YX.push{W:World}{v3:Value}{lt:List (Sl×Sl)}{x:Sl×Sl}{t:TxL}(h1:TOwn base W v lt)(h2:lt.length=ts.length)(h3:∀(j:Nat) x t,lt[j]? =some x->ts[j]? =some t->COwn base W (.slice x.1.1 x.1.2.1 x.1.2.2) t.1/\OOwn base W (.slice x.2.1 x.2.2.1 x.2.2.2) t.2)
 (hc:COwn base W (.slice x.1.1 x.1.2.1 x.1.2.2) t.1) (ho:OOwn base W (.slice x.2.1 x.2.2.1 x.2.2.2) t.2) (hn:TOwn base w3 v3 (lt++[x])) (hg:World.grownBy W w3 v.ownBlock):YX base w3 v3 (ts++[t]):=by
 refine⟨lt++[x],hn,by simp[h2],λj y u hy hu=>?_⟩;have hold:COwn base W (.slice y.1.1 y.1.2.1 y.1.2.2) u.1/\OOwn base W (.slice y.2.1 y.2.2.1 y.2.2.2) u.2:=by
  by_cases hj:j<lt.length
  ·rw[QF hj]at hy;rw[QF (by omega)]at hu;exact h3 j y u hy hu
  ·rw[Qz (by omega)]at hy;rw[Qz (by omega)]at hu;have e1:j-lt.length=0:=(by have:=(Qo.1 hy).1;simp at this;omega);rw[e1]at hy;rw[<-h2,e1]at hu;simp only[List.getElem?_cons_zero,Qh]at hy hu;subst hy;subst hu;exact⟨hc,ho⟩
 exact⟨hold.1.tch (Tg hg) (Ja0 hold.1 h1),hold.2.tch (Tg hg) (JbF hold.2 h1)⟩
structure Jck(wj:Nat)(l0:List Held)(st0:Option Tr)(ts:List TxL)(cur:List Held)(code:Int):Prop where
 ok:∀t∈ts,TxOk wj t
 res:(code=0/\XX (dgW wj) l0 ts=.ok cur/\∃st,JZ (dgW wj) st0 ts=.ok st/\Book wj st cur)\/(∃er,code=XP er/\XX (dgW wj) l0 ts=.error er/\JZ (dgW wj) st0 ts=.error er)
theorem Jbb(er:Er):¬XP er=0:=by cases er using Er.on<;>decide
theorem Jau(dg:List UInt8->BA)(t:TxL):∀(ts:List TxL)(l l1:List Held),XX dg l ts=.ok l1->XX dg l (ts++[t])=Xw dg l1 t:=by
 intro ts
 induction ts with
 | nil=>
  intro l l1 h;simp only[XX,Except.ok.injEq]at h;subst h;simp only[List.nil_append,XX]
  cases Xw dg l t<;>rfl
 | cons x r ih=>
  intro l l1 h;simp only[XX,List.cons_append]at h ⊢
  cases hx:Xw dg l x with
  | error e=>rw[hx]at h;cases h
  | ok l2=>rw[hx]at h;exact ih l2 l1 h
theorem Jcl(dg:List UInt8->BA)(t:TxL):∀(ts:List TxL)(s s1:Option Tr),JZ dg s ts=.ok s1->JZ dg s (ts++[t])=Xj dg s1 t:=by
 intro ts
 induction ts with
 | nil=>
  intro l l1 h;simp only[JZ,Except.ok.injEq]at h;subst h;simp only[List.nil_append,JZ]
  cases Xj dg l t<;>rfl
 | cons x r ih=>
  intro l l1 h;simp only[JZ,List.cons_append]at h ⊢
  cases hx:Xj dg l x with
  | error e=>rw[hx]at h;cases h
  | ok l2=>rw[hx]at h;exact ih l2 l1 h
theorem Jck.next(hw:wj<=32){l0:List Held}{st0:Option Tr}(h:Jck wj l0 st0 ts cur 0)(t:TxL)(ht:TxOk wj t):
  (∀l',Xw (dgW wj) cur t=.ok l'->Jck wj l0 st0 (ts++[t]) l' 0)/\(∀er,Xw (dgW wj) cur t=.error er->Jck wj l0 st0 (ts++[t]) cur (XP er)):=by
 have hok:∀x∈ts++[t],TxOk wj x:=by
  intro x hx;rw[QE,Qt]at hx;rcases hx with hx|rfl
  ·exact h.ok x hx
  ·exact ht
 obtain⟨h1,st,h2,B⟩:XX (dgW wj) l0 ts=.ok cur/\∃st,JZ (dgW wj) st0 ts=.ok st/\Book wj st cur:=by
  rcases h.res with⟨_,h1,h2⟩|⟨er,he,_⟩
  ·exact⟨h1,h2⟩
  ·exact absurd he.symm (Jbb er)
 have ha:=JeR wj (dgW wj) (Jz wj hw) t ht st cur B;refine⟨λl' hl=>?_,λer he=>?_⟩
 ·rw[hl]at ha;obtain⟨st',e1,B'⟩:=ha;exact⟨hok,.inl ⟨rfl,by rw[Jau _ _ _ _ _ h1];exact hl,st',by rw[Jcl _ _ _ _ _ h2];exact e1,B'⟩⟩
 ·rw[he]at ha;exact⟨hok,.inr ⟨er,rfl,by rw[Jau _ _ _ _ _ h1];exact he,by rw[Jcl _ _ _ _ _ h2];exact ha⟩⟩
theorem JfM(dg:List UInt8->BA)(l:List Held)(t:TxL)(l':List Held)(h:Xw dg l t=.ok l'):l'.length<=l.length+t.2.length:=by
 have hs:∀(cs:List (BA×Int))(s s':List Held×Nat×Bool),Xo cs s=some s'->s'.1.length<=s.1.length:=by
  intro cs
  induction cs with
  | nil=>intro s s' h;simp only[Xo,Qh]at h;rw[h];exact Ql _
  | cons c r ih=>
   rintro⟨now,i,o⟩ s' h;simp only[Xo]at h
   cases hf:JO now c with
   | none=>rw[hf]at h;cases h
   | some k=>
    rw[hf]at h;have:=ih _ _ h;exact Qm this (List.length_eraseIdx_le _ _)
 have hr:∀(id:BA)(os:List (Nat×Nat))(i:Nat)(s s':List Held×Nat×Bool),JM id i os s=some s'->s'.1.length<=s.1.length+os.length:=by
  intro id os
  induction os with
  | nil=>intro i s s' h;simp only[JM,Qh]at h;rw[h];simp
  | cons c r ih=>
   rintro i⟨now,a,o⟩ s' h;simp only[JM]at h
   cases hf:JO now (id,(i:Int)) with
   | some k=>rw[hf]at h;cases h
   | none=>
    rw[hf]at h;have:=ih _ _ _ h;simp only[Qe,Qp,Qv]at this ⊢;omega
 unfold Xw at h
 cases h1:Xo t.1 (l,0,false) with
 | none=>rw[h1]at h;cases h
 | some q=>
  obtain⟨n1,i1,o1⟩:=q;rw[h1]at h;dsimp only at h
  cases h2:JM (dg (84::txB t)) 0 t.2 (n1,0,o1) with
  | none=>rw[h2]at h;cases h
  | some q=>
   obtain⟨n2,i2,o2⟩:=q;rw[h2]at h;dsimp only at h
   split at h
   ·cases h
   ·cases h
    have a:=hs _ _ _ h1;have b:=hr _ _ _ _ _ h2;simp only at a b;omega
theorem Ch.last_get(ch:Ch)(m:Nat)(h:ch.length=m+1):ch.last=ch[m]'(by omega):=by
 unfold Ch.last;rw[List.getLastD_eq_getLast?,List.getLast?_eq_getElem?];have e:ch.length-1=m:=by omega
 rw[e,Qd (by omega)];rfl
theorem Jg8(wj:Nat)(hw:wj<=32)(ch:Ch)(ts:List TxL)(h:∀t∈ts,TxOk wj t)(h3:ts.length<=3)(st:Option Tr):1<=(Yz (dgW wj) ch ts st).length/\(Yz (dgW wj) ch ts st).length<=1000000:=by
 have hb:(Xr ts).length<=1+ts.length*200:=by
  unfold Xr;rw[Qe,Jf];have:∀(l:List TxL),(∀t∈l,TxOk wj t)->(l.flatMap txB).length<=l.length*200:=by
   intro l
   induction l with
   | nil=>intro _;simp
   | cons x r ih=>
    intro hl;have a:=JdM wj x (hl x QM) hw x.2.length;rw[JdL]at a;have b:=ih (λy hy=>hl y (QP _ hy));rw[QG,Qe,Qp,Nat.succ_mul];omega
  have:=this ts h;omega
 have sz:∀x:BA,x.data.toList.length=x.size:=λx=>by simp only[QA];rfl
 have hh:(hdrB (ZB (dgW wj) ch (Xr ts) (JV (dgW wj) st))).length=4+3*wj:=by unfold hdrB ZB;simp only[Qe,Jf,sz,Jz wj hw,Yq (dgW wj) wj (Jz wj hw)];omega
 unfold Yz;rw[Qe,hh];omega
def Jnl{E:Nat->Addr}{wj base:Nat}(L:Led E wj base)(w:World)(xb lb:Nat)(F:Nat->Prop)(fl:Nat)(ch:Ch)(vst:Value)(states:List (List Held))(e:Ending)(w':World):Prop:=
 e=.returned (.bool true)/\∃F' ch' vst' sl' states',JL L w' xb lb F' fl ch' vst' sl' states'/\Tch (λj=>F j\/j=xb\/some j=vst.ownBlock) w w'/\(∀j,F' j->F j\/w.heap.size<=j)/\(∃r,ch'=ch++r)/\states'.length<=states.length+1/\∀l∈states',∃l0∈states,l.length<=l0.length+9
theorem JjN{L:Led E wj base}{w2 w4:World}{xb lb:Nat}{F F':Nat->Prop}{fl:Nat}{ch:Ch}{c:BA×Option Tr}{vst v4:Value}{sl:List Sl}{states:List (List Held)}{x:Sl} 
 (HS2:JL L w2 xb lb F fl ch vst sl states) (HC2:Yi w2 (.slice x.1 x.2.1 x.2.2) cur) (HB:Book wj c.2 cur) (HTW2:Tch NoB w w2) (HT3:Tch F w2 w3) (HAT:L.At w3 lb F' fl (ch++[c]))
 (R3:w3.heap[xb]? =some (.cells #[.pointer (some ⟨lb,0,none⟩),.int .i64 (wj:Int),vst,.int .i64 (fl:Int)] 35)) (S3:SOwn base w3 vst sl) (B3:∀(v:Value) l,Yi w2 v l->Yi w3 v l)
 (ho:SOwn base w4 v4 (sl++[x])) (hg:World.grownBy (w3.alloc (.cells #[.slice x.1 x.2.1 x.2.2] 43)) w4 vst.ownBlock):
  w4.heap[xb]? =some (.cells #[.pointer (some ⟨lb,0,none⟩),.int .i64 (wj:Int),vst,.int .i64 (fl:Int)] 35)/\JL L (w4.setCell ⟨xb,2,none⟩ v4) xb lb F' fl (ch++[c]) v4 (sl++[x]) (states++[cur])/\Tch (λj=>F j\/j=xb\/some j=vst.ownBlock) w (w4.setCell ⟨xb,2,none⟩ v4):=by
 have tA:=Ta NoB w3 (.cells #[.slice x.1 x.2.1 x.2.2] 43);have hxb:=(Jb R3)
 have kst:∀j,vst.ownBlock=some j->∃cur m,(w3.alloc (.cells #[.slice x.1 x.2.1 x.2.2] 43)).heap[j]? =some (.cells cur 43 m):=SOwn.kind (S3.tch tA (λ_ _ e=>e));have RA:(w3.alloc (.cells #[.slice x.1 x.2.1 x.2.2] 43)).heap[xb]? =_:=(tA.block _ hxb (λe=>e)).trans R3;have xne:¬some xb=vst.ownBlock:=λe=>by
  obtain⟨cu,m,hr⟩:=kst xb e.symm;rw[RA]at hr;simp at hr
 have R4:w4.heap[xb]? =some (.cells #[.pointer (some ⟨lb,0,none⟩),.int .i64 (wj:Int),vst,.int .i64 (fl:Int)] 35):=(hg.block _ (by simp;omega) xne).trans RA;have hset:w4.setCell ⟨xb,2,none⟩ v4=w4.setRow xb #[.pointer (some ⟨lb,0,none⟩),.int .i64 (wj:Int),v4,.int .i64 (fl:Int)]:=Qj w4 xb 2 _ _ _ v4 R4;have tS:=Ts w4 xb #[.pointer (some ⟨lb,0,none⟩),.int .i64 (wj:Int),v4,.int .i64 (fl:Int)];have hld:L.At w4 lb F' fl (ch++[c]):=by have h1:=L.keep HAT tA (λ_ e=>e.elim);refine L.keep h1 (Tg hg) (λj hj hF=>?_);obtain⟨cu,m,hr⟩:=kst j hj.symm;exact(L.kinds h1 j hF _ _ _ hr).2.1 rfl
 have hh:∀v l,Yi w3 v l->Yi (w4.setRow xb #[.pointer (some ⟨lb,0,none⟩),.int .i64 (wj:Int),v4,.int .i64 (fl:Int)]) v l:=by
  intro v l hv;have h1:=hv.tch tA (λ_ _ e=>e);have h2:=h1.tch (Tg hg) (λj hj e=>by
   obtain⟨cu,m,hr⟩:=h1.2 j hj;obtain⟨cu',m',hr'⟩:=kst j e.symm;rw[hr]at hr';simp at hr')
  exact h2.tch tS (λj hj e=>by
   obtain⟨cu,m,hr⟩:=h2.2 j hj;subst e;rw[R4]at hr;simp at hr)
 refine⟨R4,?_,?_⟩
 ·rw[hset];refine⟨Qi _ _ _ _ _ _ R4,?_,?_,HS2.low,?_,?_,?_,?_⟩
  ·exact L.keep hld tS (λj hj hF=>by subst hj;exact(L.kinds hld j hF _ _ _ R4).1 rfl)
  ·exact ho.tch tS (λj hj e=>by
    obtain⟨cu,m,hr⟩:=SOwn.kind ho j hj;subst e;rw[R4]at hr;simp at hr)
  ·intro i y l hy hl
   by_cases hi:i<sl.length
   ·rw[QF hi]at hy;rw[QF (by have:=HS2.len;omega)]at hl;exact hh _ _ (B3 _ _ (HS2.held i y l hy hl))
   ·rw[Qz (by omega)]at hy;rw[Qz (by have:=HS2.len;omega)]at hl;have e1:i-sl.length=0:=(by have:=(Qo.1 hy).1;simp at this;omega);have e2:i-states.length=0:=(by have:=(Qo.1 hl).1;simp at this;omega);rw[e1]at hy;rw[e2]at hl;simp only[List.getElem?_cons_zero,Qh]at hy hl;subst hy;subst hl;exact hh _ _ (B3 _ _ HC2)
  ·have:=HS2.len;simp only[Qe,Qp,Qv];omega
  ·have:=HS2.floor;simp only[Qe,Qp,Qv];omega
  ·intro i d l hfl hd hl
   by_cases hi:i<ch.length
   ·rw[QF hi]at hd;rw[QF (by have:=HS2.len;omega)]at hl;exact HS2.book i d l hfl hd hl
   ·rw[Qz (by omega)]at hd;rw[Qz (by have:=HS2.len;omega)]at hl;have e1:i-ch.length=0:=(by have:=(Qo.1 hd).1;simp at this;omega);have e2:i-states.length=0:=(by have:=(Qo.1 hl).1;simp at this;omega);rw[e1]at hd;rw[e2]at hl;simp only[List.getElem?_cons_zero,Qh]at hd hl;subst hd;subst hl;exact HB
 ·rw[hset];have t0:Tch (λj=>F j\/j=xb\/some j=vst.ownBlock) w w2:=HTW2.mono noE;exact(((t0.trans HT3 (λj hj=>.inl (.inl hj))).trans tA noE).trans (Tg hg) (λj hj=>.inl (.inr (.inr hj)))).trans tS (λj hj=>.inl (.inr (.inl hj)))
theorem JnC(L:Led E wj base)(hw1:1<=wj)(hw:wj<=32)(xb lb:Nat)(F:Nat->Prop)(fl:Nat)(ch:Ch)(vst:Value)(sl:List Sl)(states:List (List Held))(v:Value)(ps:List PayL)(w:World)(hF:Xm E base w)(hS:JL L w xb lb F fl ch vst sl states)(hp:JeN w v ps)(hpo:∀p∈ps,p.Ok)(hlen:∀l∈states,l.length<=800000000)(hc:ch.length+1<2 ^ 27):
  Calls prog 17 #[.pointer (some ⟨xb,0,none⟩),v] w (Jnl L w xb lb F fl ch vst states):=by
 obtain⟨a0,c0,rfl⟩:=hp.shape;obtain⟨m,hm⟩:∃m,sl.length=m+1:=⟨sl.length-1,by have:=hS.len;omega⟩
 have hsl:sl ≠ []:=by intro h;rw[h]at hm;simp at hm
 obtain⟨gs,cap,rfl,hcell⟩:=hS.st.at hsl;have q2:w.cell? ⟨xb,2,none⟩=some (.slice (some ⟨gs,0,none⟩) sl.length cap):=Ja hS.row;have qm:=hcell m (by omega);have hms:m<states.length:=by have:=hS.len;omega
 have hmc:m<ch.length:=by have:=hS.len;omega
 have H0:Hid (Yi w (.slice (sl[m]'(by omega)).1 (sl[m]'(by omega)).2.1 (sl[m]'(by omega)).2.2) states[m]):=hS.held m _ _ (Qd (by omega)) (Qd hms);have HB0:Hid (Book wj ch[m].2 states[m]):=hS.book m _ _ (by have:=hS.floor;have:=hS.len;omega) (Qd hmc) (Qd hms);have HL0:Hid (states[m].length<=800000000):=hlen _ (Qx hms);have HLAST:Hid (ch.last.2=ch[m].2):=(by rw[Ch.last_get ch m (by have:=hS.len;omega)]:ch.last.2=ch[m].2)
 have HS:Hid _:=hS;have HF:Hid _:=hF;have HP:Hid _:=hp;have HPO:Hid _:=hpo;have HLEN:Hid _:=hlen;have HC:Hid _:=hc;have HMS:Hid _:=hms;generalize hl0:states[m]=l0 at *;generalize hst0:ch[m].2=st0 at *;generalize hx0:(sl[m]'(by omega))=x0 at *;obtain⟨xa,xn,xc⟩:=x0;simp only at qm H0;have HL0E:Hid (states[m]? =some l0):=(by rw[<-hl0];exact Qd hms:states[m]? =some l0)
 rw[hm]at q2;have hmi:((m+1:Nat):Int)-1=(m:Int):=by omega
 have hmi2:(m:Int)<((m+1:Nat):Int):=by omega
 have hm32:m<4294967296:=by have:=HS.o.len;have:=HC.o;omega
 have hwm:IntKind.i64.wrap (m:Int)=(m:Int):=by simp[IntKind.wrap,IntKind.bits,IntKind.signed];omega
 have hwm2:wrap64 (m:Int)=(m:Int):=by unfold wrap64;omega
 clear hS hF hp hpo hlen hc hcell hl0 hst0 hx0 hms hmc hsl;go_enter func17,ntmps17;go_wp2;go_region;go_wp2;have HSH:Hid (JL L w.drew xb lb F fl ch (.slice (some ⟨gs,0,none⟩) sl.length cap) sl states):=HS.o.next (Td _ w 1);have HM:Hid _:=hm;clear hmi hmi2 hm32 hwm hwm2 q2 qm hm;go_loopw [5,6,7,8] (λvn vt vc i wr=>∃(k:Nat)(ts:List TxL)(cur:List Held)(code:Int),k<=3/\i=.int .i64 k/\vc=.int .i64 code/\Hid (YX w.heap.size wr vt ts)/\Hid (ts.length=k)/\Hid (Yi wr vn cur)/\Hid (Jck wj l0 st0 ts cur code)/\Hid (cur.length<=l0.length+3*k)/\Hid (Tch NoB w wr)) (λ_ _ _ i _=>3-(intOf i).toNat)
 case atStart=>exact⟨0,[],l0,0,by omega,rfl,rfl,⟨[],⟨rfl,.inl ⟨rfl,rfl⟩⟩,rfl,λj x t h=>by simp at h⟩,rfl,H0.o.tch (Td NoB w 1) (λ_ _ e=>e),⟨λt ht=>(QD ht).elim,.inl ⟨rfl,rfl,st0,rfl,HB0.o⟩⟩,(by omega:l0.length<=l0.length+3*0),Td _ w 1⟩
 case round=>
  obtain⟨k,ts,cur,code,hk,rfl,rfl,HTX,HTL,HCU,HPY,HCL,HT⟩:=hrel;go_upto_region 5 with fail;go_cut [37] (λvb wx=>∃b:Bool,vb=.bool b/\wx=wr/\(b=true->k<ps.length/\k<3/\code=0))
  case first=>
   by_cases h1:k<ps.length
   ·have h1i:(k:Int)<(ps.length:Int):=by omega
    by_cases h2:k<3
    ·have h2i:(k:Int)<3:=(by omega);go_wp2;go_meet;exact⟨_,rfl,rfl,λh=>⟨h1,h2,by simpa using h⟩⟩
    ·have h2i:¬(k:Int)<3:=(by omega);go_wp2;go_meet;exact⟨false,rfl,rfl,λh=>by cases h⟩
   ·have h1i:¬(k:Int)<(ps.length:Int):=(by omega);go_wp2;go_meet;exact⟨false,rfl,rfl,λh=>by cases h⟩
  case rest=>
  obtain⟨b,rfl,rfl,hb⟩:=hcut;obtain⟨wA,hwA⟩:∃wA,wA=wc:=⟨wc,rfl⟩
  subst hwA
  cases b with
  | true=>
   obtain⟨hkp,hk3,rfl⟩:=hb rfl;clear hb
   rcases HP.o with⟨_,e2⟩|⟨g0,o0,cc,e,hg0,hcell⟩
   ·rw[e2]at hkp;simp at hkp
   simp only[Qy,true_and]at e;obtain⟨rfl,rfl⟩:=e;obtain⟨va,hnum,p0,p1,p2,p3,p4,p5⟩:=hcell k hkp;have HPK:Hid (PayL.Ok ps[k]):=HPO.o _ (Qx hkp);have cl:∀o,wA.cell? ⟨g0,o,none⟩=w.cell? ⟨g0,o,none⟩:=λo=>HT.o.cell (p:=⟨g0,o,none⟩) hg0 (λe=>e);have q0:=(cl _).trans p0;have q1:=(cl _).trans p1;have q2:=(cl _).trans p2;have q3:=(cl _).trans p3;have q4:=(cl _).trans p4;have q5:=(cl _).trans p5;have HNU:Hid (ZG wA va ps[k].amounts):=hnum.tch HT.o;have HSA:Hid (JL L wA xb lb F fl ch (.slice (some ⟨gs,0,none⟩) sl.length cap) sl states):=HS.o.next HT.o;have HFA:Hid (Xm E base wA):=HF.o.tch HT.o noE;have HCO:Hid (∀x∈cur,Jk wj x.1/\Jy x.2):=by
    rcases HPY.o.res with⟨_,_,st,_,B⟩|⟨er,he,_⟩
    ·exact B.ok
    ·exact absurd he.symm (Jbb er)
   have hxw:wA.cell? ⟨xb,1,none⟩=some (.int .i64 (wj:Int)):=Ja HSA.o.row;have HTXC:Hid (Calls _ _ _ wA _):=k_tx E wj hw1 hw xb u5 cur ps[k] va wA HFA.o.env hxw HCU.o.1 (by have:=HCL.o;have:=HL0.o;omega) HCO.o HPK.o HNU.o;have hki:(k:Int)<(ps.length:Int):=(by omega);obtain⟨na,nc,rfl⟩:=hnum.shape;clear hcell p0 p1 p2 p3 p4 p5 cl hnum HNU hxw;generalize ps[k]=p at *;obtain⟨pf,pm,pam,pow,pwi,pot⟩:=p;simp only at q0 q1 q2 q3 q4 q5 HTXC;obtain⟨ca,ccp,rfl⟩:=HCU.o.1.shape;obtain⟨lt,hto,hll,hin⟩:=HTX.o;obtain⟨ta,tc,rfl⟩:=hto.shape;have HTO:Hid (TOwn w.heap.size wA (.slice ta lt.length tc) lt):=hto;have HIN:Hid _:=hin;have HLL:Hid _:=hll;clear hto hin hll HTX;go_upto_region 8 with(go_at_call 43;refine HTXC.o.mono ?_;rintro _ w1⟨ht1,t,v1,v2,rfl,htk,hco,hou⟩;have HT1:Hid (Tch _ wA w1):=ht1;have HTK:Hid (TxOk wj t):=htk;have HCI:Hid (COwn wA.heap.size w1 _ _):=hco;have HOU:Hid (OOwn wA.heap.size w1 _ _):=hou;obtain⟨i1,n1,m1,hv1⟩:=hco.shape3;obtain⟨i2,n2,m2,hv2⟩:=hou.shape3;subst hv1;subst hv2;clear ht1 htk hco hou);have T2:Hid (Tch NoB wA (w1.alloc (.cells #[.slice i1 n1 m1,.slice i2 n2 m2] 98))):=HT1.o.trans (Ta NoB w1 _) noE;have T3:Hid (Tch NoB wA ((w1.alloc (.cells #[.slice i1 n1 m1,.slice i2 n2 m2] 98)).alloc (.cells #[.slice i1 n1 m1,.slice i2 n2 m2] 98))):=T2.out.trans (Ta NoB _ _) noE;have TW:Hid (Tch NoB w1 ((w1.alloc (.cells #[.slice i1 n1 m1,.slice i2 n2 m2] 98)).alloc (.cells #[.slice i1 n1 m1,.slice i2 n2 m2] 98))):=(Ta NoB w1 _).trans (Ta NoB _ _) noE;have HNT:Hid (Xq (w1.heap.size+1+1) ((w1.alloc (.cells #[.slice i1 n1 m1,.slice i2 n2 m2] 98)).alloc (.cells #[.slice i1 n1 m1,.slice i2 n2 m2] 98)) (.slice (some ⟨w1.heap.size+1,0,none⟩) 1 1) [((i1,n1,m1),(i2,n2,m2))]):=(by have:=JnM (w1.alloc (.cells #[.slice i1 n1 m1,.slice i2 n2 m2] 98)) ((i1,n1,m1),(i2,n2,m2));have e:(w1.alloc (.cells #[.slice i1 n1 m1,.slice i2 n2 m2] 98)).heap.size=w1.heap.size+1:=(by simp);rw[e]at this;exact this);have HTT:Hid (TOwn w.heap.size ((w1.alloc (.cells #[.slice i1 n1 m1,.slice i2 n2 m2] 98)).alloc (.cells #[.slice i1 n1 m1,.slice i2 n2 m2] 98)) (.slice ta lt.length tc) lt):=HTO.o.tch T3.out (λ_ _ h=>h);have HPUSH:Hid (∀w3 v3,TOwn w.heap.size w3 v3 (lt++[((i1,n1,m1),(i2,n2,m2))])->World.grownBy ((w1.alloc (.cells #[.slice i1 n1 m1,.slice i2 n2 m2] 98)).alloc (.cells #[.slice i1 n1 m1,.slice i2 n2 m2] 98)) w3 (Value.slice ta lt.length tc).ownBlock->
     YX w.heap.size w3 v3 (ts++[t])/\COwn w.heap.size w3 (.slice i1 n1 m1) t.1/\OOwn w.heap.size w3 (.slice i2 n2 m2) t.2/\Tch (λk=>some k=(Value.slice ta lt.length tc).ownBlock) ((w1.alloc (.cells #[.slice i1 n1 m1,.slice i2 n2 m2] 98)).alloc (.cells #[.slice i1 n1 m1,.slice i2 n2 m2] 98)) w3/\w3.heap[w1.heap.size]? =some (.cells #[.slice i1 n1 m1,.slice i2 n2 m2] 98)):=by
    intro w3 v3 hn hg;have hsz:=HT.o.size;have hc1:COwn w.heap.size ((w1.alloc (.cells #[.slice i1 n1 m1,.slice i2 n2 m2] 98)).alloc (.cells #[.slice i1 n1 m1,.slice i2 n2 m2] 98)) (.slice i1 n1 m1) t.1:=(HCI.o.low hsz).tch TW.out (λ_ _ e=>e);have ho1:OOwn w.heap.size ((w1.alloc (.cells #[.slice i1 n1 m1,.slice i2 n2 m2] 98)).alloc (.cells #[.slice i1 n1 m1,.slice i2 n2 m2] 98)) (.slice i2 n2 m2) t.2:=(HOU.o.low hsz).tch TW.out (λ_ _ e=>e);have hold:∀(j:Nat) x t,lt[j]? =some x->ts[j]? =some t->COwn w.heap.size ((w1.alloc (.cells #[.slice i1 n1 m1,.slice i2 n2 m2] 98)).alloc (.cells #[.slice i1 n1 m1,.slice i2 n2 m2] 98)) (.slice x.1.1 x.1.2.1 x.1.2.2) t.1/\OOwn w.heap.size ((w1.alloc (.cells #[.slice i1 n1 m1,.slice i2 n2 m2] 98)).alloc (.cells #[.slice i1 n1 m1,.slice i2 n2 m2] 98)) (.slice x.2.1 x.2.2.1 x.2.2.2) t.2:=λj x t hx ht=>⟨(HIN.o j x t hx ht).1.tch T3.out (λ_ _ e=>e),(HIN.o j x t hx ht).2.tch T3.out (λ_ _ e=>e)⟩
    refine⟨YX.push (x:=((i1,n1,m1),(i2,n2,m2))) HTT.o HLL.o hold hc1 ho1 hn hg,hc1.tch (Tg hg) (Ja0 hc1 HTT.o),ho1.tch (Tg hg) (JbF ho1 HTT.o),Tg hg,?_⟩;refine(hg.block _ (by simp;omega) (λe=>?_)).trans (heap_alloc2_old _ _ _);have h1:=(HTO.o.own _ e.symm).2;have h2:=HT1.o.size;omega
   go_cut [6] (λv3 w3=>Hid (YX w.heap.size w3 v3 (ts++[t]))/\Hid (COwn w.heap.size w3 (.slice i1 n1 m1) t.1)/\Hid (OOwn w.heap.size w3 (.slice i2 n2 m2) t.2)/\Hid (Tch (λk=>some k=(Value.slice ta lt.length tc).ownBlock) ((w1.alloc (.cells #[.slice i1 n1 m1,.slice i2 n2 m2] 98)).alloc (.cells #[.slice i1 n1 m1,.slice i2 n2 m2] 98)) w3)/\Hid (w3.heap[w1.heap.size]? =some (.cells #[.slice i1 n1 m1,.slice i2 n2 m2] 98)))
   case first=>go_wp2_with (at_builtin;refine Jcj rfl _ _ rfl rfl HTT.o _ _ [((i1,n1,m1),(i2,n2,m2))] rfl HNT.o (by have:=HLL.o;have:=HTL.o;simp;omega) (by have:=HT.o.size;have:=HT1.o.size;simp;omega) ?_;intro v3 w3 hown3 hg3;obtain⟨hpu,hc3,ho3,ht3,hr3⟩:=HPUSH.o w3 v3 hown3 hg3;have HP3:Hid (YX _ w3 v3 _):=hpu;have HC3:Hid (COwn _ w3 _ _):=hc3;have HO3:Hid (OOwn _ w3 _ _):=ho3;have HT3:Hid (Tch _ _ w3):=ht3;have HR3:Hid (_=_):=hr3;clear hown3 hg3 hpu hc3 ho3 ht3 hr3);go_meet;exact⟨HP3,HC3,HO3,HT3,HR3⟩
   case rest=>
   obtain⟨HP3,HC3,HO3,HT3,HR3⟩:=hcut;obtain⟨wB,hwB⟩:∃wB,wB=wc:=⟨wc,rfl⟩
   subst hwB;have HCB:Hid (Yi wB (.slice ca cur.length ccp) cur):=(HCU.o.tch T3.out (λ_ _ e=>e)).tch HT3.o (JdV (HCU.o.tch T3.out (λ_ _ e=>e)) HTT.o);have HTB:Hid (Tch NoB w wB):=(HT.o.trans T3.out noE).trans HT3.o (λj hj=>.inr (HTT.o.own j hj.symm).1);have HSB:Hid (JL L wB xb lb F fl ch (.slice (some ⟨gs,0,none⟩) sl.length cap) sl states):=HS.o.next HTB.o;have HFB:Hid (Xm E base wB):=HF.o.tch HTB.o noE;have HAC:Hid (Calls _ _ _ wB _):=Jjg E wj hw1 hw xb (.slice ca cur.length ccp) cur wB.heap.size (.slice i1 n1 m1) (.slice i2 n2 m2) t wB HFB.o.env (Ja HSB.o.row) HCB.o.1 HTK.o HC3.o.at HO3.o.at (by have:=HCL.o;have:=HL0.o;omega) (λx hx=>(HCO.o x hx).2);have e0:wB.cell? ⟨w1.heap.size,0,none⟩=some (.slice i1 n1 m1):=Ja HR3.o;have e1:wB.cell? ⟨w1.heap.size,1,none⟩=some (.slice i2 n2 m2):=Ja HR3.o;have HNX:=Jck.next hw HPY.o t HTK.o;have HN1:Hid _:=HNX;clear HNX HCU HTO HIN HNT HTT HPUSH T2 T3 TW HT3 HSA HFA HTXC q0 q1 q2 q3 q4 q5
   cases hap:Xw (dgW wj) cur t with
   | error er=>
    have HAE:Hid (Calls prog 44 #[.pointer (some ⟨xb,0,none⟩),.slice ca cur.length ccp,.agg #[.slice i1 n1 m1,.slice i2 n2 m2]] wB λe w'=>Tch NoB wB w'/\e=.returned (.tuple #[.slice ca cur.length ccp,.int .i64 (XP er)])):=HAC.o.mono (by rintro e w'⟨h1,h2⟩;rw[hap]at h2;exact⟨h1,h2⟩);have HPE:Hid (Jck wj l0 st0 (ts++[t]) cur (XP er)):=HN1.o.2 er hap;clear HAC hap HN1;go_wp2_with (go_at_call 44;refine HAE.o.mono ?_;rintro _ w4⟨ht4,rfl⟩;have HT4:Hid (Tch _ wB w4):=ht4;clear ht4);go_roundw
    case rel=>exact⟨k+1,ts++[t],cur,XP er,by omega,by go_num,rfl,HP3.o.tch HT4.o,(by have:=HTL.o;simp;omega:(ts++[t]).length=k+1),HCB.o.tch HT4.o (λ_ _ e=>e),HPE.o,(by have:=HCL.o;omega:cur.length<=l0.length+3*(k+1)),HTB.o.trans HT4.o noE⟩
    case measure=>simp[intOf];omega
   | ok l'=>
    have HAE:Hid (Calls prog 44 #[.pointer (some ⟨xb,0,none⟩),.slice ca cur.length ccp,.agg #[.slice i1 n1 m1,.slice i2 n2 m2]] wB λe w'=>Tch NoB wB w'/\∃v',e=.returned (.tuple #[v',.int .i64 0])/\Yi w' v' l'/\∀j,v'.ownBlock=some j->wB.heap.size<=j):=HAC.o.mono (by rintro e w'⟨h1,h2⟩;rw[hap]at h2;exact⟨h1,h2⟩);have HPE:Hid (Jck wj l0 st0 (ts++[t]) l' 0):=HN1.o.1 l' hap;have HLE:Hid (l'.length<=cur.length+3):=(by have:=JfM _ _ _ _ hap;have:=HTK.o.made;omega:l'.length<=cur.length+3)
    clear HAC hap HN1;go_wp2_with (go_at_call 44;refine HAE.o.mono ?_;rintro _ w4⟨ht4,v4,rfl,hh4,hn4⟩;have HN4:Hid (∀j,v4.ownBlock=some j->wB.heap.size<=j):=hn4;clear hn4;have HT4:Hid (Tch _ wB w4):=ht4;have HH4:Hid (Yi w4 v4 l'):=hh4;obtain⟨z1,z2,hv4⟩:=hh4.1.shape;obtain⟨z3,hz3⟩:∃z3,z3=l'.length:=⟨_,rfl⟩;rw[<-hz3]at hv4;subst hv4;clear ht4 hh4 hz3);go_roundw
    case rel=>exact⟨k+1,ts++[t],l',0,by omega,by go_num,rfl,HP3.o.tch HT4.o,(by have:=HTL.o;simp;omega:(ts++[t]).length=k+1),HH4.o,HPE.o,(by have:=HCL.o;have:=HLE.o;omega:l'.length<=l0.length+3*(k+1)),HTB.o.trans HT4.o noE⟩
    case measure=>simp[intOf];omega
  | false=>
   clear hb;have HSA:Hid (JL L wA xb lb F fl ch (.slice (some ⟨gs,0,none⟩) sl.length cap) sl states):=HS.o.next HT.o;have HFA:Hid (Xm E base wA):=HF.o.tch HT.o noE;have c0:wA.cell? ⟨xb,0,none⟩=some (.pointer (some ⟨lb,0,none⟩)):=Ja HSA.o.row;have HSE:Hid (Calls _ _ _ wA _):=L.seals u6 ts HSA.o.led HFA.o HTX.o.is HPY.o.ok (by have:=HTL.o;omega) (by have:=HC.o;omega);have HSQ:Hid (JgL (dgW wj) wj ch ts=match JZ (dgW wj) st0 ts with | .error e=>.error e | .ok st=>.ok (Yz (dgW wj) ch ts st)):=by have:=Jix (dgW wj) wj (Jz wj hw) ch (by have:=HC.o;omega) ts HPY.o.ok (by have:=HTL.o;omega);rw[HLAST.o]at this;exact this
   obtain⟨ta,tn,tc,hu6⟩:∃a n c,u6=.slice a n c:=(by obtain⟨lt,h1,_⟩:=HTX.o;exact h1.shape3);obtain⟨ca,ccp,hu5⟩:=HCU.o.1.shape;subst hu6;subst hu5
   rcases HPY.o.res with⟨rfl,_,st,hap,B⟩|⟨er,rfl,_,hap⟩
   ·have hc32:ch.length<2 ^ 32:=(by have:=HC.o;omega);have ht3:ts.length<=3:=(by have:=HTL.o;omega);have HBT:Hid (YQ (dgW wj) wj ch (Yz (dgW wj) ch ts st)=.ok (ch++[(⟨(hdrB (ZB (dgW wj) ch (Xr ts) (JV (dgW wj) st))).toArray⟩,st)])):=JfR (dgW wj) wj (Jz wj hw) ch hc32 ts HPY.o.ok ht3 st (by rw[HLAST.o];exact hap);have HSN:Hid (Calls prog 18 #[.pointer (some ⟨lb,0,none⟩),.slice ta tn tc] wA λe w'=>Tch NoB wA w'/\e=.returned (.tuple #[.string ⟨(Yz (dgW wj) ch ts st).toArray⟩,.int .i64 0])):=HSE.o.mono (by rintro e w'⟨h1,h2⟩;rw[HSQ.o,hap]at h2;exact⟨h1,h2⟩);have HBL:Hid (1<=(Yz (dgW wj) ch ts st).length/\(Yz (dgW wj) ch ts st).length<=1000000):=Jg8 wj hw ch ts HPY.o.ok ht3 st;have HBK:Hid (Book wj st cur):=B;clear HSE HSQ hap HPY hc32 ht3 B;generalize hBB:Yz (dgW wj) ch ts st=bb at *;generalize hHH:(⟨(hdrB (ZB (dgW wj) ch (Xr ts) (JV (dgW wj) st))).toArray⟩:BA)=hh at *;clear hBB hHH;obtain⟨S,hS⟩:∃S:BA,S=⟨bb.toArray⟩:=⟨_,rfl⟩
    have HSD:Hid (S.data.toList=bb/\S.size<=1000000):=⟨by rw[hS],by rw[hS];have:=HBL.o.2;show bb.toArray.size<=1000000;simpa using this⟩
    have hSe:S.toList.isEmpty=false:=by
     rw[ByteArray.toList_eq,HSD.o.1];have:=HBL.o.1
     cases bb with
     | nil=>simp at this
     | cons _ _=>rfl
    rw[<-hS]at HSN;clear hS;go_upto_region 15 with(go_at_call 18;refine HSN.o.mono ?_;rintro _ w2⟨ht2,rfl⟩;have HT2:Hid (Tch _ wA w2):=ht2;clear ht2);have HS2:Hid (JL L w2 xb lb F fl ch (.slice (some ⟨gs,0,none⟩) sl.length cap) sl states):=HSA.o.next HT2.o;have HF2:Hid (Xm E base w2):=HFA.o.tch HT2.o noE;have HC2:Hid (Yi w2 (.slice ca cur.length ccp) cur):=HCU.o.tch HT2.o (λ_ _ e=>e);have HTW2:Hid (Tch NoB w w2):=HT.o.trans HT2.o noE;have c2:w2.cell? ⟨xb,0,none⟩=some (.pointer (some ⟨lb,0,none⟩)):=Ja HS2.o.row;have HSU:Hid (Calls prog 19 #[.pointer (some ⟨lb,0,none⟩),.string S] w2 λe w'=>Tch F w2 w'/\∃F':Nat->Prop,(∀j,F' j->F j\/w2.heap.size<=j)/\e=.returned (.int .i64 0)/\L.At w' lb F' fl (ch++[(hh,st)])):=(L.submits S HS2.o.led HF2.o HSD.o.2 (by have:=HC.o;omega)).mono (by
     rintro e w'⟨h1,F',h2,h3⟩;rw[HSD.o.1,HBT.o]at h3;exact⟨h1,F',h2,h3⟩)
    clear HSN HT2 HSA HFA c0 hSe;go_upto_region 16 with(go_at_call 19;refine HSU.o.mono ?_;rintro _ w3⟨ht3,F',hF',rfl,hat3⟩;have HT3:Hid (Tch F w2 w3):=ht3;have HFF:Hid (∀j,F' j->F j\/w2.heap.size<=j):=hF';have HAT:Hid (L.At w3 lb F' fl _):=hat3;clear ht3 hF' hat3);have HKX:Hid (∀j cur T m,w2.heap[j]? =some (.cells cur T m)->(T=35\/T=43\/T=87)->¬F j):=λj cur T m hr hT hj=>by
     obtain⟨k1,k2,k3⟩:=L.kinds HS2.o.led j hj cur T m hr
     rcases hT with h|h|h
     ·exact k1 h
     ·exact k2 h
     ·exact k3 h
    have HST:Hid (∀j,(Value.slice (some ⟨gs,0,none⟩) sl.length cap).ownBlock=some j->∃cur m,w2.heap[j]? =some (.cells cur 43 m)):=λj hj=>SOwn.kind HS2.o.st j hj;have R3:Hid (w3.heap[xb]? =some (.cells #[.pointer (some ⟨lb,0,none⟩),.int .i64 (wj:Int),.slice (some ⟨gs,0,none⟩) sl.length cap,.int .i64 (fl:Int)] 35)):=(HT3.o.block _ (Jb HS2.o.row) (HKX.o xb _ _ _ HS2.o.row (.inl rfl))).trans HS2.o.row;have S3:Hid (SOwn base w3 (.slice (some ⟨gs,0,none⟩) sl.length cap) sl):=HS2.o.st.tch HT3.o (λj hj=>by obtain⟨c,m,hr⟩:=HST.o j hj;exact HKX.o j c _ m hr (.inr (.inl rfl)));have B3:Hid (∀(v:Value) l,Yi w2 v l->Yi w3 v l):=λv l hv=>hv.tch HT3.o (λj hj=>by obtain⟨c,m,hr⟩:=hv.2 j hj;exact HKX.o j c _ m hr (.inr (.inr rfl)));have t3:w3.cell? ⟨xb,2,none⟩=some (.slice (some ⟨gs,0,none⟩) sl.length cap):=Ja R3.o;have HEND:Hid (∀w4 v4,SOwn base w4 v4 (sl++[(ca,cur.length,ccp)])->World.grownBy (w3.alloc (.cells #[.slice ca cur.length ccp] 43)) w4 (Value.slice (some ⟨gs,0,none⟩) sl.length cap).ownBlock->
      w4.heap[xb]? =some (.cells #[.pointer (some ⟨lb,0,none⟩),.int .i64 (wj:Int),.slice (some ⟨gs,0,none⟩) sl.length cap,.int .i64 (fl:Int)] 35)/\JL L (w4.setCell ⟨xb,2,none⟩ v4) xb lb F' fl (ch++[(hh,st)]) v4 (sl++[(ca,cur.length,ccp)]) (states++[cur])/\Tch (λj=>F j\/j=xb\/some j=(Value.slice (some ⟨gs,0,none⟩) sl.length cap).ownBlock) w (w4.setCell ⟨xb,2,none⟩ v4)):=by
     intro w4 v4 ho hg;exact JjN HS2.o HC2.o HBK.o HTW2.o HT3.o HAT.o R3.o S3.out B3.out ho hg
    have HSL:Hid (SOwn base (w3.alloc (.cells #[.slice ca cur.length ccp] 43)) (.slice (some ⟨gs,0,none⟩) sl.length cap) sl):=S3.out.tch (Ta NoB w3 _) (λ_ _ e=>e);have HCN:Hid ((w3.alloc (.cells #[.slice ca cur.length ccp] 43)).cell? ⟨w3.heap.size,0,none⟩=some (.slice ca cur.length ccp)):=Ja (Qf _ _);have HBW:Hid (base<=w3.heap.size/\sl.length<=10000000000):=⟨by have:=HS2.o.low;have:=(Jb R3.o);omega,by have:=HS.o.len;have:=HC.o;omega⟩
    go_cut [] (λwx=>∃g4 cap4,Hid (JL L wx xb lb F' fl (ch++[(hh,st)]) (.slice (some ⟨g4,0,none⟩) (m+2) cap4) (sl++[(ca,cur.length,ccp)]) (states++[cur]))/\Hid (Tch (λj=>F j\/j=xb\/some j=(Value.slice (some ⟨gs,0,none⟩) sl.length cap).ownBlock) w wx))
    case first=>go_wp2_with (at_builtin;(refine Jci rfl _ _ rfl rfl HSL.o w3.heap.size (ca,cur.length,ccp) rfl HCN.o HBW.o.2 (Qm HBW.o.1 (Ta NoB w3 _).size) ?_);intro v4 w4 hown4 hg4;obtain⟨g4,cap4,hv4,_⟩:=hown4.at (by simp);have hl4:(sl++[(ca,cur.length,ccp)]).length=m+2:=(by simp[HM.o]);rw[hl4]at hv4;subst hv4;obtain⟨hr4,hs4,ht4⟩:=HEND.o w4 _ hown4 hg4;have x2:w4.cell? ⟨xb,2,none⟩=some (.slice (some ⟨gs,0,none⟩) sl.length cap):=Ja hr4;have x3:w4.frozen? ⟨xb,2,none⟩=false:=Qg _ _ _ _ _ hr4;have HS4:Hid (JL L _ _ _ _ _ _ _ _ _):=hs4;have HT4:Hid (Tch _ w _):=ht4;clear hown4 hg4 hr4 hs4 ht4 hl4);go_meet;exact⟨g4,cap4,HS4,HT4⟩
    case rest=>
    obtain⟨g4,cap4,HS4,HT4⟩:=hcut;obtain⟨wD,hwD⟩:∃wD,wD=wc:=⟨wc,rfl⟩
    subst hwD;have HFD:Hid (Xm E base wD):=HF.o.tch HT4.o (λj hj=>by
     rcases hj with h|h|h
     ·exact(L.own HS.o.led j h).1
     ·rw[h];exact HS.o.low
     ·exact(HS.o.st.own j h.symm).1)
    have c4:wD.cell? ⟨xb,0,none⟩=some (.pointer (some ⟨lb,0,none⟩)):=Ja HS4.o.row;have HLC:Hid (((ch++[(hh,st)]).length:Int)-1=(m:Int)+1):=(by have:=HS.o.len;have:=HM.o;simp;omega:((ch++[(hh,st)]).length:Int)-1=(m:Int)+1)
    have HTIP:Hid (Calls prog 15 #[.pointer (some ⟨lb,0,none⟩)] wD λe w'=>e=.returned (.int .i64 ((m:Int)+1))/\Tch NoB wD w'):=(L.tip HS4.o.led HFD.o).mono (by rintro e w'⟨h1,h2⟩;rw[HLC.o]at h1;exact⟨h1,h2⟩);have hm32:m<4294967296:=(by have:=HS.o.len;have:=HC.o;have:=HM.o;omega);have hw1':wrap64 ((m:Int)+1)=(m:Int)+1:=(by unfold wrap64;omega);have hw2':IntKind.i64.wrap ((m:Int)+1)=(m:Int)+1:=(by simp[IntKind.wrap,IntKind.bits,IntKind.signed];omega);have hm2:((m+2:Nat):Int)-1=(m:Int)+1:=(by omega);clear HSU HEND HSL HCN HBW t3 c2;go_wp2_with (go_at_call 15;refine HTIP.o.mono ?_;rintro _ w6⟨rfl,ht6⟩;have HT6:Hid (Tch _ wD w6):=ht6;have y2:w6.cell? ⟨xb,2,none⟩=some (.slice (some ⟨g4,0,none⟩) (m+2) cap4):=Ja (HS4.o.next ht6).row;clear ht6);go_ret;have hbeq:((m:Int)+1 == (m:Int)+2-1)=true:=(by rw[beq_iff_eq];omega);refine⟨?_,F',ch++[(hh,st)],_,_,states++[cur],HS4.o.next HT6.o,HT4.o.trans HT6.o noE,λj hj=>?_,⟨_,rfl⟩,by simp,λl hl=>?_⟩
    ·exact congrArg (λb=>Ending.returned (Value.bool b)) hbeq
    ·rcases HFF.o j hj with h|h
     ·exact .inl h
     ·exact .inr (Qm HTW2.o.size h)
    ·rw[QE,Qt]at hl
     rcases hl with hl|rfl
     ·exact⟨l,hl,by omega⟩
     ·exact⟨l0,QS HL0E.o,by have:=HCL.o;omega⟩
   ·have HSN:Hid (Calls prog 18 #[.pointer (some ⟨lb,0,none⟩),.slice ta tn tc] wA λe w'=>Tch NoB wA w'/\e=.returned (.tuple #[.string ⟨#[]⟩,.int .i64 (XP er)])):=HSE.o.mono (by rintro e w'⟨h1,h2⟩;rw[HSQ.o,hap]at h2;exact⟨h1,h2⟩);have hne:=Jbb er;generalize XP er=code at *;have hnb:(code != 0)=true:=(by simp[hne]);have hnb2:(code == 0)=false:=(by simp[hne]);have hnb3:(code != code)=false:=(by simp);clear HSE HSQ hap HPY;go_wp2_with (go_at_call 18;refine HSN.o.mono ?_;rintro _ w2⟨ht2,rfl⟩;have HT2:Hid (Tch _ wA w2):=ht2;clear ht2);go_ret;exact⟨rfl,F,ch,_,sl,states,HSA.o.next HT2.o,(HT.o.trans HT2.o noE).mono noE,λj hj=>.inl hj,⟨[],(QC _).symm⟩,by omega,λl hl=>⟨l,hl,by omega⟩⟩
