import Derived.Test.YtighkdnooglfjaaGreatDoorOxOgA
import Derived.Test.YtighkdnooglfjaaGreatDoorOxStA
namespace Go.Proofs.YtighkdnooglfjaaGreatDoor
open Go.RowKit

structure Yq (wd base pn:Nat) (w:World) (F:Nat->Prop) (fl:Nat) (ch:Ch) (lg:List UInt8) (cb r:Nat) (bs:List BV) (lv:Value):Prop where
 row:Ju w cb wd fl r bs lv
 log:JW base w lv lg
 len:bs.length=ch.length
 pos:fl<ch.length
 most:ch.length<=134217728
 short:lg.length<=1000100 * ch.length+100 * pn
 few:pn<=134217728
 hdr:∀(i:Nat) b c,bs[i]? =some b->ch[i]? =some c->b.1=c.1/\b.1.size<=1000
 st:∀(i:Nat) b c,bs[i]? =some b->ch[i]? =some c->fl<=i->b.2.1=wd/\StAt (dgW wd) F w b.2.2 c.2/\StOk wd c.2
 gone:∀(i:Nat) b,bs[i]? =some b->i<fl->b.2=(0,none)
 ownC:F cb
 ownR:F r
 ownG:∀k,lv.ownBlock=some k->F k
 low:∀j,F j->base<=j/\j<w.heap.size
 kind:∀j,F j->∀cur T m,w.heap[j]? =some (.cells cur T m)->Jg9 T
theorem Yq.keep {wd base pn:Nat} {w w':World} {F S:Nat->Prop} {fl:Nat} {ch:Ch} {lg:List UInt8} {cb r:Nat} {bs:List BV} {lv:Value} (h:Yq wd base pn w F fl ch lg cb r bs lv) (k:Tch S w w') (hs:∀j,S j->¬F j):Yq wd base pn w' F fl ch lg cb r bs lv where
 row:=h.row.tch k (λe=>hs _ e h.ownC) (λe=>hs _ e h.ownR)
 log:=h.log.tch k (λj hj e=>hs _ e (h.ownG j hj))
 len:=h.len
 pos:=h.pos
 most:=h.most
 short:=h.short
 few:=h.few
 hdr:=h.hdr
 st:=λi b c h1 h2 h3=>⟨(h.st i b c h1 h2 h3).1,(h.st i b c h1 h2 h3).2.1.tch k hs,(h.st i b c h1 h2 h3).2.2⟩
 gone:=h.gone
 ownC:=h.ownC
 ownR:=h.ownR
 ownG:=h.ownG
 low:=λj hj=>⟨(h.low j hj).1,Qk (h.low j hj).2 k.size⟩
 kind:=λj hj cur T m hr=>h.kind j hj cur T m ((k.block j (h.low j hj).2 (λe=>hs j e hj)).symm.trans hr)
theorem Yq.last {wd base pn:Nat} {w:World} {F:Nat->Prop} {fl:Nat} {ch:Ch} {lg:List UInt8} {cb r:Nat} {bs:List BV} {lv:Value} (h:Yq wd base pn w F fl ch lg cb r bs lv):
  ∃m bh q st,ch.length=m+1/\bs.length=m+1/\bs[m]? =some (bh,wd,q)/\ch[m]? =some (bh,st)/\bh.size<=1000/\StAt (dgW wd) F w q st/\StOk wd st/\ch.last=(bh,st):=by
 have hp:=h.pos
 obtain ⟨m,hm⟩:∃m,ch.length=m+1:=⟨ch.length - 1,by omega⟩
 have hbm:bs.length=m+1:=by rw [h.len,hm]
 have hb:bs[m]? =some (bs[m]'(by omega)):=Qd (by omega)
 have hc:ch[m]? =some (ch[m]'(by omega)):=Qd (by omega)
 generalize bs[m]'(by omega)=b at hb
 obtain ⟨e1,e2⟩:=h.hdr m _ _ hb hc
 obtain ⟨e3,e4,e5⟩:=h.st m _ _ hb hc (by omega)
 have hlast:ch.last=ch[m]'(by omega):=by
  unfold Ch.last
  rw [List.getLastD_eq_getLast?,List.getLast?_eq_getElem?]
  have e:ch.length - 1=m:=by omega
  rw [e,hc]
  rfl
 generalize hcc:ch[m]'(by omega)=c at *
 obtain ⟨b1,b2,b3⟩:=b
 obtain ⟨c1,c2⟩:=c
 simp only at e1 e3 e4 e5
 subst e1 e3
 exact ⟨m,b1,b3,c2,hm,hbm,hb,hc,e2,e4,e5,hlast⟩
theorem Yq.more {wd base pn:Nat} {w w':World} {F:Nat->Prop} {fl:Nat} {ch:Ch} {lg:List UInt8} {cb r:Nat} {bs:List BV} {lv lv':Value} (h:Yq wd base pn w F fl ch lg cb r bs lv) (hc:ch.length<134217728) {hd:BA} {st:Option Tr} {q:Option Nat} {ext:List UInt8} (hx:ext.length<=1000100)
  (hR:Ju w' cb wd fl r (bs++[(hd,wd,q)]) lv') (hS:StAt (dgW wd) (λj=>(F j/\¬some j=lv.ownBlock)\/w.heap.size<=j) w' q st) (hk:StOk wd st) (hL:JW base w' lv' (lg++ext)) (hT:Tch (λk=>k=cb\/k=r\/some k=lv.ownBlock) w w') (hM:Jm w lv.ownBlock lv'.ownBlock) (hh:hd.size<=1000) (hbw:base<=w.heap.size):
  ∃F':Nat->Prop,(∀j,F' j->F j\/w.heap.size<=j)/\Yq wd base pn w' F' fl (ch++[(hd,st)]) (lg++ext) cb r (bs++[(hd,wd,q)]) lv':=by
 have hTF:∀j,(j=cb\/j=r\/some j=lv.ownBlock)->F j:=λj hj=>by
  rcases hj with rfl | rfl | e
  ·exact h.ownC
  ·exact h.ownR
  ·exact h.ownG j e.symm
 have hnew:∀k,lv'.ownBlock=some k->F k\/w.heap.size<=k:=λk hk=>by
  rcases hM with e | ⟨i,e,hi⟩
  ·exact .inl (h.ownG k (by rw [<-e];exact hk))
  ·rw [hk] at e;cases e;exact .inr hi
 refine ⟨λj=>(F j/\¬(some j=lv.ownBlock/\¬lv'.ownBlock=some j))\/(w.heap.size<=j/\((∃c,w'.heap[j]? =some (.cells c 243))\/lv'.ownBlock=some j)),λj hj=>hj.imp (λe=>e.1) (λe=>e.1),?_⟩
 have hFF:∀j,F j->¬some j=lv.ownBlock->(F j/\¬(some j=lv.ownBlock/\¬lv'.ownBlock=some j))\/(w.heap.size<=j/\((∃c,w'.heap[j]? =some (.cells c 243))\/lv'.ownBlock=some j)):=λj hj hn=>.inl ⟨hj,λe=>hn e.1⟩
 have hne:=h.log.ne_row h.row
 exact {
  row:=hR
  log:=hL
  len:=by rw [Qe,Qe,h.len];rfl
  pos:=by rw [Qe];have:=h.pos;omega
  most:=by rw [Qe];simp only [Qp,Qv];omega
  short:=by rw [Qe,Qe];simp only [Qp,Qv];have:=h.short;omega
  few:=h.few
  hdr:=λi b c h1 h2=>by
   by_cases hi:i<bs.length
   ·rw [QF hi] at h1
    rw [QF (by have:=h.len;omega)] at h2
    exact h.hdr i b c h1 h2
   ·rw [Qz (by omega)] at h1
    rw [Qz (by have:=h.len;omega)] at h2
    have e0:i - bs.length=0:=by have:=(Qo.1 h1).1;simp at this;omega
    rw [e0] at h1
    rw [<-h.len,e0] at h2
    simp only [List.getElem?_cons_zero,Qh] at h1 h2
    subst h1 h2
    exact ⟨rfl,hh⟩
  st:=λi b c h1 h2 h3=>by
   by_cases hi:i<bs.length
   ·rw [QF hi] at h1
    rw [QF (by have:=h.len;omega)] at h2
    obtain ⟨k1,k2,k3⟩:=h.st i b c h1 h2 h3
    have k4:=k2.refine (G:=λj=>F j/\¬(j=cb\/j=r\/some j=lv.ownBlock)) (λj hj hc=>⟨hj,λe=>by
     obtain ⟨cc,hc⟩:=hc
     rcases e with rfl | rfl | e
     ·rw [h.row.row] at hc;simp at hc
     ·rw [h.row.map] at hc;simp at hc
     ·obtain ⟨cu,mm,hr⟩:=h.log.kind j e.symm;rw [hc] at hr;simp at hr⟩)
    exact ⟨k1,(k4.tch hT (λj hj hG=>hG.2 hj)).mono (λj hj=>hFF j hj.1 (λe=>hj.2 (.inr (.inr e)))),k3⟩
   ·rw [Qz (by omega)] at h1
    rw [Qz (by have:=h.len;omega)] at h2
    have e0:i - bs.length=0:=by have:=(Qo.1 h1).1;simp at this;omega
    rw [e0] at h1
    rw [<-h.len,e0] at h2
    simp only [List.getElem?_cons_zero,Qh] at h1 h2
    subst h1 h2
    exact ⟨rfl,hS.refine (λj hj hc=>hj.imp (λe=>⟨e.1,λe2=>e.2 e2.1⟩) (λe=>⟨e,.inl hc⟩)),hk⟩
  gone:=λi b h1 h2=>by
   rw [QF (by have:=h.pos;have:=h.len;omega)] at h1
   exact h.gone i b h1 h2
  ownC:=hFF _ h.ownC hne.1
  ownR:=hFF _ h.ownR hne.2
  ownG:=λk hk=>(hnew k hk).imp (λe=>⟨e,λe2=>e2.2 hk⟩) (λe=>⟨e,.inr hk⟩)
  low:=λj hj=>by
   rcases hj with ⟨hj,hjn⟩ | ⟨hj,hc | hc⟩
   ·exact ⟨(h.low j hj).1,Qk (h.low j hj).2 hT.size⟩
   ·obtain ⟨c,hc⟩:=hc;exact ⟨by omega,(Jb hc)⟩
   ·exact ⟨by omega,(hL.bs.own j hc).2⟩
  kind:=λj hj cur T m hr=>by
   rcases hj with ⟨hj,hjn⟩ | ⟨hj,hc | hc⟩
   ·by_cases e:j=cb\/j=r\/some j=lv.ownBlock
    ·rcases e with rfl | rfl | e
     ·rw [hR.row] at hr;simp at hr;exact .inr (.inl hr.2.1.symm)
     ·rw [hR.map] at hr;simp at hr
     ·obtain ⟨cu,mm,hr0⟩:=h.log.kind j e.symm
      by_cases e2:lv'.ownBlock=some j
      ·obtain ⟨cu',mm',hr2⟩:=hL.kind j e2;rw [hr] at hr2;simp at hr2;exact .inr (.inr (.inr hr2.2.1))
      ·exact absurd ⟨e,e2⟩ hjn
    ·exact h.kind j hj cur T m ((hT.block j (h.low j hj).2 e).symm.trans hr)
   ·obtain ⟨c,hc⟩:=hc;rw [hr] at hc;simp at hc;exact .inr (.inr (.inl hc.2.1))
   ·obtain ⟨cu',mm',hr2⟩:=hL.kind j hc;rw [hr] at hr2;simp at hr2;exact .inr (.inr (.inr hr2.2.1)) }
theorem Yq.prune {wd base pn:Nat} {w w':World} {F:Nat->Prop} {fl:Nat} {ch:Ch} {lg:List UInt8} {cb r:Nat} {bs bs':List BV} {lv lv':Value} (h:Yq wd base pn w F fl ch lg cb r bs lv) (hp:pn<134217728) {n:Nat} (hf:fl<=n) (hn:n<ch.length) {ext:List UInt8} (hx:ext.length<=100)
  (hP:Prn fl n bs bs') (hR:Ju w' cb wd n r bs' lv') (hL:JW base w' lv' (lg++ext)) (hT:Tch (λk=>k=cb\/k=r\/some k=lv.ownBlock) w w') (hM:Jm w lv.ownBlock lv'.ownBlock) (hbw:base<=w.heap.size):
  ∃F':Nat->Prop,(∀j,F' j->F j\/w.heap.size<=j)/\Yq wd base (pn+1) w' F' n ch (lg++ext) cb r bs' lv':=by
 have hnew:∀k,lv'.ownBlock=some k->F k\/w.heap.size<=k:=λk hk=>by
  rcases hM with e | ⟨i,e,hi⟩
  ·exact .inl (h.ownG k (by rw [<-e];exact hk))
  ·rw [hk] at e;cases e;exact .inr hi
 refine ⟨λj=>(F j/\¬(some j=lv.ownBlock/\¬lv'.ownBlock=some j))\/(w.heap.size<=j/\lv'.ownBlock=some j),λj hj=>hj.imp (λe=>e.1) (λe=>e.1),?_⟩
 have hFF:∀j,F j->¬some j=lv.ownBlock->(F j/\¬(some j=lv.ownBlock/\¬lv'.ownBlock=some j))\/(w.heap.size<=j/\lv'.ownBlock=some j):=λj hj hn=>.inl ⟨hj,λe=>hn e.1⟩
 have hne:=h.log.ne_row h.row
 have hold:∀(i:Nat) b,bs'[i]? =some b->∃b0,bs[i]? =some b0/\b.1=b0.1/\(n<=i->b=b0)/\(i<n->b.2=(0,none)):=λi b hb=>by
  have:=hP i
  rw [hb] at this
  by_cases c:fl<=i/\i<n
  ·rw [if_pos c] at this
   obtain ⟨b0,e1,e2⟩:=Option.map_eq_some_iff.1 this.symm
   exact ⟨b0,e1,by rw [<-e2],λe=>by omega,λ_=>by rw [<-e2]⟩
  ·rw [if_neg c] at this
   exact ⟨b,this.symm,rfl,λ_=>rfl,λe=>h.gone i b this.symm (by omega)⟩
 exact {
  row:=hR
  log:=hL
  len:=by rw [hP.length,h.len]
  pos:=hn
  most:=h.most
  short:=by rw [Qe];have:=h.short;omega
  few:=by omega
  hdr:=λi b c h1 h2=>by
   obtain ⟨b0,e1,e2,_⟩:=hold i b h1
   rw [e2]
   exact h.hdr i b0 c e1 h2
  st:=λi b c h1 h2 h3=>by
   obtain ⟨b0,e1,_,e3,_⟩:=hold i b h1
   rw [e3 h3]
   obtain ⟨k1,k2,k3⟩:=h.st i b0 c e1 h2 (by omega)
   have k4:=k2.refine (G:=λj=>F j/\¬(j=cb\/j=r\/some j=lv.ownBlock)) (λj hj hc=>⟨hj,λe=>by
    obtain ⟨cc,hc⟩:=hc
    rcases e with rfl | rfl | e
    ·rw [h.row.row] at hc;simp at hc
    ·rw [h.row.map] at hc;simp at hc
    ·obtain ⟨cu,mm,hr⟩:=h.log.kind j e.symm;rw [hc] at hr;simp at hr⟩)
   exact ⟨k1,(k4.tch hT (λj hj hG=>hG.2 hj)).mono (λj hj=>hFF j hj.1 (λe=>hj.2 (.inr (.inr e)))),k3⟩
  gone:=λi b h1 h2=>by
   obtain ⟨b0,_,_,_,e4⟩:=hold i b h1
   exact e4 h2
  ownC:=hFF _ h.ownC hne.1
  ownR:=hFF _ h.ownR hne.2
  ownG:=λk hk=>(hnew k hk).imp (λe=>⟨e,λe2=>e2.2 hk⟩) (λe=>⟨e,hk⟩)
  low:=λj hj=>by
   rcases hj with ⟨hj,hjn⟩ | ⟨hj,hc⟩
   ·exact ⟨(h.low j hj).1,Qk (h.low j hj).2 hT.size⟩
   ·exact ⟨by omega,(hL.bs.own j hc).2⟩
  kind:=λj hj cur T m hr=>by
   rcases hj with ⟨hj,hjn⟩ | ⟨hj,hc⟩
   ·by_cases e:j=cb\/j=r\/some j=lv.ownBlock
    ·rcases e with rfl | rfl | e
     ·rw [hR.row] at hr;simp at hr;exact .inr (.inl hr.2.1.symm)
     ·rw [hR.map] at hr;simp at hr
     ·by_cases e2:lv'.ownBlock=some j
      ·obtain ⟨cu',mm',hr2⟩:=hL.kind j e2;rw [hr] at hr2;simp at hr2;exact .inr (.inr (.inr hr2.2.1))
      ·exact absurd ⟨e,e2⟩ hjn
    ·exact h.kind j hj cur T m ((hT.block j (h.low j hj).2 e).symm.trans hr)
   ·obtain ⟨cu',mm',hr2⟩:=hL.kind j hc;rw [hr] at hr2;simp at hr2;exact .inr (.inr (.inr hr2.2.1)) }
theorem Yq.first {wd base:Nat} (hw:wd<=32) {outs:List (Nat×Nat)} (h3:outs.length<=3) {st:Option Tr} {w w1:World} (hbw:base<=w.heap.size) {cb r:Nat} {q:Option Nat} {lv:Value} (k1:w.heap.size<=cb) (k2:w.heap.size<=r) (k3:Ju w1 cb wd 0 r [(⟨(hdrB (XB wd outs st)).toArray⟩,wd,q)] lv) (k4:StAt (dgW wd) (λj=>w.heap.size<=j) w1 q st) (k5:StOk wd st) (k6:JW base w1 lv (recB [71] (Jg wd outs))) (k7:∀k,lv.ownBlock=some k->w.heap.size<=k):
  Yq wd base 0 w1 (λj=>w.heap.size<=j/\(j=cb\/j=r\/(∃c,w1.heap[j]? =some (.cells c 243))\/lv.ownBlock=some j)) 0 [(⟨(hdrB (XB wd outs st)).toArray⟩,st)] (recB [71] (Jg wd outs)) cb r [(⟨(hdrB (XB wd outs st)).toArray⟩,wd,q)] lv:=by
 have hhl:(hdrB (XB wd outs st)).length<=1000:=by
  unfold hdrB XB
  simp only [Qe,Je,XU,Jr wd hw,XW (dgW wd) wd (Jr wd hw)]
  unfold Jdh
  rw [Jw,List.length_replicate]
  omega
 exact {
  row:=k3
  log:=k6
  len:=rfl
  pos:=by simp
  most:=by simp
  short:=by
   have:∀l:List (Nat×Nat),(l.flatMap outB).length=l.length * 9:=by
    intro l
    induction l with
    | nil=>rfl
    | cons x r ih=>rw [QG,Qe,ih];unfold outB;simp only [Qe,Je,Qp];omega
   rw [Yj]
   unfold Jg JX
   rw [Qe,Qe,Je,Je,this]
   simp only [Qp,Qv]
   omega
  few:=by omega
  hdr:=λi b c h1 h2=>by
   cases i with
   | zero=>
    simp only [List.getElem?_cons_zero,Qh] at h1 h2
    subst h1 h2
    exact ⟨rfl,by rw [Jw];exact hhl⟩
   | succ i=>simp at h1
  st:=λi b c h1 h2 _=>by
   cases i with
   | zero=>
    simp only [List.getElem?_cons_zero,Qh] at h1 h2
    subst h1 h2
    exact ⟨rfl,k4.refine (λj hj hc=>⟨hj,.inr (.inr (.inl hc))⟩),k5⟩
   | succ i=>simp at h1
  gone:=λi b _ h2=>absurd h2 (by omega)
  ownC:=⟨k1,.inl rfl⟩
  ownR:=⟨k2,.inr (.inl rfl)⟩
  ownG:=λk hk=>⟨k7 k hk,.inr (.inr (.inr hk))⟩
  low:=λj hj=>by
   rcases hj with ⟨hj,rfl | rfl | ⟨c,hc⟩ | hc⟩
   ·exact ⟨by omega,(Jb k3.row)⟩
   ·exact ⟨by omega,(Jb k3.map)⟩
   ·exact ⟨by omega,(Jb hc)⟩
   ·exact ⟨by omega,(k6.bs.own j hc).2⟩
  kind:=λj hj cur T m hr=>by
   rcases hj with ⟨hj,rfl | rfl | ⟨c,hc⟩ | hc⟩
   ·rw [k3.row] at hr;simp at hr;exact .inr (.inl hr.2.1.symm)
   ·rw [k3.map] at hr;simp at hr
   ·rw [hc] at hr;simp at hr;exact .inr (.inr (.inl hr.2.1.symm))
   ·obtain ⟨cu,mm,hr2⟩:=k6.kind j hc;rw [hr2] at hr;simp at hr;exact .inr (.inr (.inr hr.2.1.symm)) }
theorem Yq.about {wd base pn:Nat} {w:World} {F:Nat->Prop} {fl:Nat} {ch:Ch} {lg:List UInt8} {cb r:Nat} {bs:List BV} {lv:Value} (h:Yq wd base pn w F fl ch lg cb r bs lv) (hbw:base<=w.heap.size):
  Xr wd base pn (w.alloc (.cells #[.pointer (some ⟨cb,0,none⟩)] 90)) w.heap.size (λj=>j=w.heap.size\/F j) fl ch lg cb r bs lv:=by
 have tA:=Tch.alloc NoB w (.cells #[.pointer (some ⟨cb,0,none⟩)] 90)
 have k:=h.keep tA (λ_ e=>e.elim)
 exact {
  led:=Qf _ _
  row:=k.row
  log:=k.log
  len:=k.len
  pos:=k.pos
  most:=k.most
  short:=k.short
  few:=k.few
  hdr:=k.hdr
  st:=λi b c h1 h2 h3=>⟨(k.st i b c h1 h2 h3).1,(k.st i b c h1 h2 h3).2.1.mono (λ_ h=>.inr h),(k.st i b c h1 h2 h3).2.2⟩
  gone:=k.gone
  ownL:=.inl rfl
  ownC:=.inr k.ownC
  ownR:=.inr k.ownR
  ownG:=λj hj=>.inr (k.ownG j hj)
  low:=λj hj=>by
   rcases hj with rfl | hj
   ·exact ⟨hbw,by rw [World.size_alloc];omega⟩
   ·exact k.low j hj
  kind:=λj hj cur T m hr=>by
   rcases hj with rfl | hj
   ·rw [Qf] at hr;simp at hr;exact .inl hr.2.1.symm
   ·exact k.kind j hj cur T m hr }

def CnAt (wd base:Nat) (c0:BA×Option Tr) (g:List UInt8) (evs:List Ev) (w:World) (cb:Nat) (F:Nat->Prop):Prop:=
 ∃ch fl r bs lv,Yq wd base (flos evs) w F fl ch (logB g evs) cb r bs lv/\Hist wd c0 evs ch fl
theorem CnAt.keep {wd base:Nat} {c0:BA×Option Tr} {g:List UInt8} {evs:List Ev} {w w':World} {cb:Nat} {F S:Nat->Prop} (h:CnAt wd base c0 g evs w cb F) (k:Tch S w w') (hs:∀j,S j->¬F j):CnAt wd base c0 g evs w' cb F:=by
 obtain ⟨ch,fl,r,bs,lv,C,H⟩:=h
 exact ⟨ch,fl,r,bs,lv,C.keep k hs,H⟩
def ReTo (wd base:Nat) (c0:BA×Option Tr) (g:List UInt8) (evs:List Ev) (cb:Nat) (F:Nat->Prop) (w w':World):Prop:=
 Tch F w w'/\∃F':Nat->Prop,(∀j,F' j->F j\/w.heap.size<=j)/\CnAt wd base c0 g evs w' cb F'
theorem ReTo.pre {wd base:Nat} {c0:BA×Option Tr} {g:List UInt8} {evs:List Ev} {cb:Nat} {F:Nat->Prop} {w W w':World} (k:Tch NoB w W) (h:ReTo wd base c0 g evs cb F W w'):ReTo wd base c0 g evs cb F w w':=by
 obtain ⟨h1,F',h2,h3⟩:=h
 exact ⟨(k.mono (λ_ e=>e.elim)).trans h1 (λ_ e=>.inl e),F',λj hj=>(h2 j hj).imp (λe=>e) (λe=>Qm k.size e),h3⟩
theorem JlL (E:Nat->Addr) {wd base:Nat} (hw1:1<=wd) (hw:wd<=32) {c0:BA×Option Tr} {g:List UInt8} {evs:List Ev} (e:Ev) {ch':Ch} {fl':Nat} (hH:Hist wd c0 (evs++[e]) ch' fl') (hm:ch'.length<134217728) (hp:flos (evs++[e])<=134217728) {w:World} (hE:Env E w) {cb:Nat} {F:Nat->Prop} (h:CnAt wd base c0 g evs w cb F):
  Calls Tryz.prog 100 #[.pointer (some ⟨cb,0,none⟩),.agg #[.string ⟨e.letter.toArray⟩,.string ⟨e.content.toArray⟩]] w λen w'=>en=.returned (.tuple #[.pointer (some ⟨cb,0,none⟩),.nilIface])/\ReTo wd base c0 g (evs++[e]) cb F w w':=by
 obtain ⟨ch,fl,r,bs,lv,C,H⟩:=h
 obtain ⟨ch0,fl0,hH0,hpre,hb⟩:=hH.back
 obtain ⟨rfl,rfl⟩:=H.same hH0
 have hsm:=hH.small e (by simp)
 have hbw:base<=w.heap.size:=by have:=C.low cb C.ownC;omega
 have hch:ch.length<=ch'.length:=hpre.length_le
 have hsh:=C.short
 have hfw:=C.few
 have own:∀j,(j=cb\/j=r\/some j=lv.ownBlock)->F j:=λj hj=>by
  rcases hj with rfl | rfl | e
  ·exact C.ownC
  ·exact C.ownR
  ·exact C.ownG j e.symm
 cases e with
 | blk t=>
  obtain ⟨hsub,rfl⟩:=hb
  dsimp only [Ev.content] at hsm
  refine (JgF cb ⟨t.toArray⟩ w (λW w'=>ReTo wd base c0 g (evs++[.blk t]) cb F W w') (λW hT=>?_)).mono λen w' ⟨k1,W,hT,k2⟩=>⟨k1,k2.pre hT⟩
  have CW:=C.keep hT (λ_ e=>e.elim)
  obtain ⟨m,bh,q,st,hm2,hbm,hbb,hcm,hbs,hst,hok,hlast⟩:=CW.last
  have hst2:StAt (dgW wd) (λj=>(F j/\¬some j=lv.ownBlock)\/W.heap.size<=j) W q st:=hst.refine (λj hj hc=>.inl ⟨hj,λe=>by
   obtain ⟨cc,hc⟩:=hc
   obtain ⟨cu,mm,hr⟩:=CW.log.kind j e.symm
   rw [hc] at hr
   simp at hr⟩)
  have hsz:(⟨t.toArray⟩:BA).size<=1000000:=by rw [Jw];omega
  have hbW:base<=W.heap.size:=Qm hbw hT.size
  have HS:=Ja3 E (hE.tch hT noE) hw1 hw CW.row m hbm (by omega) bh q st hbb hbs (λj=>(F j/\¬some j=lv.ownBlock)\/W.heap.size<=j) (λj hj=>.inr hj) hst2 hok base hbW (logB g evs) CW.log (by omega) ⟨t.toArray⟩ hsz
  rw [Jc8 (dgW wd) wd m bh st ch hm2 hlast] at hsub
  have et:(⟨t.toArray⟩:BA).data.toList=t:=by simp
  rw [et] at HS
  cases hq:subP (dgW wd) wd m bh st t with
  | error er=>rw [hq] at hsub;cases hsub
  | ok x=>
   obtain ⟨hd,st'⟩:=x
   rw [hq] at hsub HS
   simp only [Except.ok.injEq] at hsub
   refine HS.mono λen w' k=>?_
   obtain ⟨k0,q',lv',k1,k2,k3,k4,k5,k6⟩:=k
   rw [et] at k4
   have hx:(recB [66] t).length<=1000100:=by rw [Yj];simp only [Qp,Qv];omega
   obtain ⟨F',hF',C'⟩:=CW.more (by omega) hx k1 k2 k3 k4 k5 k6 (Jd9 hw hq) hbW
   refine ⟨k0,k5.mono (λj hj=>.inl (own j hj)),F',hF',ch',_,r,bs++[(hd,wd,q')],lv',?_,hH⟩
   rw [<-hsub,ZB,Zz]
   exact C'
 | flo n=>
  obtain ⟨rfl,rfl,hf,hn,hn2⟩:=hb
  have hc0:w.cell? ⟨cb,0,none⟩=some (.int .i64 (wd:Int)):=Ja C.row.row
  refine (JgH cb ⟨(beL fl' 4 4).toArray⟩ w (λW w'=>ReTo wd base c0 g (evs++[.flo fl']) cb F W w') (λW hT=>?_)).mono λen w' ⟨k1,W,hT,k2⟩=>⟨k1,k2.pre hT⟩
  have hcW:=(hT.cell (Qr _ _ hc0) (λh=>h)).trans hc0
  refine (Jdu hcW fl' hn2 (λV w'=>ReTo wd base c0 g (evs++[.flo fl']) cb F V w') (λV hV=>?_)).mono λen w' ⟨k1,V,hV,k2⟩=>⟨k1,k2.pre hV⟩
  have CV:=C.keep (hT.go hV) (λ_ e=>e.elim)
  have hbV:base<=V.heap.size:=Qm hbw (hT.go hV).size
  refine (Jcv E (hE.tch (hT.go hV) noE) CV.row base hbV (logB g evs) CV.log (by omega) fl' hf (by rw [CV.len];exact hn) (by rw [CV.len];omega)).mono λen w' k=>?_
  obtain ⟨k0,lv',bs',k1,k2,k3,k4,k5⟩:=k
  rw [Zz] at hp
  have hp2:flos evs<134217728:=by simp only [Ev.isB] at hp;simp at hp;omega
  obtain ⟨F',hF',C'⟩:=CV.prune hp2 hf hn (by rw [Yj,Je];simp) k1 k2 k3 k4 k5 hbV
  refine ⟨k0,k4.mono (λj hj=>.inl (own j hj)),F',hF',ch',_,r,bs',lv',?_,hH⟩
  rw [ZB,Zz]
  exact C'
theorem JgG (E:Nat->Addr) {wd base:Nat} (hw1:1<=wd) (hw:wd<=32) (outs:List (Nat×Nat)) (ho:∀o∈outs,Jv o) (h1:1<=outs.length) (h3:outs.length<=3) (w:World) (hE:Env E w) (hbase:base<=w.heap.size) (st:Option Tr) (hrec:JH (dgW wd (71 :: JX outs)) 0 outs none=.ok st):
  Calls Tryz.prog 100 #[.pointer none,.agg #[.string ⟨#[71]⟩,.string ⟨(Jg wd outs).toArray⟩]] w λen w'=>Tch NoB w w'/\∃cb F,en=.returned (.tuple #[.pointer (some ⟨cb,0,none⟩),.nilIface])/\(∀j,F j->w.heap.size<=j)/\CnAt wd base (⟨(hdrB (XB wd outs st)).toArray⟩,st) (Jg wd outs) [] w' cb F:=by
 refine (JgI ⟨(Jg wd outs).toArray⟩ w (λW e w'=>∃V,Tch NoB W V/\JdA wd base outs st V e w') (λW e w' ⟨V,_,hN⟩=>?_) (λW hT=>Jjz E wd hw1 hw outs ho h1 h3 W (hE.tch hT noE) base (Qm hbase hT.size) st hrec)).mono ?_
 ·obtain ⟨_,cb,_,_,_,rfl,_⟩:=hN
  exact ⟨cb,rfl⟩
 ·rintro en w' ⟨W,hT,V,hV,k0,cb,r,q,lv,rfl,k1,k2,k3,k4,k5,k6,k7⟩
  have hs:=(hT.go hV).size
  have C:=Yq.first hw h3 (Qm hbase hs) k1 k2 k3 k4 k5 k6 k7
  refine ⟨(hT.go hV).go k0,cb,_,rfl,?_,_,_,r,_,lv,by rw [show logB (Jg wd outs) []=recB [71] (Jg wd outs) from QC _];exact C,.nil⟩
  exact λj hj=>Qm hs hj.1
open Tryz
set_option maxRecDepth 100000
set_option maxHeartbeats 2000000

attribute [local go_sem] Oper.semAt_some

def Yb:Nat->List (List UInt8×List UInt8)->List (List UInt8×List UInt8×Nat)
 | _,[]=>[]
 | p,x :: r=>(x.1,x.2,p+(recB x.1 x.2).length) :: Yb (p+(recB x.1 x.2).length) r
abbrev JI (rs:List (List UInt8×List UInt8)):List UInt8:=rs.flatMap λx=>recB x.1 x.2
def JaR (x:List UInt8×List UInt8×Nat):Array Value:= #[.agg #[.string ⟨x.1.toArray⟩,.string ⟨x.2.1.toArray⟩],.int .i64 (x.2.2:Int)]
theorem YS:∀(rs:List (List UInt8×List UInt8)) (p:Nat),(Yb p rs).length=rs.length
 | [],_=>rfl
 | x :: r,p=>by rw [Yb,Qp,YS r];rfl
theorem JbI:∀(rs:List (List UInt8×List UInt8)) (p k:Nat) (hk:k<rs.length),(Yb p rs)[k]? =some (rs[k].1,rs[k].2,p+(JI (rs.take (k+1))).length)
 | [],_,k,hk=>by simp at hk
 | x :: r,p,0,_=>by simp [Yb]
 | x :: r,p,k+1,hk=>by
  rw [Yb,List.getElem?_cons_succ,JbI r _ k (by simpa using hk)]
  simp only [List.getElem_cons_succ,List.take_succ_cons,QG,Qe,Nat.add_assoc]
def atR (b:Nat) (w:World):Nat:=match w.cell? ⟨b,4,none⟩ with
 | some (.int _ z)=>z.toNat
 | _=>0
theorem Jjv {w:World} {b:Nat} {e:Value} {q r:List UInt8} {wd:Int} (h:Jc w b none wd e (.rd q r)):atR b w=q.length:=by
 have c4:w.cell? ⟨b,4,none⟩=some (.int .i64 (q.length:Int)):=Ja h.2
 unfold atR
 rw [c4]
 exact Int.toNat_natCast _
theorem Jb6 (s:BA) (w:World):Calls prog 99 #[.string s] w λe w'=>e=.returned (.func (.func 159) #[] #[.pointer (some ⟨w.heap.size,0,none⟩)])/\w'=w.alloc (.cells #[.string s] 9):=by
 have hmf:∀(fn:Fn) (first cap:Array Value) (w:World),(Instr.makeFunc fn first cap).run prog w=.ok (.func fn first cap) w:=λ_ _ _ _=>rfl
 go_enter func99,ntmps99
 go_wp2
 go_ret
 exact ⟨rfl,rfl⟩
theorem Jb5 (E : Nat -> Addr) (n : Nat) (hn : 2 <= n) (l Bl : Nat) (rs : List (List UInt8 × List UInt8)) (part : List UInt8) (hrs : ∀ x ∈ rs, x.1.length = 1 /\ x.2.length < 65536) (hpart : ∀ q, (raR (q, part, true)).2.2.2.2 = false) (hlen : (JI rs ++ part).length <= 10000000000000) (W : World) (hE : Env E W) (hb : W.cell? ⟨Bl, 0, none⟩ = some (.string ⟨(JI rs ++ part).toArray⟩))
    (S : Nat -> Prop) (hS : ∀ k, S k -> 18 <= k /\ k ≠ W.heap.size) (J : List (List UInt8 × List UInt8 × Nat) -> World -> Prop) (hJ : ∀ pre A B, J pre A -> Tch (λk => k = W.heap.size) A B -> J pre B)
    (hY : ∀ pre x V, pre ++ [x] <+: Yb 0 rs -> W.heap.size < V.heap.size -> J pre V -> YieldAt Fence.wide (n - 1) prog l (JaR x) V λe V' => e = .returned (.bool true) /\ J (pre ++ [x]) V' /\ Tch S V V') (h0 : J [] W) :
    CallsIn Fence.wide n prog 159 #[.func (.yield l) #[] #[], .pointer (some ⟨Bl, 0, none⟩)] W λe W' => (∃ v, e = .returned v) /\ J (Yb 0 rs) W' := by
  have hK : 18 <= W.heap.size := hE.size
  have HNR : Hid (Calls prog 85 #[.int .i64 4, .string ⟨(JI rs ++ part).toArray⟩] W λe w' => e = .returned (.pointer (some ⟨W.heap.size, 0, none⟩)) /\ Jc w' W.heap.size none 4 .nilIface (.rd [] (JI rs ++ part)) /\ Tch (λ_ => False) W w') := Xk 4 ⟨(JI rs ++ part).toArray⟩ W
  have HRC : Hid (∀ V q r, Env E V -> q.length + r.length <= 10000000000000 -> Jc V W.heap.size none 4 .nilIface (.rd q r) -> Calls prog 141 #[.pointer (some ⟨W.heap.size, 0, none⟩), .agg #[.string ⟨#[]⟩, .string ⟨#[]⟩]] V λe w' => e = .returned (.agg #[.string ⟨(raR (q, r, true)).1.toArray⟩, .string ⟨(raR (q, r, true)).2.1.toArray⟩]) /\ RA E w' W.heap.size 4 (raR (q, r, true)).2.2 /\ Tch (λk => k = W.heap.size) V w') := λV q r hEV hl hp => JiG E W.heap.size hK 4 (q, r, true) V hEV hp hl
  have HE : Hid (Env E W /\ 18 <= W.heap.size) := ⟨hE, hK⟩
  have HRS : Hid (∀ x ∈ rs, x.1.length = 1 /\ x.2.length < 65536) := hrs
  have HPA : Hid (∀ q, (raR (q, part, true)).2.2.2.2 = false) := hpart
  have HLE : Hid ((JI rs ++ part).length <= 10000000000000) := hlen
  have HS : Hid (∀ k, S k -> 18 <= k /\ k ≠ W.heap.size) := hS
  have HJ : Hid (∀ pre A B, J pre A -> Tch (λk => k = W.heap.size) A B -> J pre B) := hJ
  have HY : Hid (∀ pre x V, pre ++ [x] <+: Yb 0 rs -> W.heap.size < V.heap.size -> J pre V -> YieldAt Fence.wide (n - 1) prog l (JaR x) V λe V' => e = .returned (.bool true) /\ J (pre ++ [x]) V' /\ Tch S V V') := hY
  have HJ0 : Hid (J [] W) := h0
  clear hE hrs hpart hlen hS hJ hY h0 hK
  refine callsIn_of_wp func159 rfl trivial ?_ rfl
  simp only [ntmps159, List.size_toArray, Qp, Qv, Nat.reduceAdd, Nat.reduceSub, Array.replicate_succ, Array.replicate_zero, List.push_toArray, List.append_toArray, List.nil_append, List.cons_append]
  gi_wp2
  refine ⟨trivial, λ_ => by omega, (callsIn_wide.2 HNR.o).mono ?_⟩
  rintro _ W1 ⟨rfl, hp1, ht1⟩
  have HP1 : Hid (Jc W1 W.heap.size none 4 .nilIface (.rd [] (JI rs ++ part))) := hp1
  have HE1 : Hid (Env E W1) := HE.o.1.tch ht1 noE
  have HJ1 : Hid (J [] W1) := HJ.o _ _ _ HJ0.o (ht1.mono noE)
  clear hp1 ht1 HNR hb HJ0
  gi_wp2
  gi_loopw [] (λwr => ∃ p, p <= rs.length /\ Hid (Jc wr W.heap.size none 4 .nilIface (.rd (JI (rs.take p)) (JI (rs.drop p) ++ part))) /\ Hid (Env E wr) /\ Hid (J ((Yb 0 rs).take p) wr)) (λwr => (JI rs ++ part).length - atR W.heap.size wr)
  case atStart => exact ⟨0, Nat.zero_le _, HP1, HE1, HJ1⟩
  case round =>
    obtain ⟨p, hp, HPr, HEr, HJr⟩ := hrel
    have hlp : (JI (rs.take p)).length + (JI (rs.drop p) ++ part).length <= 10000000000000 := by
      have := HLE.o
      rw [Qe] at this ⊢
      have e : JI rs = JI (rs.take p) ++ JI (rs.drop p) := by unfold JI; rw [<- List.flatMap_append, List.take_append_drop]
      rw [e, Qe] at this
      omega
    have HRP : Hid (Calls prog 141 _ wr _) := HRC.o wr _ _ HEr.o hlp HPr.o
    by_cases hlt : p < rs.length
    · obtain ⟨lt, ct, hxe⟩ : ∃ lt ct, rs[p] = (lt, ct) := ⟨_, _, rfl⟩
      have hx := HRS.o rs[p] (Qx hlt)
      rw [hxe] at hx
      dsimp only at hx
      have hd : JI (rs.drop p) ++ part = recB lt ct ++ (JI (rs.drop (p + 1)) ++ part) := by
        rw [List.drop_eq_getElem_cons hlt, hxe]
        unfold JI
        rw [QG, Qs]
      have ht : JI (rs.take (p + 1)) = JI (rs.take p) ++ recB lt ct := by
        rw [List.take_succ_eq_append_getElem hlt, hxe]
        unfold JI
        rw [List.flatMap_append]
        simp
      have hR : raR (JI (rs.take p), JI (rs.drop p) ++ part, true) = (lt, ct, (JI (rs.take (p + 1)), JI (rs.drop (p + 1)) ++ part, true)) := by
        rw [hd, JiD _ _ _ _ hx.1 hx.2, ht]
      rw [hR] at HRP
      have HPX : Hid ((Yb 0 rs)[p]? = some (lt, ct, (JI (rs.take (p + 1))).length)) := by
        have := JbI rs 0 p hlt
        rw [Nat.zero_add, hxe] at this
        exact this
      have HGR : Hid ((JI (rs.take p)).length < (JI (rs.take (p + 1))).length) := by
        show (JI (rs.take p)).length < (JI (rs.take (p + 1))).length
        rw [ht, Qe, Yj]
        omega
      have HLT : Hid (p < rs.length) := hlt
      dsimp only at HRP
      clear hd ht hR hx hlp hxe hlt
      obtain ⟨z, hz⟩ : ∃ z, (JI (rs.take (p + 1))).length = z := ⟨_, rfl⟩
      rw [hz] at HPX HGR
      have HZ : Hid ((JI (rs.take (p + 1))).length = z) := hz
      have HEN : Hid (JaR (lt, ct, z) = #[.agg #[.string ⟨lt.toArray⟩, .string ⟨ct.toArray⟩], .int .i64 (z : Int)]) := rfl
      clear hz
      generalize (⟨lt.toArray⟩ : BA) = ls at *
      generalize (⟨ct.toArray⟩ : BA) = cs at *
      gi_wp2
      refine ⟨trivial, λ_ => by omega, (callsIn_wide.2 HRP.o).mono ?_⟩
      rintro _ W2 ⟨rfl, hra, ht2⟩
      have hp2 : Jc W2 W.heap.size none 4 .nilIface (.rd (JI (rs.take (p + 1))) (JI (rs.drop (p + 1)) ++ part)) := hra
      obtain ⟨W3, hW3⟩ : ∃ (W3 : World), W3 = W2.alloc (.cells #[.string ls, .string cs] 195) := ⟨_, rfl⟩
      have t3 : Tch (λ_ => False) W2 W3 := by rw [hW3]; exact Tch.alloc _ _ _
      have hr3 : W3.heap[W2.heap.size]? = some (.cells #[.string ls, .string cs] 195) := by rw [hW3]; exact Qf _ _
      have hp3 := hp2.tch t3 (λh => h) (λ_ h => by cases h)
      have tr3 : Tch (λk => k = W.heap.size) wr W3 := ht2.trans t3 noE
      have c2 : W3.cell? ⟨W.heap.size, 2, none⟩ = some .nilIface := Ja hp3.2
      have c4 : W3.cell? ⟨W.heap.size, 4, none⟩ = some (.int .i64 (z : Int)) := by rw [<- HZ.o]; exact Ja hp3.2
      have d0 : W3.cell? ⟨W2.heap.size, 0, none⟩ = some (.string ls) := Ja hr3
      have d1 : W3.cell? ⟨W2.heap.size, 1, none⟩ = some (.string cs) := Ja hr3
      have htk : (Yb 0 rs).take p ++ [(lt, ct, z)] = (Yb 0 rs).take (p + 1) := (by rw [List.take_add_one (l := Yb 0 rs), HPX.o]; rfl)
      have hYY := HY.o _ (lt, ct, z) W3.drew (by rw [htk]; exact List.take_prefix _ _) (hp3.lt) (HJ.o _ _ _ HJr.o (tr3.trans (Tch.drewN (λk => k = W.heap.size) W3 1) (λ_ h => .inl h)))
      rw [HEN.o, htk] at hYY
      obtain ⟨fn, tmps, assign, body, hy, hR⟩ := hYY
      have HR : Hid (RoundIn _ _ _ _ _ _ _ _ _ _) := hR
      have HW3 : Hid (W3 = _) := hW3
      have HP3 : Hid (Jc W3 _ _ _ _ _) := hp3
      have HE3 : Hid (Env E W3) := HEr.o.tch tr3 (λj hj => by rw [hj]; exact HE.o.2)
      clear hW3 t3 hr3 hp3 tr3 hra hp2 ht2 htk hR HRP HJr HEr HRC
      gi_wp2
      rw [<- HW3.o]
      gi_region_with (refine ⟨λ_ => by omega, HR.o.mono ?_⟩; rintro _ W4 ⟨rfl, hJ4, hT4⟩; have HJ4 : Hid (J _ W4) := hJ4; have HT4 : Hid (Tch S W3.drew W4) := hT4; clear hJ4 hT4)
      all_goals simp only [Act.put, List.getElem_toArray, List.getElem_cons_succ, List.getElem_cons_zero, Qa, Qb, Qc]
      all_goals gi_wp2
      all_goals go_roundw
      all_goals first
        | exact ⟨p + 1, HLT.o, (HP3.o.tch (Tch.drewN (λ_ => False) W3 1) (λh => h) (λ_ h => by cases h)).tch HT4.o (λh => (HS.o _ h).2 rfl) (λ_ h => by cases h), (HE3.o.tch (Tch.drewN (λ_ => False) W3 1) noE).tch HT4.o (λj hj => (HS.o j hj).1), HJ4⟩
        | (have h4 := Jjv ((HP3.o.tch (Tch.drewN (λ_ => False) W3 1) (λh => h) (λ_ h => by cases h)).tch HT4.o (λh => (HS.o _ h).2 rfl) (λ_ h => by cases h))
           have hr := Jjv HPr.o
           have := HGR.o
           have := HZ.o
           rw [h4, hr]
           have hl2 : (JI (rs.take (p + 1))).length <= (JI rs ++ part).length := by
             have e : JI rs = JI (rs.take (p + 1)) ++ JI (rs.drop (p + 1)) := by unfold JI; rw [<- List.flatMap_append, List.take_append_drop]
             rw [e, Qe, Qe]
             omega
           omega)
    · obtain rfl : p = rs.length := by omega
      have hd : JI (rs.drop rs.length) ++ part = part := by rw [List.drop_length]; rfl
      rw [hd] at HRP
      have hbad := HPA.o (JI (rs.take rs.length))
      have htk : (Yb 0 rs).take rs.length = Yb 0 rs := List.take_of_length_le (by rw [YS]; exact Ql _)
      rw [htk] at HJr
      generalize raR (JI (rs.take rs.length), part, true) = y at *
      obtain ⟨y1, y2, q2, r2, ok⟩ := y
      dsimp only at hbad HRP
      subst hbad
      generalize (⟨y1.toArray⟩ : BA) = ls at *
      generalize (⟨y2.toArray⟩ : BA) = cs at *
      clear hd htk hlp hlt HPr
      gi_wp2
      refine ⟨trivial, λ_ => by omega, (callsIn_wide.2 HRP.o).mono ?_⟩
      rintro _ W2 ⟨rfl, hra, ht2⟩
      obtain ⟨t, u, hp2, _⟩ := (show ∃ t u, Jc W2 W.heap.size none 4 (.iface t u) (.rd q2 r2) /\ Jn E 7 W2 (.iface t u) from hra)
      obtain ⟨W3, hW3⟩ : ∃ (W3 : World), W3 = W2.alloc (.cells #[.string ls, .string cs] 195) := ⟨_, rfl⟩
      have t3 : Tch (λ_ => False) W2 W3 := by rw [hW3]; exact Tch.alloc _ _ _
      have hp3 := hp2.tch t3 (λh => h) (λ_ h => by cases h)
      have c2 : W3.cell? ⟨W.heap.size, 2, none⟩ = some (.iface t u) := Ja hp3.2
      have HJ3 : Hid (∀ k, J (Yb 0 rs) (W3.drewN k)) := λk => HJ.o _ _ _ HJr.o ((ht2.trans t3 noE).trans (Tch.drewN (λk => k = W.heap.size) W3 k) (λ_ h => .inl h))
      have HW3 : Hid (W3 = _) := hW3
      clear hW3 t3 hp3 hra hp2 ht2 HRP HJr HEr HRC HY HJ
      gi_wp2
      rw [<- HW3.o]
      refine wpIn_wide.2 ?_
      go_region
      all_goals gi_wp2
      all_goals refine QJ (v := .tuple #[]) (results_none results159 _ _ _) rfl ?_
      all_goals exact ⟨⟨_, rfl⟩, HJ3.o 1⟩

attribute [local go_sem] Oper.semAt_some

def Ze (g:List UInt8) (evs:List Ev):List (List UInt8×List UInt8):=([71],g) :: evs.map λe=>(e.letter,e.content)
theorem Jhr (g:List UInt8) (evs:List Ev):JI (Ze g evs)=logB g evs:=by
 unfold JI Ze logB
 rw [QG,List.flatMap_map]
 rfl
theorem JgE (g:List UInt8) (evs:List Ev) (k:Nat):(Ze g evs).take (k+1)=Ze g (evs.take k):=by
 unfold Ze
 rw [List.take_succ_cons,List.map_take]
structure OpI (wd base:Nat) (c0:BA×Option Tr) (g:List UInt8) (evs:List Ev) (w:World) (pre:List (List UInt8×List UInt8×Nat)) (V:World):Prop where
 tch:Tch NoB w V
 now:(pre=[]/\V.heap[w.heap.size]? =some (.cells #[.pointer none] 88)/\V.heap[w.heap.size+1]? =some (.cells #[.int .i64 0] 3))\/
  ∃k cb F,pre.length=k+1/\V.heap[w.heap.size]? =some (.cells #[.pointer (some ⟨cb,0,none⟩)] 88)/\V.heap[w.heap.size+1]? =some (.cells #[.int .i64 ((logB g (evs.take k)).length:Int)] 3)/\(∀j,F j->w.heap.size+5<j)/\CnAt wd base c0 g (evs.take k) V cb F
theorem Jj1 {E:Nat->Addr} {w:World} (hE:Env E w) (i:Nat) (hi:i<=10000000000000):Calls prog 101 #[.int .i64 (i:Int)] w λe w'=>(∃s:BA,s.size<=30/\e=.returned (.string s))/\Tch NoB w w':=by
 refine (strconv_Itoa (i:Int) (by omega) (by omega) w hE.pow).mono λe w' h=>?_
 obtain ⟨h1,k,os,h2⟩:=h
 refine ⟨⟨_,?_,h1⟩,by rw [h2];exact (Tch.of_below (JcA w k os)).mono (λ_ h=>.inr h)⟩
 have:=Lib.itoa_length_le (i:Int) (by omega) (by omega)
 show (Lib.itoa (i:Int)).toArray.size<=30
 simp
 omega
theorem Jmf (w:World) (g:Nat) (t:TypeId) (a v:Value) (h:w.heap[g]? =some (.cells #[a] t (0,0))):w.setCell ⟨g,0,none⟩ v=w.setRow g #[v]:=by
 rw [Qj w g 0 _ t (0,0) v h]
 rfl
theorem OpI.put {wd base:Nat} {c0:BA×Option Tr} {g:List UInt8} {evs:List Ev} {w W2:World} {pre:List (List UInt8×List UInt8×Nat)} {k cb:Nat} {F:Nat->Prop} {a b:Value} (hT:Tch NoB w W2) (hp:pre.length=k+1) (h0:W2.heap[w.heap.size]? =some (.cells #[a] 88)) (h1:W2.heap[w.heap.size+1]? =some (.cells #[b] 3)) (hF:∀j,F j->w.heap.size+5<j) (hC:CnAt wd base c0 g (evs.take k) W2 cb F):
  OpI wd base c0 g evs w pre ((W2.setCell ⟨w.heap.size,0,none⟩ (.pointer (some ⟨cb,0,none⟩))).setCell ⟨w.heap.size+1,0,none⟩ (.int .i64 ((logB g (evs.take k)).length:Int)))/\Tch (λj=>(j=w.heap.size\/j=w.heap.size+1)) W2 ((W2.setCell ⟨w.heap.size,0,none⟩ (.pointer (some ⟨cb,0,none⟩))).setCell ⟨w.heap.size+1,0,none⟩ (.int .i64 ((logB g (evs.take k)).length:Int))):=by
 have t1:=Tch.setRow W2 w.heap.size #[.pointer (some ⟨cb,0,none⟩)]
 have h1':=(t1.block _ (Jb h1) (by omega)).trans h1
 rw [Jmf _ _ _ _ _ h0,Jmf _ _ _ _ _ h1']
 have t2:=Tch.setRow (W2.setRow w.heap.size #[.pointer (some ⟨cb,0,none⟩)]) (w.heap.size+1) #[.int .i64 ((logB g (evs.take k)).length:Int)]
 have h0':(W2.setRow w.heap.size #[.pointer (some ⟨cb,0,none⟩)]).heap[w.heap.size]? =some (.cells #[.pointer (some ⟨cb,0,none⟩)] 88):=Qi _ _ _ _ _ _ h0
 have tt:Tch (λj=>(j=w.heap.size\/j=w.heap.size+1)) W2 ((W2.setRow w.heap.size #[.pointer (some ⟨cb,0,none⟩)]).setRow (w.heap.size+1) #[.int .i64 ((logB g (evs.take k)).length:Int)]):=(t1.mono (λ_ h=>.inl (.inl h))).trans t2 (λj hj=>.inl (.inr hj))
 refine ⟨⟨hT.trans tt (λj hj=>.inr (by omega)),.inr ⟨k,cb,F,hp,(t2.block _ (Jb h0') (by omega)).trans h0',Qi _ _ _ _ _ _ h1',hF,hC.keep tt (λj hj hj2=>by have:=hF j hj2;omega)⟩⟩,tt⟩
theorem Jmt (E:Nat->Addr) {wd base:Nat} (hw1:1<=wd) (hw:wd<=32) (outs:List (Nat×Nat)) (ho:∀o∈outs,Jv o) (h1:1<=outs.length) (h3:outs.length<=3) (st:Option Tr) (hrec:JH (dgW wd (71 :: JX outs)) 0 outs none=.ok st) (evs:List Ev) {ch:Ch} {fl:Nat} (hH:Hist wd (⟨(hdrB (XB wd outs st)).toArray⟩,st) evs ch fl) (hm:ch.length<134217728) (hp:flos evs<=134217728)
  (part:List UInt8) (hpart:∀q,(raR (q,part,true)).2.2.2.2=false) (hlen:(logB (Jg wd outs) evs++part).length<=10000000000000) (w:World) (hE:Env E w) (hbase:base<=w.heap.size):
  Calls prog 61 #[.string ⟨(logB (Jg wd outs) evs++part).toArray⟩] w λe w'=>Tch NoB w w'/\∃cb F er,e=.returned (.tuple #[.pointer (some ⟨cb,0,none⟩),.int .i64 ((logB (Jg wd outs) evs).length:Int),er])/\(if part=[] then er=.nilIface else ∃t u,er=.iface t u/\Jn E 6 w' (.iface t u))/\(∀j,F j->w.heap.size<=j)/\CnAt wd base (⟨(hdrB (XB wd outs st)).toArray⟩,st) (Jg wd outs) evs w' cb F:=by
 have HB:Hid (JI (Ze (Jg wd outs) evs)++part=logB (Jg wd outs) evs++part):=by show JI _++part=_;rw [Jhr]
 have HFI:Hid (∀V,Env E V->base<=V.heap.size->Calls prog 100 #[.pointer none,.agg #[.string ⟨#[71]⟩,.string ⟨(Jg wd outs).toArray⟩]] V λen w'=>Tch NoB V w'/\∃cb F,en=.returned (.tuple #[.pointer (some ⟨cb,0,none⟩),.nilIface])/\(∀j,F j->V.heap.size<=j)/\CnAt wd base (⟨(hdrB (XB wd outs st)).toArray⟩,st) (Jg wd outs) [] w' cb F):=λV hEV hb=>JgG E hw1 hw outs ho h1 h3 V hEV hb st hrec
 have HSM:Hid (∀x∈Ze (Jg wd outs) evs,x.1.length=1/\x.2.length<65536):=λx hx=>by
  rcases List.mem_cons.1 hx with rfl | hx
  ·have:=JaU wd outs h3
   exact ⟨rfl,by dsimp only;omega⟩
  ·obtain ⟨e,he,rfl⟩:=List.mem_map.1 hx
   exact ⟨by cases e <;> rfl,hH.small e he⟩
 generalize Jg wd outs=g at *
 generalize (⟨(hdrB (XB wd outs st)).toArray⟩:BA)=h0 at *
 have HEV:Hid (∀k (hk:k<evs.length) V cb F,Env E V->CnAt wd base (h0,st) g (evs.take k) V cb F->Calls prog 100 #[.pointer (some ⟨cb,0,none⟩),.agg #[.string ⟨evs[k].letter.toArray⟩,.string ⟨evs[k].content.toArray⟩]] V λen w'=>en=.returned (.tuple #[.pointer (some ⟨cb,0,none⟩),.nilIface])/\ReTo wd base (h0,st) g (evs.take (k+1)) cb F V w'):=λk hk V cb F hEV hC=>by
  obtain ⟨chk,flk,hHk,hpre⟩:=hH.take (k+1) hk
  rw [List.take_succ_eq_append_getElem hk] at hHk ⊢
  refine JlL E hw1 hw evs[k] hHk (Nat.lt_of_le_of_lt hpre.length_le hm) ?_ hEV hC
  rw [<-List.take_succ_eq_append_getElem hk]
  exact Qm (List.Sublist.countP_le (List.take_sublist _ _)) hp
 have HLN:Hid ((logB g evs++part).length<=10000000000000):=hlen
 have HPA:Hid (∀q,(raR (q,part,true)).2.2.2.2=false):=hpart
 have HE:Hid (Env E w/\base<=w.heap.size):=⟨hE,hbase⟩
 clear hH hm hp hpart hlen hE hbase hrec ho h1 h3
 obtain ⟨T,hT⟩:∃T:BA,T=⟨(logB g evs++part).toArray⟩:=⟨_,rfl⟩
 rw [<-hT]
 have HT:Hid (T=⟨(logB g evs++part).toArray⟩):=hT
 clear hT
 refine (callsIn_wide (n:=6)).1 ?_
 refine callsIn_of_wp_marks func61 rfl trivial ?_ rfl
 simp only [ntmps61,List.size_toArray,Qp,Qv,Nat.reduceAdd,Nat.reduceSub,Array.replicate_succ,Array.replicate_zero,List.push_toArray,List.append_toArray,List.nil_append,List.cons_append]
 gi_wp2
 refine ⟨trivial,(callsIn_wide.2 (Jb6 _ _)).mono ?_⟩
 rintro _ _ ⟨rfl,rfl⟩
 gi_wp2
 obtain ⟨WD,hWD⟩:∃WD,WD=((w.alloc (.cells #[.pointer none] 88)).alloc (.cells #[.int .i64 0] 3)).alloc (.cells #[.string T] 9):=⟨_,rfl⟩
 rw [<-hWD]
 have hz:WD.heap.size=w.heap.size+3:=by rw [hWD];simp
 have hal:∀(V:World) (o:Obj) (j:Nat) (x:Obj),V.heap[j]? =some x->(V.alloc o).heap[j]? =some x:=λV o j x h=>(Below.heap_alloc V o j (Jb h)).trans h
 have hnw:∀(V:World) (o:Obj) (j:Nat),V.heap.size=j->(V.alloc o).heap[j]? =some o:=λV o j h=>by subst h;exact Qf V o
 have r0:WD.heap[w.heap.size]? =some (.cells #[.pointer none] 88):=by rw [hWD];exact hal _ _ _ _ (hal _ _ _ _ (hnw _ _ _ rfl))
 have r1:WD.heap[w.heap.size+1]? =some (.cells #[.int .i64 0] 3):=by rw [hWD];exact hal _ _ _ _ (hnw _ _ _ (by simp))
 have r2:WD.heap[w.heap.size+2]? =some (.cells #[.string T] 9):=by rw [hWD];exact hnw _ _ _ (by simp)
 have hT0:Tch NoB w WD:=by rw [hWD];exact (Tch.allocs _ _ _ _).go (Tch.alloc _ _ _)
 clear hal hnw hWD
 have hK:18<=w.heap.size:=HE.o.1.size
 refine Jd4 (α:=List UInt8×List UInt8×Nat) (by omega) (gf:=159) (lb:= #[.pointer (some ⟨w.heap.size+1+1,0,none⟩)]) rfl (enters_of func159 (by kernel_rfl) rfl) (encs:=JaR) (λ_=>rfl)
  (λk=>k=w.heap.size\/k=w.heap.size+1) (λk hk=>by omega) (OpI wd base (h0,st) g evs w) ?hI ⟨hT0,.inl ⟨rfl,r0,r1⟩⟩
  (λx b=>{ tmps:= #[.string T,undef,.pointer none,.int .i64 0,.nilIface,.pointer (some ⟨w.heap.size,0,none⟩),.pointer (some ⟨w.heap.size+1,0,none⟩),.pointer (some ⟨b,0,none⟩),.int .i64 (x.2.2:Int),undef,undef,.string T,.func (.func 159) #[] #[.pointer (some ⟨w.heap.size+1+1,0,none⟩)],.agg #[.string ⟨x.1.toArray⟩,.string ⟨x.2.1.toArray⟩],.int .i64 (x.2.2:Int),undef,undef,undef,undef,undef,undef,undef,undef,undef,undef,undef,undef,undef,undef,undef,undef,undef,undef,undef,undef,undef,undef,undef,undef,undef,undef,undef],defers:=[] })
  (λx=>.cells #[.string ⟨x.1.toArray⟩,.string ⟨x.2.1.toArray⟩] 195) (Yb 0 (Ze g evs)) ?hseq ?hassign ?hbody ?hdone
 case hI=>
  intro pre A B h k
  refine ⟨h.tch.trans k (λj hj=>.inr (by omega)),?_⟩
  rcases h.now with ⟨e,a0,a1⟩ | ⟨n,cb,F,e,a0,a1,a2,a3⟩
  ·exact .inl ⟨e,(k.block _ (Jb a0) (by omega)).trans a0,(k.block _ (Jb a1) (by omega)).trans a1⟩
  ·exact .inr ⟨n,cb,F,e,(k.block _ (Jb a0) (by omega)).trans a0,(k.block _ (Jb a1) (by omega)).trans a1,a2,a3.keep k (λj hj hF=>by have:=a2 j hF;omega)⟩
 case hseq=>
  intro J W hTW hWz hJ hY hJ0
  have tW:=hT0.go hTW
  refine Jb5 E (6 - 1) (by omega) (WD.heap.size+1) (w.heap.size+1+1) (Ze g evs) part HSM.o HPA.o (by rw [HB.o];exact HLN.o) W (HE.o.1.tch tW noE) ?_ (λk=>(k=w.heap.size\/k=w.heap.size+1)\/k=WD.heap.size+1\/WD.heap.size+2<k) (λk hk=>by omega) J (λpre A B h k=>hJ pre A B h (by rw [<-hWz];exact k)) (λpre x V hx hV hJV=>hY pre x V hx (by omega) hJV) hJ0
  rw [HB.o,<-HT.o]
  exact Ja ((hTW.block _ (Jb r2) (λe=>e)).trans r2)
 case hassign=>
  intro l x W K hK
  obtain ⟨x1,x2,x3⟩:=x
  simp only [JaR] at hK ⊢
  gi_wp2
  exact hK
 case hbody=>
  intro l pre x b W hpx hb2 hI hbx
  have hget:(Yb 0 (Ze g evs))[pre.length]? =some x:=by
   obtain ⟨tl,htl⟩:=hpx
   rw [<-htl,Qs,Qz (Ql _)]
   simp
  have hlt:pre.length<(Ze g evs).length:=by
   have:=(Qo.1 hget).1
   rw [YS] at this
   exact this
  rw [JbI _ 0 _ hlt,JgE,Jhr,Nat.zero_add,Qh] at hget
  have hWz:=(Jb hbx)
  have hEW:=HE.o.1.tch hI.tch noE
  have hbW:base<=W.heap.size:=Qm HE.o.2 hI.tch.size
  have HIT:Hid (Tch NoB w W):=hI.tch
  have HZ:Hid (w.heap.size+5<b/\b<W.heap.size):=⟨by omega,hWz⟩
  rcases hI.now with ⟨e,a0,a1⟩ | ⟨k,cb,F,e,a0,a1,a2,a3⟩
  ·subst e
   obtain rfl:x=([71],g,(logB g (evs.take 0)).length):=hget.symm
   have HRD:Hid (Calls prog 100 #[.pointer none,.agg #[.string ⟨#[71]⟩,.string ⟨g.toArray⟩]] W λen w'=>Tch NoB W w'/\∃cb F,en=.returned (.tuple #[.pointer (some ⟨cb,0,none⟩),.nilIface])/\(∀j,F j->W.heap.size<=j)/\CnAt wd base (h0,st) g [] w' cb F):=HFI.o W hEW hbW
   have c0:W.cell? ⟨w.heap.size,0,none⟩=some (.pointer none):=Ja a0
   have c1:W.cell? ⟨b,0,none⟩=some (.string ⟨#[71]⟩):=Ja hbx
   have c2:W.cell? ⟨b,1,none⟩=some (.string ⟨g.toArray⟩):=Ja hbx
   have HA:Hid (W.heap[w.heap.size]? =some (.cells #[.pointer none] 88)/\W.heap[w.heap.size+1]? =some (.cells #[.int .i64 0] 3)):=⟨a0,a1⟩
   clear hget hlt hWz hEW hbW hI hbx a0 a1 hpx hb2 hK r0 r1 r2 hT0 HSM HLN HPA HEV
   obtain ⟨z,hz0⟩:∃z,(logB g (evs.take 0)).length=z:=⟨_,rfl⟩
   rw [hz0]
   have HZ0:Hid ((logB g (evs.take 0)).length=z):=hz0
   clear hz0
   gi_wp2
   refine ⟨trivial,(callsIn_wide.2 HRD.o).mono ?_⟩
   rintro _ W2 ⟨ht2,cb,F,rfl,hF,hC⟩
   have b0:=(ht2.block _ (Jb HA.o.1) (λe=>e)).trans HA.o.1
   have b1:=(ht2.block _ (Jb HA.o.2) (λe=>e)).trans HA.o.2
   have HPU:Hid (_/\_):=OpI.put (evs:=evs) (pre:=[([71],g,z)]) (k:=0) (HIT.o.go ht2) rfl b0 b1 (λj hj=>by have:=hF j hj;have:=HZ.o;omega) hC
   have d0:W2.cell? ⟨w.heap.size,0,none⟩=some (.pointer none):=Ja b0
   have d1:W2.cell? ⟨w.heap.size+1,0,none⟩=some (.int .i64 0):=Ja b1
   have f0:W2.frozen? ⟨w.heap.size,0,none⟩=false:=Qg _ _ _ _ _ b0
   have f1:W2.frozen? ⟨w.heap.size+1,0,none⟩=false:=Qg _ _ _ _ _ b1
   have HT2:Hid (Tch NoB W W2):=ht2
   rw [HZ0.o] at HPU
   clear ht2 hF hC b0 b1 HRD c0 c1 c2 HA
   gi_wp2
   exact ⟨(HT2.o.mono noE).trans HPU.o.2 (λj hj=>.inl (.inl hj)),HPU.o.1⟩
  ·obtain ⟨hk2,hke⟩:∃hk2:k<evs.length,x=(evs[k].letter,evs[k].content,(logB g (evs.take (k+1))).length):=by
    have hk2:k<evs.length:=by
     unfold Ze at hlt
     rw [Qp,List.length_map,e] at hlt
     omega
    refine ⟨hk2,?_⟩
    rw [<-hget]
    clear hget hI hpx
    generalize pre.length=i at hlt e
    subst e
    simp [Ze]
   subst hke
   have HRD:Hid (Calls prog 100 #[.pointer (some ⟨cb,0,none⟩),.agg #[.string ⟨evs[k].letter.toArray⟩,.string ⟨evs[k].content.toArray⟩]] W λen w'=>en=.returned (.tuple #[.pointer (some ⟨cb,0,none⟩),.nilIface])/\ReTo wd base (h0,st) g (evs.take (k+1)) cb F W w'):=HEV.o k hk2 W cb F hEW a3
   have c0:W.cell? ⟨w.heap.size,0,none⟩=some (.pointer (some ⟨cb,0,none⟩)):=Ja a0
   have c1:W.cell? ⟨b,0,none⟩=some (.string ⟨evs[k].letter.toArray⟩):=Ja hbx
   have c2:W.cell? ⟨b,1,none⟩=some (.string ⟨evs[k].content.toArray⟩):=Ja hbx
   have HA:Hid (W.heap[w.heap.size]? =some (.cells #[.pointer (some ⟨cb,0,none⟩)] 88)/\W.heap[w.heap.size+1]? =some (.cells #[.int .i64 ((logB g (evs.take k)).length:Int)] 3)):=⟨a0,a1⟩
   have HAF:Hid (∀j,F j->w.heap.size+5<j):=a2
   have HPL:Hid (pre.length=k+1):=e
   clear hget hlt hWz hEW hbW hI hbx a0 a1 a2 a3 hpx hb2 hK r0 r1 r2 hT0 HSM HLN HPA HEV HFI e
   obtain ⟨z,hz0⟩:∃z,(logB g (evs.take (k+1))).length=z:=⟨_,rfl⟩
   rw [hz0]
   have HZ0:Hid ((logB g (evs.take (k+1))).length=z):=hz0
   clear hz0
   generalize evs[k].letter=lt at *
   generalize evs[k].content=ct at *
   gi_wp2
   refine ⟨trivial,(callsIn_wide.2 HRD.o).mono ?_⟩
   rintro _ W2 ⟨rfl,ht2,F',hF',hC⟩
   have b0:=(ht2.block _ (Jb HA.o.1) (λe=>by have:=HAF.o _ e;omega)).trans HA.o.1
   have b1:=(ht2.block _ (Jb HA.o.2) (λe=>by have:=HAF.o _ e;omega)).trans HA.o.2
   have HTW:Hid (Tch (λj=>w.heap.size+5<j) W W2):=ht2.mono (λj hj=>.inl (HAF.o j hj))
   have HPU:Hid (_/\_):=OpI.put (evs:=evs) (pre:=pre++[(lt,ct,z)]) (k:=k+1) (HIT.o.trans HTW.o (λj hj=>.inr (by omega))) (by rw [Qe,HPL.o];rfl) b0 b1 (λj hj=>by rcases hF' j hj with h | h;exact HAF.o j h;have:=HZ.o;omega) hC
   have d0:W2.cell? ⟨w.heap.size,0,none⟩=some (.pointer (some ⟨cb,0,none⟩)):=Ja b0
   have d1:W2.cell? ⟨w.heap.size+1,0,none⟩=some (.int .i64 ((logB g (evs.take k)).length:Int)):=Ja b1
   have f0:W2.frozen? ⟨w.heap.size,0,none⟩=false:=Qg _ _ _ _ _ b0
   have f1:W2.frozen? ⟨w.heap.size+1,0,none⟩=false:=Qg _ _ _ _ _ b1
   rw [HZ0.o] at HPU
   clear ht2 hF' hC b0 b1 HRD c0 c1 c2 HA
   gi_wp2
   exact ⟨(HTW.o.mono (λj hj=>.inl (.inr (by omega)))).trans HPU.o.2 (λj hj=>.inl (.inl hj)),HPU.o.1⟩
 case hdone=>
  intro D W hD hI hd
  obtain ⟨cb,F,a0,a1,a2,a3⟩:∃cb F,W.heap[w.heap.size]? =some (.cells #[.pointer (some ⟨cb,0,none⟩)] 88)/\W.heap[w.heap.size+1]? =some (.cells #[.int .i64 ((logB g evs).length:Int)] 3)/\(∀j,F j->w.heap.size+5<j)/\CnAt wd base (h0,st) g evs W cb F:=by
   rcases hI.now with ⟨e,_⟩ | ⟨k,cb,F,e,b0,b1,b2,b3⟩
   ·simp [Yb,Ze] at e
   ·rw [YS] at e
    have hk:k=evs.length:=by unfold Ze at e;rw [Qp,List.length_map] at e;omega
    subst hk
    rw [List.take_length] at b1 b3
    exact ⟨cb,F,b0,b1,b2,b3⟩
  have c0:W.cell? ⟨w.heap.size,0,none⟩=some (.pointer (some ⟨cb,0,none⟩)):=Ja a0
  have c1:W.cell? ⟨w.heap.size+1,0,none⟩=some (.int .i64 ((logB g evs).length:Int)):=Ja a1
  have hts:T.size=(logB g evs).length+part.length:=by rw [HT.o,Jw,Qe]
  have HTC:Hid (Tch NoB w W):=hI.tch
  have HFC:Hid ((∀j,F j->w.heap.size+5<j)/\CnAt wd base (h0,st) g evs W cb F):=⟨a2,a3⟩
  have HD:Hid (W.heap[D]? =some (.deferred (some []))/\D=w.heap.size+3):=⟨hd,by omega⟩
  have HLZ:Hid ((logB g evs).length<=10000000000000):=by have:=HLN.o;rw [Qe] at this;show (logB g evs).length<=_;omega
  clear a0 a1 a2 a3 hI hd hD HSM HLN HPA HEV HFI r0 r1 r2 hT0 HB
  obtain ⟨z,hz0⟩:∃z,(logB g evs).length=z:=⟨_,rfl⟩
  rw [hz0] at c1 hts HLZ
  have HZ0:Hid ((logB g evs).length=z):=hz0
  clear hz0
  by_cases hp0:part=[]
  ·have hlt:¬(z:Int)<(T.size:Int):=by rw [hts,hp0];simp
   have HP0:Hid (part=[]):=hp0
   clear hts hp0
   gi_wp2
   refine wpIn_wide.2 ?_
   go_region
   all_goals gi_wp2
   all_goals refine ⟨by simp,.inl ⟨_,_,rfl,run_takeDeferred (b:=D) (by first | exact HD.o.1 | exact HD.o.1),?_⟩⟩
   all_goals refine ⟨_,results_tmp3 results61 _ _ _,?_⟩
   all_goals
    have tP:=Tch.putObj (λk=>k=D) W.drew D (.deferred none) rfl
    have tT:Tch (λk=>k=D) W (W.drew.putObj D (.deferred none)):=(Tch.drewN (λk=>k=D) W 1).trans tP (λ_ h=>.inl h)
    refine ⟨HTC.o.trans tT (λj hj=>.inr (by have:=HD.o.2;omega)),cb,F,.nilIface,?_,?_,λj hj=>by have:=HFC.o.1 j hj;omega,HFC.o.2.keep tT (λj hj hF=>by have:=HFC.o.1 j hF;have:=HD.o.2;omega)⟩
    ·rw [HZ0.o];rfl
    ·first | rfl | rw [if_pos HP0.o]
  ·have hlt:(z:Int)<(T.size:Int):=by rw [hts];have:=List.length_pos_iff.2 hp0;omega
   have HP0:Hid (¬part=[]):=hp0
   have HIW:Hid (∀V,Tch NoB W V->Env E V):=λV hT=>(HE.o.1.tch HTC.o noE).tch hT noE
   have HIO:Hid (∀V,Tch NoB W V->Calls prog 101 #[.int .i64 (z:Int)] V λe w'=>(∃s:BA,s.size<=30/\e=.returned (.string s))/\Tch NoB V w'):=λV hT=>Jj1 (HIW.o V hT) z HLZ.o
   have HCC:Hid (∀V,Tch NoB W V->V.cell? ⟨w.heap.size,0,none⟩=some (.pointer (some ⟨cb,0,none⟩))/\V.cell? ⟨w.heap.size+1,0,none⟩=some (.int .i64 (z:Int))/\V.cell? ⟨6,0,none⟩=some (eV E 6)):=λV hT=>⟨(hT.cell (Qr _ _ c0) (λh=>h)).trans c0,(hT.cell (Qr _ _ c1) (λh=>h)).trans c1,(HIW.o V hT).torn⟩
   obtain ⟨_,_,c3⟩:=HCC.o W (Tch.refl _ _)
   clear hts hp0
   gi_wp2
   refine wpIn_wide.2 ?_
   go_region_held3 (λV=>V.cell? ⟨w.heap.size,0,none⟩=some (.pointer (some ⟨cb,0,none⟩))/\V.cell? ⟨w.heap.size+1,0,none⟩=some (.int .i64 (z:Int))/\V.cell? ⟨6,0,none⟩=some (eV E 6)) (go_keep) ((first
    | (go_at_call 101;refine (HIO.o _ (Tch.drewN _ W 1)).mono ?_;rintro _ w3 ⟨⟨s1,hs1,rfl⟩,ht3⟩;have HT3:Hid (Tch NoB W w3):=(Tch.drewN NoB W 1).go ht3;have hnb:¬((⟨#[98,121,116,101,32]⟩:BA).size+s1.size > 9223372036854775807):=(by show ¬(5+s1.size > 9223372036854775807);omega);have hnb2:5+s1.size<=9223372036854775807:=(by omega);have hnb3:¬(9223372036854775807<5+s1.size):=(by omega);obtain ⟨e0,e1,e2⟩:=HCC.o _ HT3.o;clear ht3 hs1)
    | (go_at_call 80;refine (Xz _ _ _ _).mono ?_;rintro _ w4 ⟨rfl,hw4⟩;have HW4:Hid (w4=_):=hw4;have HT4:Hid (Tch NoB W w4):=HT3.o.go (by rw [hw4];exact Tch.alloc _ _ _);have HR4:Hid (∃s,w4.heap[w3.heap.size]? =some (.cells #[.string s,eV E 6] 237)):=⟨_,by rw [hw4];exact Qf _ _⟩;obtain ⟨h0',h1',h2'⟩:=HCC.o _ HT4.o;clear hw4)))
   all_goals gi_wp2
   all_goals
    have h4D:=(HT4.o.block D (Jb HD.o.1) (λe=>e)).trans HD.o.1
    refine ⟨by simp,.inl ⟨_,_,rfl,run_takeDeferred (b:=D) h4D,?_⟩⟩
    refine ⟨_,results_tmp3 results61 _ _ _,?_⟩
    have tP:=Tch.putObj (λk=>k=D) w4 D (.deferred none) rfl
    have tT:Tch (λk=>k=D) W (w4.putObj D (.deferred none)):=(HT4.o.mono noE).trans tP (λ_ h=>.inl h)
    obtain ⟨sx,hsx⟩:=HR4.o
    refine ⟨HTC.o.trans tT (λj hj=>.inr (by have:=HD.o.2;omega)),cb,F,.iface 235 (.pointer (some ⟨w3.heap.size,0,none⟩)),?_,?_,λj hj=>by have:=HFC.o.1 j hj;omega,HFC.o.2.keep tT (λj hj hF=>by have:=HFC.o.1 j hF;have:=HD.o.2;omega)⟩
    rotate_left
    ·exact (by first | exact ⟨_,_,rfl,.wrap w3.heap.size sx _ ((tP.block _ (Jb hsx) (by have:=HT3.o.size;have:=(Jb HD.o.1);omega)).trans hsx) .base⟩ | exact (if_neg HP0.o).mpr ⟨_,_,rfl,.wrap w3.heap.size sx _ ((tP.block _ (Jb hsx) (by have:=HT3.o.size;have:=(Jb HD.o.1);omega)).trans hsx) .base⟩)
    ·rw [HZ0.o];rfl

theorem Jnb {w:World} (s:BA) (place c:Int) (Q:World->Nat->Value->Prop) (h:Calls prog 61 #[.string s] w λe w'=>∃cb er,e=.returned (.tuple #[.pointer (some ⟨cb,0,none⟩),.int .i64 place,er])/\Q w' cb er)
  (hC:∀w1 cb er,Q w1 cb er->∀V,Tch NoB w1 V->Calls prog 42 #[er] V λe w'=>e=.returned (.int .i64 c)/\Tch NoB V w'):
  Calls prog 32 #[.string s] w λe w'=>∃w1 cb er,Q w1 cb er/\Tch NoB (w1.alloc (.cells #[.pointer (some ⟨cb,0,none⟩)] 90)) w'/\e=.returned (.tuple #[.pointer (some ⟨w1.heap.size,0,none⟩),.int .i64 place,.int .i64 c]):=by
 have H:Hid (Calls _ _ _ _ _):=h
 have HC:Hid (∀w1 cb er,Q w1 cb er->∀V,Tch NoB w1 V->Calls prog 42 #[er] V λe w'=>e=.returned (.int .i64 c)/\Tch NoB V w'):=hC
 clear h hC
 go_enter func32,ntmps32
 go_wp2_with fail
 refine H.out.mono ?_
 rintro _ w1 ⟨cb,er,rfl,hq⟩
 have HQ:Hid (Q w1 cb er):=hq
 clear hq H
 go_wp2_with fail
 refine (HC.o w1 cb er HQ.o _ (Tch.alloc _ _ _)).mono ?_
 rintro _ w2 ⟨rfl,ht2⟩
 have HT2:Hid (Tch NoB _ w2):=ht2
 clear ht2 HC
 go_wp2
 refine QJ (v:=.tuple #[.pointer (some ⟨w1.heap.size,0,none⟩),.int .i64 place,.int .i64 c]) (results_tmp3 results32 _ _ _) rfl ?_
 exact ⟨w1,cb,er,HQ.o,HT2.o,rfl⟩
theorem Hist.hdrs {wd:Nat} (hw:wd<=32) {c0:BA×Option Tr} (h0:HdIs wd c0) {evs:List Ev} {ch:Ch} {fl:Nat} (h:Hist wd c0 evs ch fl):∀c∈ch,HdIs wd c:=by
 induction h with
 | nil=>intro c hc;rw [Qt] at hc;rw [hc];exact h0
 | blk t _ h2 _ ih=>exact Jf1 hw ih h2
 | flo n _ _ _ _ ih=>exact ih
theorem Jnt (E:Nat->Addr) {wd base:Nat} (hw1:1<=wd) (hw:wd<=32) (outs:List (Nat×Nat)) (ho:∀o∈outs,Jv o) (h1:1<=outs.length) (h3:outs.length<=3) (st:Option Tr) (hrec:JH (dgW wd (71 :: JX outs)) 0 outs none=.ok st) (evs:List Ev) {ch:Ch} {fl:Nat} (hH:Hist wd (⟨(hdrB (XB wd outs st)).toArray⟩,st) evs ch fl) (hm:ch.length<134217728) (hp:flos evs<=134217728)
  (part:List UInt8) (hpart:∀q,(raR (q,part,true)).2.2.2.2=false) (hlen:(logB (Jg wd outs) evs++part).length<=10000000000000) (w:World) (hF:JU E base w) (hbase:base<=w.heap.size):
  Calls prog 32 #[.string ⟨(logB (Jg wd outs) evs++part).toArray⟩] w λe w'=>Tch NoB w w'/\∃lb F cb r bs lv,e=.returned (.tuple #[.pointer (some ⟨lb,0,none⟩),.int .i64 ((logB (Jg wd outs) evs).length:Int),.int .i64 (if part=[] then 0 else 8)])/\(∀j,F j->w.heap.size<=j)/\Xr wd base (flos evs) w' lb F fl ch (logB (Jg wd outs) evs) cb r bs lv:=by
 have H:=Jmt E hw1 hw outs ho h1 h3 st hrec evs hH hm hp part hpart hlen w hF.env hbase
 refine (Jnb (c:=if part=[] then 0 else 8) _ ((logB (Jg wd outs) evs).length:Int) (λw' cb er=>Tch NoB w w'/\∃F,(if part=[] then er=.nilIface else ∃t u,er=.iface t u/\Jn E 6 w' (.iface t u))/\(∀j,F j->w.heap.size<=j)/\CnAt wd base (⟨(hdrB (XB wd outs st)).toArray⟩,st) (Jg wd outs) evs w' cb F) (H.mono λe w' k=>?_) (λw1 cb er k V hT=>?_)).mono ?_
 ·obtain ⟨k0,cb,F,er,k1,k2⟩:=k
  exact ⟨cb,er,k1,k0,F,k2⟩
 ·obtain ⟨k0,F,k1,_⟩:=k
  have hFV:=hF.tch (k0.go hT) noE
  by_cases hp0:part=[]
  ·rw [if_pos hp0] at k1 ⊢
   rw [k1]
   exact (YT V).mono λe w' h=>⟨h.1,by rw [h.2];exact Tch.refl _ _⟩
  ·rw [if_neg hp0] at k1 ⊢
   obtain ⟨t,u,rfl,k2⟩:=k1
   exact (JbD 6 (by decide) hFV.env hFV.sent _ (k2.tch hT (λ_ _ _ _ h=>h))).mono λe w' h=>⟨h.1,by rw [h.2];exact Tch.refl _ _⟩
 ·rintro e w' ⟨w1,cb,er,⟨k0,F,_,k2,k3⟩,k4,rfl⟩
  obtain ⟨ch2,fl2,r,bs,lv,C,H2⟩:=k3
  obtain ⟨rfl,rfl⟩:=H2.same hH
  have hb1:base<=w1.heap.size:=Qm hbase k0.size
  exact ⟨(k0.go (Tch.alloc _ _ _)).go k4,w1.heap.size,λj=>j=w1.heap.size\/F j,cb,r,bs,lv,rfl,λj hj=>by rcases hj with rfl | hj;exact k0.size;exact k2 j hj,(C.about hb1).keep k4 (λ_ e=>e.elim)⟩

def c0O (wd:Nat) (outs:List (Nat×Nat)) (st:Option Tr):BA×Option Tr:=(⟨(hdrB (XB wd outs st)).toArray⟩,st)
structure Jjb (wd:Nat) (outs:List (Nat×Nat)) (st:Option Tr):Prop where
 w1:1<=wd
 w32:wd<=32
 ok:∀o∈outs,Jv o
 one:1<=outs.length
 three:outs.length<=3
 first:JH (dgW wd (71 :: JX outs)) 0 outs none=.ok st
def HAt (wd base:Nat) (outs:List (Nat×Nat)) (st:Option Tr) (evs:List Ev) (pn:Nat) (w:World) (lb:Nat) (F:Nat->Prop) (fl:Nat) (ch:Ch):Prop:=
 Jjb wd outs st/\∃evs' cb r bs lv,evs <+:evs'/\flos evs'=pn/\Hist wd (c0O wd outs st) evs' ch fl/\Xr wd base pn w lb F fl ch (logB (Jg wd outs) evs') cb r bs lv
theorem HAt.l {wd base pn:Nat} {outs:List (Nat×Nat)} {st:Option Tr} {evs:List Ev} {w:World} {lb:Nat} {F:Nat->Prop} {fl:Nat} {ch:Ch} (h:HAt wd base outs st evs pn w lb F fl ch):LAt wd base pn w lb F fl ch:=by
 obtain ⟨hB,evs',cb,r,bs,lv,_,_,_,C⟩:=h
 exact ⟨⟨hB.w1,hB.w32⟩,_,cb,r,bs,lv,C⟩
theorem HAt.hdrs {wd base pn:Nat} {outs:List (Nat×Nat)} {st:Option Tr} {evs:List Ev} {w:World} {lb:Nat} {F:Nat->Prop} {fl:Nat} {ch:Ch} (h:HAt wd base outs st evs pn w lb F fl ch):∀c∈ch,HdIs wd c:=by
 obtain ⟨hB,evs',cb,r,bs,lv,_,_,hH,_⟩:=h
 exact hH.hdrs hB.w32 (Jh2 wd hB.w32 outs st)
theorem JeP {wd:Nat} (hw:wd<=32) {ch ch':Ch} {t:List UInt8} (h:Xt (dgW wd) wd ch t=.ok ch'):t.length<65536:=by
 unfold Xt at h
 split at h
 ·rename_i y pre body hh
  obtain ⟨b,r',l1,e1,e2,_⟩:=Jbl wd hw _ _ _ _ _ hh
  split at h
  ·rename_i ts q hb
   obtain ⟨b2,r2,l2,e3,e4,_⟩:=JaA wd hw _ _ _ _ hb
   simp only [PS.rd.injEq] at e2 e4
   rw [e1,<-e2.2,e3,<-e4.2]
   simp only [Qe,Qv]
   omega
  ·cases h
 ·cases h
theorem Jbb (E:Nat->Addr) (wd base:Nat) {outs:List (Nat×Nat)} {st0:Option Tr} {evs:List Ev} {pn:Nat} {w:World} {lb:Nat} {F:Nat->Prop} {fl:Nat} {ch:Ch} (s:BA) (hA:HAt wd base outs st0 evs pn w lb F fl ch) (hF:JU E base w) (hs:s.size<=1000000) (hc:ch.length<2 ^ 27):
  Calls Tryz.prog 19 #[.pointer (some ⟨lb,0,none⟩),.string s] w λe w'=>Tch F w w'/\∃F':Nat->Prop,(∀j,F' j->F j\/w.heap.size<=j)/\match Xt (dgW wd) wd ch s.data.toList with
   | .ok ch'=>e=.returned (.int .i64 0)/\HAt wd base outs st0 evs pn w' lb F' fl ch'
   | .error er=>e=.returned (.int .i64 (Xu er))/\HAt wd base outs st0 evs pn w' lb F' fl ch:=by
 obtain ⟨hB,evs',cb,r,bs,lv,hpre,hpn,hH,C⟩:=hA
 have hl:w.cell? ⟨lb,0,none⟩=some (.pointer (some ⟨cb,0,none⟩)):=Ja C.led
 obtain ⟨m,bh,q,st,hm,hbm,hb,hcm,hbs,hst,hok,hlast⟩:=C.last
 have hbw:base<=w.heap.size:=by have:=C.low lb C.ownL;omega
 have hst2:StAt (dgW wd) (λj=>(F j/\¬some j=lv.ownBlock)\/w.heap.size<=j) w q st:=hst.refine (λj hj hc=>.inl ⟨hj,λe=>by
  obtain ⟨cc,hc⟩:=hc
  obtain ⟨cu,mm,hr⟩:=C.log.kind j e.symm
  rw [hc] at hr
  simp at hr⟩)
 have hsh:=C.short
 have hfw:=C.few
 have H:=Ja3 E hF.env hB.w1 hB.w32 C.row m hbm (by omega) bh q st hb hbs (λj=>(F j/\¬some j=lv.ownBlock)\/w.heap.size<=j) (λj hj=>.inr hj) hst2 hok base hbw _ C.log (by omega) s hs
 have hse:=Jc8 (dgW wd) wd m bh st ch hm hlast (text:=s.data.toList)
 rw [hse]
 cases hp:subP (dgW wd) wd m bh st s.data.toList with
 | error er=>
  rw [hp] at H
  refine (Jfl (λw' k=>hF.next k) er hl s H).mono λe w' k=>⟨k.2.mono noE,F,λj hj=>.inl hj,k.1,hB,evs',cb,r,bs,lv,hpre,hpn,hH,C.keep k.2 noE⟩
 | ok x=>
  obtain ⟨hd,st'⟩:=x
  rw [hp] at H hse
  refine (Jgm hl s _ H).mono λe w' k=>?_
  obtain ⟨k0,q',lv',k1,k2,k3,k4,k5,k6⟩:=k
  have hx:(recB [66] s.data.toList).length<=1000100:=by rw [Yj,XU];simp only [Qp,Qv];omega
  obtain ⟨F',hF',C'⟩:=C.more (by omega) hx k1 k2 k3 k4 k5 k6 (Jd9 hB.w32 hp) hbw
  refine ⟨k5.mono (λj hj=>.inl ?_),F',hF',k0,hB,evs'++[.blk s.data.toList],cb,r,_,lv',hpre.trans (List.prefix_append _ _),by rw [Zz,hpn];rfl,.blk _ hH hse (JeP hB.w32 hse),by rw [ZB];exact C'⟩
  rcases hj with rfl | rfl | e
  ·exact C.ownC
  ·exact C.ownR
  ·exact C.ownG j e.symm
def Xg (E:Nat->Addr) (base wd:Nat) (outs:List (Nat×Nat)) (st:Option Tr) (evs:List Ev) (pn:Nat):Led E wd base where
 At:=HAt wd base outs st evs pn
 keep:=λh k hs=>by
  obtain ⟨hB,evs',cb,r,bs,lv,h1,h2,h3,C⟩:=h
  exact ⟨hB,evs',cb,r,bs,lv,h1,h2,h3,C.keep k hs⟩
 own:=λh j hj=>by obtain ⟨hB,evs',cb,r,bs,lv,h1,h2,h3,C⟩:=h;exact C.low j hj
 kinds:=λh j hj cur T m hr=>by
  obtain ⟨hB,evs',cb,r,bs,lv,h1,h2,h3,C⟩:=h
  rcases C.kind j hj cur T m hr with rfl | rfl | rfl | rfl <;> decide
 tip:=λh _=>Jcn wd base h.l
 header:=λh hA hF _ _=>JcF E wd base h hA.l hF
 seals:=λv ts hA hF hv hts h3 hc=>JdU E wd base v ts hA.l hF hv hts h3 hc
 submits:=λs hA hF hs hc=>Jbb E wd base s hA hF hs hc
theorem JiX (E:Nat->Addr) (base wd:Nat) (outs:List (Nat×Nat)) (st:Option Tr) (evs:List Ev) (pn:Nat):LedQ (Xg E base wd outs st evs pn) where
 oks:=λh n c' hn hf=>by
  obtain ⟨hB,evs',cb,r,bs,lv,h1,h2,h3,C⟩:=h
  have hnl:=(Qo.1 hn).1
  exact (C.st n _ c' (Qd (by rw [C.len];exact hnl)) hn hf).2.2
 hdrs:=λh=>HAt.hdrs h
 qin:=λn c' c hA hF hn hf hok hc=>Jlj E wd base n c' c hA.l hF hn hf hok hc
 qout:=λh c hA hF hh=>Jj6 E wd base h c hA.l hF hh
theorem JgZ (E:Nat->Addr) (base wd:Nat) (outs:List (Nat×Nat)) (st:Option Tr) (evs:List Ev) (pn:Nat) (hp:pn<134217728):Jl5 (Xg E base wd outs st evs pn) (Xg E base wd outs st evs (pn+1)) where
 pin:=λ{w lb F fl ch} n hA hF hf hn=>by
  obtain ⟨hB,evs',cb,r,bs,lv,h1,h2,h3,C⟩:=hA
  have hl:w.cell? ⟨lb,0,none⟩=some (.pointer (some ⟨cb,0,none⟩)):=Ja C.led
  have hbw:base<=w.heap.size:=by have:=C.low lb C.ownL;omega
  have hsh:=C.short
  have hfw:=C.few
  have hm:=C.most
  refine (JhY hl n _ (Jcv E hF.env C.row base hbw _ C.log (by omega) n hf (by rw [C.len];exact hn) (by rw [C.len];omega))).mono λe w' k=>?_
  obtain ⟨k0,lv',bs',k1,k2,k3,k4,k5⟩:=k
  obtain ⟨F',hF',C'⟩:=C.prune hp hf hn (by rw [Yj,Je];simp) k1 k2 k3 k4 k5 hbw
  refine ⟨k0,k4.mono (λj hj=>.inl ?_),F',hF',hB,evs'++[.flo n],cb,r,_,lv',h1.trans (List.prefix_append _ _),by rw [Zz,h2];rfl,.flo n h3 hf hn (by omega),by rw [ZB];exact C'⟩
  rcases hj with rfl | rfl | e
  ·exact C.ownC
  ·exact C.ownR
  ·exact C.ownG j e.symm
 pout:=λ{w lb F fl ch} h hA hF hh=>by
  obtain ⟨hB,evs',cb,r,bs,lv,h1,h2,h3,C⟩:=hA
  have hl:w.cell? ⟨lb,0,none⟩=some (.pointer (some ⟨cb,0,none⟩)):=Ja C.led
  exact Jgk (λw' k=>hF.next k) .range hl h (Jfa E hF.env C.row h (by rw [C.len];exact hh))
def JlY (E:Nat->Addr) (base wd:Nat):Led E wd base where
 At:=λw lb F fl ch=>∃outs st,HAt wd base outs st [] 0 w lb F fl ch
 keep:=λ⟨o,s,h⟩ k hs=>⟨o,s,(Xg E base wd o s [] 0).keep h k hs⟩
 own:=λ⟨o,s,h⟩ j hj=>(Xg E base wd o s [] 0).own h j hj
 kinds:=λ⟨o,s,h⟩ j hj cur T m hr=>(Xg E base wd o s [] 0).kinds h j hj cur T m hr
 tip:=λ⟨_,_,h⟩ _=>Jcn wd base h.l
 header:=λh ⟨_,_,hA⟩ hF _ _=>JcF E wd base h hA.l hF
 seals:=λv ts ⟨_,_,hA⟩ hF hv hts h3 hc=>JdU E wd base v ts hA.l hF hv hts h3 hc
 submits:=λ{_ _ _ _ ch} s ⟨o,st,hA⟩ hF hs hc=>(Jbb E wd base s hA hF hs hc).mono λe w' k=>by
  obtain ⟨k0,F',k1,k2⟩:=k
  refine ⟨k0,F',k1,?_⟩
  cases hr:Xt (dgW wd) wd ch s.data.toList with
  | ok ch'=>rw [hr] at k2;exact ⟨k2.1,o,st,k2.2⟩
  | error er=>rw [hr] at k2;exact ⟨k2.1,o,st,k2.2⟩
def Jeb (E:Nat->Addr) (base:Nat):Jje E base where
 led:=JlY E base
 make:=λwd {w} v outs hw1 hw hF hbw hv h1 h3 ho=>by
  obtain ⟨st,hst⟩:=JbJ (dgW wd (71 :: JX outs)) outs ho h3
  have H:=JdG E wd hw1 hw v outs ho h1 h3 w hF.env hv base hbw st hst
  obtain ⟨ia,ic,hvs⟩:=hv.shape
  subst hvs
  refine (fNew (wd:Int) ia outs.length ic (λw' cb=>JdA wd base outs st w (.returned (.tuple #[.pointer (some ⟨cb,0,none⟩),.nilIface])) w') (H.mono λe w' k=>?_)).mono ?_
  ·obtain ⟨_,cb,_,_,_,rfl,_⟩:=id k
   exact ⟨cb,rfl,k⟩
  ·rintro e w' ⟨w1,cb,⟨k0,cb2,r,q,lv,e2,k1,k2,k3,k4,k5,k6,k7⟩,rfl,rfl⟩
   simp only [Ending.returned.injEq,Value.tuple.injEq,Array.mk.injEq,QH,Value.pointer.injEq,Qh,Addr.mk.injEq,and_true] at e2
   subst e2
   have C:=(Yq.first hw h3 hbw k1 k2 k3 k4 k5 k6 k7).about (Qm hbw k0.size)
   exact ⟨k0.go (Tch.alloc _ _ _),w1.heap.size,_,_,st,rfl,⟨outs,st,⟨hw1,hw,ho,h1,h3,hst⟩,[],cb,r,_,lv,List.prefix_refl _,rfl,.nil,by rw [show logB (Jg wd outs) []=recB [71] (Jg wd outs) from QC _];exact C⟩,hst⟩

attribute [local go_sem] Oper.semAt_some

theorem Jk6 (E:Nat->Addr) (part:List UInt8) (hpart:∀q,(raR (q,part,true)).2.2.2.2=false) (hlen:part.length<=10000000000000) (w:World) (hE:Env E w):
  Calls prog 61 #[.string ⟨part.toArray⟩] w λe w'=>Tch NoB w w'/\∃t u,e=.returned (.tuple #[.pointer none,.int .i64 0,.iface t u])/\Jn E 7 w' (.iface t u):=by
 have HLN:Hid (part.length<=10000000000000):=hlen
 have HPA:Hid (∀q,(raR (q,part,true)).2.2.2.2=false):=hpart
 have HE:Hid (Env E w):=hE
 clear hpart hlen hE
 obtain ⟨T,hT⟩:∃T:BA,T=⟨part.toArray⟩:=⟨_,rfl⟩
 rw [<-hT]
 have HT:Hid (T=⟨part.toArray⟩):=hT
 clear hT
 refine (callsIn_wide (n:=6)).1 ?_
 refine callsIn_of_wp_marks func61 rfl trivial ?_ rfl
 simp only [ntmps61,List.size_toArray,Qp,Qv,Nat.reduceAdd,Nat.reduceSub,Array.replicate_succ,Array.replicate_zero,List.push_toArray,List.append_toArray,List.nil_append,List.cons_append]
 gi_wp2
 refine ⟨trivial,(callsIn_wide.2 (Jb6 _ _)).mono ?_⟩
 rintro _ _ ⟨rfl,rfl⟩
 gi_wp2
 obtain ⟨WD,hWD⟩:∃WD,WD=((w.alloc (.cells #[.pointer none] 88)).alloc (.cells #[.int .i64 0] 3)).alloc (.cells #[.string T] 9):=⟨_,rfl⟩
 rw [<-hWD]
 have hz:WD.heap.size=w.heap.size+3:=by rw [hWD];simp
 have hal:∀(V:World) (o:Obj) (j:Nat) (x:Obj),V.heap[j]? =some x->(V.alloc o).heap[j]? =some x:=λV o j x h=>(Below.heap_alloc V o j (Jb h)).trans h
 have hnw:∀(V:World) (o:Obj) (j:Nat),V.heap.size=j->(V.alloc o).heap[j]? =some o:=λV o j h=>by subst h;exact Qf V o
 have r0:WD.heap[w.heap.size]? =some (.cells #[.pointer none] 88):=by rw [hWD];exact hal _ _ _ _ (hal _ _ _ _ (hnw _ _ _ rfl))
 have r1:WD.heap[w.heap.size+1]? =some (.cells #[.int .i64 0] 3):=by rw [hWD];exact hal _ _ _ _ (hnw _ _ _ (by simp))
 have r2:WD.heap[w.heap.size+2]? =some (.cells #[.string T] 9):=by rw [hWD];exact hnw _ _ _ (by simp)
 have hT0:Tch NoB w WD:=by rw [hWD];exact (Tch.allocs _ _ _ _).go (Tch.alloc _ _ _)
 clear hal hnw hWD
 have hK:18<=w.heap.size:=HE.o.size
 refine Jd4 (α:=List UInt8×List UInt8×Nat) (by omega) (gf:=159) (lb:= #[.pointer (some ⟨w.heap.size+1+1,0,none⟩)]) rfl (enters_of func159 (by kernel_rfl) rfl) (encs:=JaR) (λ_=>rfl)
  NoB (λk hk=>hk.elim) (λpre V=>pre=[]/\Tch NoB w V/\V.heap[w.heap.size]? =some (.cells #[.pointer none] 88)) ?hI ⟨rfl,hT0,r0⟩
  (λx b=>{ tmps:= #[.string T,undef,.pointer none,.int .i64 0,.nilIface,.pointer (some ⟨w.heap.size,0,none⟩),.pointer (some ⟨w.heap.size+1,0,none⟩),.pointer (some ⟨b,0,none⟩),.int .i64 (x.2.2:Int),undef,undef,.string T,.func (.func 159) #[] #[.pointer (some ⟨w.heap.size+1+1,0,none⟩)],.agg #[.string ⟨x.1.toArray⟩,.string ⟨x.2.1.toArray⟩],.int .i64 (x.2.2:Int),undef,undef,undef,undef,undef,undef,undef,undef,undef,undef,undef,undef,undef,undef,undef,undef,undef,undef,undef,undef,undef,undef,undef,undef,undef,undef,undef],defers:=[] })
  (λx=>.cells #[.string ⟨x.1.toArray⟩,.string ⟨x.2.1.toArray⟩] 195) [] ?hseq ?hassign ?hbody ?hdone
 case hI=>
  intro pre A B h k
  exact ⟨h.1,h.2.1.trans k (λj hj=>.inr (by omega)),(k.block _ (Jb h.2.2) (by omega)).trans h.2.2⟩
 case hseq=>
  intro J W hTW hWz hJ hY hJ0
  have tW:=hT0.go hTW
  refine Jb5 E (6 - 1) (by omega) (WD.heap.size+1) (w.heap.size+1+1) [] part (λx hx=>by cases hx) HPA.o HLN.o W (HE.o.tch tW noE) ?_ (λk=>False\/k=WD.heap.size+1\/WD.heap.size+2<k) (λk hk=>by rcases hk with h | h | h;exact h.elim;omega;omega) J (λpre A B h k=>hJ pre A B h (by rw [<-hWz];exact k)) (λpre x V hx hV hJV=>hY pre x V hx (by omega) hJV) hJ0
  have:W.cell? ⟨w.heap.size+1+1,0,none⟩=some (.string T):=Ja ((hTW.block _ (Jb r2) (λe=>e)).trans r2)
  rw [HT.o] at this
  exact this
 case hassign=>
  intro l x W K hK
  obtain ⟨x1,x2,x3⟩:=x
  simp only [JaR] at hK ⊢
  gi_wp2
  exact hK
 case hbody=>
  intro l pre x b W hpx hb2 hI hbx
  have:=hpx.length_le
  simp at this
 case hdone=>
  intro D W hD hI hd
  have c0:W.cell? ⟨w.heap.size,0,none⟩=some (.pointer none):=Ja hI.2.2
  have hEW:=HE.o.tch hI.2.1 noE
  have c7:=hEW.form
  have HTC:Hid (Tch NoB w W):=hI.2.1
  have HD:Hid (W.heap[D]? =some (.deferred (some []))/\D=w.heap.size+3):=⟨hd,by omega⟩
  clear hI hd hD hEW r0 r1 r2 hT0 HLN HPA
  gi_wp2
  refine ⟨trivial,(callsIn_wide.2 (Xz _ _ _ _)).mono ?_⟩
  rintro _ w4 ⟨rfl,hw4⟩
  have HT4:Hid (Tch NoB W w4):=by rw [hw4];exact Tch.alloc _ _ _
  have HR4:Hid (∃s,w4.heap[W.heap.size]? =some (.cells #[.string s,eV E 7] 237)):=⟨_,by rw [hw4];exact Qf _ _⟩
  clear hw4
  gi_wp2
  have h4D:=(HT4.o.block D (Jb HD.o.1) (λe=>e)).trans HD.o.1
  refine ⟨by simp,.inl ⟨_,_,rfl,run_takeDeferred (b:=D) h4D,?_⟩⟩
  refine ⟨_,results_tmp3 results61 _ _ _,?_⟩
  have tP:=Tch.putObj (λk=>k=D) w4 D (.deferred none) rfl
  have tT:Tch (λk=>k=D) W (w4.putObj D (.deferred none)):=(HT4.o.mono noE).trans tP (λ_ h=>.inl h)
  obtain ⟨sx,hsx⟩:=HR4.o
  refine ⟨HTC.o.trans tT (λj hj=>.inr (by have:=HD.o.2;omega)),235,.pointer (some ⟨W.heap.size,0,none⟩),rfl,.wrap W.heap.size sx _ ((tP.block _ (Jb hsx) (by have:=(Jb HD.o.1);omega)).trans hsx) .base⟩
theorem JmU (E:Nat->Addr) {base:Nat} (part:List UInt8) (hpart:∀q,(raR (q,part,true)).2.2.2.2=false) (hlen:part.length<=10000000000000) (w:World) (hF:JU E base w):
  Calls prog 32 #[.string ⟨part.toArray⟩] w λe w'=>e=.returned (.tuple #[.pointer none,.int .i64 0,.int .i64 1])/\Tch NoB w w':=by
 have H:Hid (Calls _ _ _ _ _):=Jk6 E part hpart hlen w hF.env
 have HF:Hid (JU E base w):=hF
 clear hpart hlen hF
 generalize (⟨part.toArray⟩:BA)=s at *
 go_enter func32,ntmps32
 go_wp2_with fail
 refine H.out.mono ?_
 rintro _ w1 ⟨ht1,t,u,rfl,he⟩
 have hF1:=HF.o.tch ht1 noE
 have HEN:Hid (Calls prog 42 #[.iface t u] w1 λe w'=>e=.returned (.int .i64 1)/\w'=w1):=JbD 7 (by decide) hF1.env hF1.sent _ he
 have HT1:Hid (Tch NoB w w1):=ht1
 clear ht1 he hF1 H
 go_wp2_with fail
 refine HEN.o.mono ?_
 rintro _ w2 ⟨rfl,hw2⟩
 have HT2:Hid (Tch NoB w w2):=by rw [hw2];exact HT1.o
 clear hw2 HEN
 go_wp2
 exact QJ (v:=.tuple #[.pointer none,.int .i64 0,.int .i64 1]) (results_tmp3 results32 _ _ _) rfl ⟨rfl,HT2.o⟩
