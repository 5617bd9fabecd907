import Derived.Test.YtighkdnooglfjaaGreatDoorBxPSe
import Derived.Test.YtighkdnooglfjaaGreatDoorBxRsB
import Derived.Test.YtighkdnooglfjaaGreatDoorBxRfI
import Derived.Test.YtighkdnooglfjaaGreatDoorBxLxC
namespace Go.Proofs.YtighkdnooglfjaaGreatDoor
open Go.RowKit

theorem Jgk (wj:Nat) (hw:wj<=32) (ch:Ch) (ts:List TxL) (ho:∀t∈ts,∀o∈t.2,JC o):(Xy wj ch ts).1.size<=1000:=by
 unfold Xy
 split
 ·rename_i hm
  obtain ⟨h3,hts⟩:=(JaV wj ts ho).1 hm
  split
  ·rename_i st _
   rw [Jk]
   have h1:=Jbq wj hw ts hts ts.length
   rw [Jbp] at h1
   unfold Zr Jar hdrB
   simp only [Qe,Je,XV,Jq wj hw,Xk (dgW wj) wj (Jq wj hw)]
   omega
  ·exact Nat.zero_le _
 ·exact Nat.zero_le _
theorem JfA {wj:Nat} {ch ch':Ch} {t:List UInt8} (h:Xi wj ch t=.ok ch'):ch'.length=ch.length+1:=by
 unfold Xi at h
 split at h
 ·cases h
 ·split at h
  ·cases h
  ·split at h
   ·cases h
   ·split at h
    ·cases h
    ·split at h
     ·cases h
     ·cases h
      simp
theorem JhI {α β:Type} (f:α->β) (l:List α) (d:α):l.map f=(List.range l.length).map λi=>f (l.getD i d):=by
 apply List.ext_getElem?
 intro i
 rw [List.getElem?_map,List.getElem?_map]
 by_cases h:i<l.length
 ·rw [List.getElem?_range h,Qd h]
  simp [h]
 ·rw [List.getElem?_eq_none (by omega),List.getElem?_eq_none (by simp;omega)]
  rfl
abbrev dSl:Sl×Sl:=((none,0,0),none,0,0)
def cOf (ts:List TxL) (i:Nat):List VV:=(ts.getD i ([],[])).1.map encC
def oOf (ts:List TxL) (i:Nat):List VV:=(ts.getD i ([],[])).2.map encO
theorem TxsR.vr {B:Nat} {w:World} {v:Value} {l:List (Sl×Sl)} (h:TxsR B w v l):VR B w v (l.map encT):=by
 rcases h with ⟨h,rfl⟩ | ⟨gi,oi,c,h1,h2,h3,h4⟩
 ·exact .inl ⟨h,rfl⟩
 ·exact .inr ⟨gi,oi,c,by rw [QM];exact h1,h2,h3,λi hi=>by rw [QM] at hi;rw [List.getElem_map];exact h4 i hi⟩
theorem XL.vr {B:Nat} {w:World} {v:Value} {l:List (BA×Int)} (h:XL B w v l):VR B w v (l.map encC):=by
 rcases h with ⟨h,rfl⟩ | ⟨gi,oi,c,h1,h2,h3,h4⟩
 ·exact .inl ⟨h,rfl⟩
 ·exact .inr ⟨gi,oi,c,by rw [QM];exact h1,h2,h3,λi hi=>by rw [QM] at hi;rw [List.getElem_map];exact h4 i hi⟩
theorem XE.vr {B:Nat} {w:World} {v:Value} {l:List (Nat×Nat)} (h:XE B w v l):VR B w v (l.map encO):=by
 rcases h with ⟨h,rfl⟩ | ⟨gi,oi,c,h1,h2,h3,h4⟩
 ·exact .inl ⟨h,rfl⟩
 ·exact .inr ⟨gi,oi,c,by rw [QM];exact h1,h2,h3,λi hi=>by rw [QM] at hi;rw [List.getElem_map];exact h4 i hi⟩
theorem Jev (l:List (Nat×Nat)):∀x∈l.map encO,ShO x:=λx hx=>by
 obtain ⟨y,_,rfl⟩:=QL.1 hx
 exact ⟨_,_,rfl⟩
theorem Jk7 (l:List (BA×Int)):∀x∈l.map encC,ShC x:=λx hx=>by
 obtain ⟨y,_,rfl⟩:=QL.1 hx
 exact ⟨_,_,rfl⟩
theorem Jmn {B:Nat} {w:World} {v:Value} {sl:List (Sl×Sl)} {ts:List TxL} (h:TxsR B w v sl) (hs:TxIs B w ts sl) (hb:∀t∈ts,t.1.length<=1000000/\t.2.length<=1000000):
  TxV B w v ts.length (λi=>sl.getD i dSl) (cOf ts) (oOf ts):=by
 have e:∀i (hi:i<ts.length),ts.getD i ([],[])=ts[i]:=λi hi=>by simp [hi]
 have e':∀i (hi:i<sl.length),sl.getD i dSl=sl[i]:=λi hi=>by simp [hi]
 refine ⟨?_,λi hi=>?_,λi hi=>?_⟩
 ·have:=h.vr
  rw [JhI encT sl dSl,<-hs.1] at this
  exact this
 ·have hi':i<sl.length:=by rw [<-hs.1];exact hi
  unfold cOf sV1
  rw [e i hi,e' i hi']
  exact ⟨(hs.2 i hi hi').1.vr,Jk7 _,by rw [QM];exact (hb _ (Qx hi)).1⟩
 ·have hi':i<sl.length:=by rw [<-hs.1];exact hi
  unfold oOf sV1
  rw [e i hi,e' i hi']
  exact ⟨(hs.2 i hi hi').2.vr,Jev _,by rw [QM];exact (hb _ (Qx hi)).2⟩
theorem Ji6 {B':Nat} {V:World} {nb gt:Nat} {vi vo:Value} {ts:List TxL} {ga gb hb:Nat->Nat} (h:JQ B' V nb gt ts.length vi vo (cOf ts) (oOf ts) ga gb hb 0):Jio V (.slice (some ⟨gt,0,none⟩) ts.length (ts.length+8)) ts:=by
 refine ⟨(List.range ts.length).map λi=>((some ⟨ga i,0,none⟩,(cOf ts i).length,(cOf ts i).length+8),(some ⟨gb i,0,none⟩,(oOf ts i).length,(oOf ts i).length+8)),.inr ⟨gt,0,ts.length+8,by simp,(Jb h.txs),(Jb h.txs),λi hi=>?_⟩,by simp,λj x t hx ht=>?_⟩
 ·simp only [QM,List.length_range] at hi
  have:=Xf h.txs (i:=i) (txE (cOf ts) (oOf ts) ga gb i) (by
   rw [QF (by simpa using hi),List.getElem?_map,List.getElem?_range hi]
   rfl)
  simp only [List.getElem_map,List.getElem_range,Nat.zero_add]
  exact this
 ·obtain ⟨hj,rfl⟩:=Qo.1 ht
  rw [List.getElem?_map,List.getElem?_range hj] at hx
  simp only [Option.map_some,Qh] at hx
  subst hx
  have r1:=(h.lc.rowC j (by omega) hj).2
  have r2:=(h.lc.rowO j (by omega) hj).2
  have e:ts.getD j ([],[])=ts[j]:=by simp [hj]
  unfold cOf at r1 ⊢
  unfold oOf at r2 ⊢
  rw [e] at r1 r2
  simp only [e,QM]
  refine ⟨.inr ⟨ga j,0,_,rfl,(Jb r1),(Jb r1),λi hi=>?_⟩,.inr ⟨gb j,0,_,rfl,(Jb r2),(Jb r2),λi hi=>?_⟩⟩
  ·have:=Xf r1 (i:=i) (encC (ts[j].1)[i]) (by
    rw [QF (by simpa using hi),List.getElem?_map,Qd hi]
    rfl)
   rw [Nat.zero_add]
   exact this
  ·have:=Xf r2 (i:=i) (encO (ts[j].2)[i]) (by
    rw [QF (by simpa using hi),List.getElem?_map,Qd hi]
    rfl)
   rw [Nat.zero_add]
   exact this
open Tryz
set_option maxRecDepth 100000

theorem dgC:DgC:=by
 intro n s V h1 h32 hs
 have HA:Hid (∀V,Calls prog 163 #[.string s] V λe w'=>∃D,e=.returned (.string D)/\(D=⟨(digL s.data.toList).toArray⟩/\D.size=32)/\Tch NoB V w'):=λV=>(JmH s V hs).mono (by
  rintro _ w' ⟨rfl,h⟩
  exact ⟨_,rfl,⟨rfl,by rw [Jk,ZL]⟩,h⟩)
 have hn0:(0:Int)<=(n:Int):=by omega
 go_enter func103,ntmps103
 go_wp2_with (go_at_call 163;refine (HA.o _).mono ?_;rintro _ w1 ⟨D,rfl,⟨hd,hs32⟩,ht1⟩;have HD:Hid (D=_):=hd;have hnD:(n:Int)<=(D.size:Int):=(by omega);have HT1:Hid (Tch _ V w1):=ht1;clear ht1 hd)
 go_ret
 refine ⟨?_,HT1.o⟩
 have e:D.extract 0 n=dgW n s.data.toList:=Ja2 (by
  rw [HD.o,ByteArray.data_extract,Array.toList_extract]
  simp [dgW,List.extract_eq_take_drop])
 rw [<-e]
 rfl
theorem Jjq (n:Int) (s:BA) (V:World) (hs:s.size<1152921504606846976) (hn1: -9223372036854775808<=n) (hn2:n<9223372036854775808):
  Calls prog 113 #[.int .i64 n,.string s] V λe w'=>Tch NoB V w'/\e=if 1<=n/\n<=32 then .returned (.tuple #[.string (dgW n.toNat s.data.toList),.int .i64 0]) else .returned (.tuple #[.string ⟨#[]⟩,.int .i64 1]):=by
 by_cases h1:n<1
 ·go_enter func113,ntmps113
  go_wp2
  go_ret2
  refine ⟨Te _ _,?_⟩
  rfl
 ·by_cases h2:32<n
  ·go_enter func113,ntmps113
   go_wp2
   go_ret2
   refine ⟨Te _ _,?_⟩
   rfl
  ·obtain ⟨m,rfl⟩:∃m:Nat,n=(m:Int):=⟨n.toNat,by omega⟩
   have HD:Hid (∀V,Calls prog 103 #[.int .i64 (m:Int),.string s] V λe w'=>∃D,e=.returned (.string D)/\D=dgW m s.data.toList/\Tch NoB V w'):=λV=>(dgC m s V (by omega) (by omega) hs).mono (by rintro _ _ ⟨rfl,h⟩;exact ⟨_,rfl,rfl,h⟩)
   have HP:Hid (1<=(m:Int)/\(m:Int)<=32):=⟨by omega,by omega⟩
   clear hn1 hn2
   go_enter func113,ntmps113
   go_wp2_with (go_at_call 103;refine (HD.o _).mono ?_;rintro _ w1 ⟨D,rfl,hd,ht1⟩;have HDD:Hid (D=_):=hd;have HT1:Hid (Tch _ V w1):=ht1;clear ht1 hd)
   go_ret2
   refine ⟨HT1.o,?_⟩
   first
    | (rw [if_pos HP.o,HDD.o];rfl)
    | (rw [HDD.o];rfl)

def Duo (base:Nat) (w:World) (n lb rb:Nat) (F G:Nat->Prop):Prop:=
 ∃wj ch vL lv b,LAt wj base 0 w lb F 0 ch/\RfAt wj base w rb G ch vL lv b/\ch.length<=n/\∀j,F j->¬G j
def JaL (base:Nat) (w:World) (n lb rb:Nat) (F G:Nat->Prop) (w':World):Prop:=
 Tch (λj=>F j\/G j) w w'/\∃F' G',Duo base w' (n+1) lb rb F' G'/\(∀j,F' j->F j\/w.heap.size<=j)/\∀j,G' j->G j\/w.heap.size<=j
theorem Duo.tch {base:Nat} {w w':World} {n lb rb:Nat} {F G S:Nat->Prop} (h:Duo base w n lb rb F G) (k:Tch S w w') (hs:∀j,S j->¬F j/\¬G j):Duo base w' n lb rb F G:=by
 obtain ⟨wj,ch,vL,lv,b,h1,h2,h3,h4⟩:=h
 exact ⟨wj,ch,vL,lv,b,h1.keep k (λj hj=>(hs j hj).1),h2.tch k (λj hj=>(hs j hj).2),h3,h4⟩
theorem Duo.up {base:Nat} {w:World} {n m lb rb:Nat} {F G:Nat->Prop} (h:Duo base w n lb rb F G) (hm:n<=m):Duo base w m lb rb F G:=by
 obtain ⟨wj,ch,vL,lv,b,h1,h2,h3,h4⟩:=h
 exact ⟨wj,ch,vL,lv,b,h1,h2,Qm h3 hm,h4⟩
theorem LAt.low {wj base pn:Nat} {w:World} {lb:Nat} {F:Nat->Prop} {fl:Nat} {ch:Ch} (h:LAt wj base pn w lb F fl ch):∀j,F j->base<=j/\j<w.heap.size:=by
 obtain ⟨_,lg,cb,r,bs,lv,C⟩:=h
 exact C.low
theorem Duo.own {base:Nat} {w:World} {n lb rb:Nat} {F G:Nat->Prop} (h:Duo base w n lb rb F G):∀j,F j\/G j->base<=j/\j<w.heap.size:=by
 obtain ⟨wj,ch,vL,lv,b,h1,h2,h3,h4⟩:=h
 intro j hj
 rcases hj with hj | hj
 ·exact h1.low j hj
 ·exact h2.own j hj
theorem Duo.to {base:Nat} {w w':World} {n lb rb:Nat} {F G:Nat->Prop} (h:Duo base w n lb rb F G) (k:Tch NoB w w'):JaL base w n lb rb F G w':=
 ⟨k.mono (λ_ e=>e.elim),F,G,(h.tch k (λ_ e=>e.elim)).up (by omega),λ_ e=>.inl e,λ_ e=>.inl e⟩
def SubQ (base:Nat) (w:World) (lb rb:Nat) (F G:Nat->Prop) (wj:Nat) (ch:Ch) (q:BA) (k:Int) (V:World):Prop:=
 q.size<=1100000/\Tch F w V/\∃F' ch' vL lv b,(∀j,F' j->F j\/w.heap.size<=j)/\LAt wj base 0 V lb F' 0 ch'/\RfAt wj base V rb G ch vL lv b/\match Xi wj ch q.data.toList with
  | .ok c=>k=0/\ch'=c
  | .error er=>k=Xj er/\ch'=ch
theorem SubQ.next {base:Nat} {w V V':World} {lb rb:Nat} {F G:Nat->Prop} {wj:Nat} {ch:Ch} {q:BA} {k:Int} (h:SubQ base w lb rb F G wj ch q k V) (t:Tch NoB V V'):SubQ base w lb rb F G wj ch q k V':=by
 obtain ⟨h0,h1,F',ch',vL,lv,b,h2,h3,h4,h5⟩:=h
 exact ⟨h0,h1.go t,F',ch',vL,lv,b,h2,h3.keep t (λ_ e=>e.elim),h4.tch t (λ_ e=>e.elim),h5⟩
theorem JdU (E:Nat->Addr) {base:Nat} {w:World} {lb rb:Nat} {F G:Nat->Prop} {wj:Nat} {ch:Ch} {vL:Value} {lv:List Lv} {b:BA} (hF:XP E base w) (hA:LAt wj base 0 w lb F 0 ch) (hR:RfAt wj base w rb G ch vL lv b) (hd:∀j,F j->¬G j) (hc:ch.length<=900000) (q:BA) (hq:q.size<=1100000) (V:World) (hV:Tch NoB w V):
  Calls Tryz.prog 19 #[.pointer (some ⟨lb,0,none⟩),.string q] V λe V'=>∃k:Int,e=.returned (.int .i64 k)/\(∃S,(∀j,S j->j<w.heap.size)/\Tch S V V')/\SubQ base w lb rb F G wj ch q k V':=by
 refine (Jfb E wj base q (hA.keep hV (λ_ e=>e.elim)) (hF.tch hV (λ_ e=>e.elim)) hq (by omega)).mono λe V' k=>?_
 obtain ⟨t,F',hF',k⟩:=k
 have hw:=hA.1.2
 rw [Jgr wj hw ch (by omega)] at k
 have hT:Tch F w V':=(hV.mono (λ_ e=>e.elim)).trans t (λ_ e=>.inl e)
 have h1:∀j,F' j->F j\/w.heap.size<=j:=λj hj=>(hF' j hj).imp id (λh=>Qm hV.size h)
 have h2:=(hR.tch hV (λ_ e=>e.elim)).tch t hd
 cases hs:Xi wj ch q.data.toList with
 | ok c=>
  rw [hs] at k
  exact ⟨0,k.1,⟨F,λj hj=>(hA.low j hj).2,t⟩,hq,hT,F',c,vL,lv,b,h1,k.2,h2,by rw [hs];exact ⟨rfl,rfl⟩⟩
 | error er=>
  rw [hs] at k
  exact ⟨_,k.1,⟨F,λj hj=>(hA.low j hj).2,t⟩,hq,hT,F',ch,vL,lv,b,h1,k.2,h2,by rw [hs];exact ⟨rfl,rfl⟩⟩
theorem Jc2 {base:Nat} {w:World} {n lb rb:Nat} {F G:Nat->Prop} {wj:Nat} {ch:Ch} (hd:∀j,F j->¬G j) (hG:∀j,G j->j<w.heap.size) (hn:ch.length<=n) (hc:ch.length<=900000) (hbw:base<=w.heap.size) (q:BA) (k:Int) (V:World) (h:SubQ base w lb rb F G wj ch q k V):
  Calls Tryz.prog 110 #[.pointer (some ⟨rb,0,none⟩),.string q] V λe V'=>e=.returned (.int .i64 k)/\JaL base w n lb rb F G V':=by
 obtain ⟨hq,hT,F',ch',vL,lv,b,h1,hA,hR,hk⟩:=h
 have hs:=hT.size
 have hFG:∀j,F' j->¬G j:=λj hj hg=>by
  rcases h1 j hj with h | h
  ·exact hd j h hg
  ·have:=hG j hg;omega
 refine (Jjt dgC hA.1.1 hA.1.2 hR (by omega) (by omega) q (by omega)).mono λe V' r=>?_
 unfold RSub at r
 cases hsub:Xi wj ch q.data.toList with
 | ok c=>
  rw [hsub] at hk r
  dsimp only at hk r
  obtain ⟨rfl,rfl⟩:=hk
  obtain ⟨r1,r2,G',vL',lv',b',r3,r4⟩:=r
  have hl:=JfA hsub
  refine ⟨r1,(hT.mono (λ_ e=>.inl (.inl e))).trans r2 (λ_ e=>.inl (.inr e)),F',G',⟨wj,ch',vL',lv',b',hA.keep r2 (λj hj hf=>hFG j hf hj),r3,by omega,λj hj hg=>?_⟩,h1,λj hj=>(r4 j hj).imp id (λh=>Qm hs h)⟩
  rcases r4 j hg with h | h
  ·exact hFG j hj h
  ·have:=(hA.low j hj).2;omega
 | error er=>
  rw [hsub] at hk r
  dsimp only at hk r
  obtain ⟨rfl,rfl⟩:=hk
  exact ⟨r.1,(hT.mono (λ_ e=>.inl (.inl e))).trans r.2 (λ_ e=>e.elim),F',G,⟨wj,ch',vL,lv,b,hA.keep r.2 (λ_ e=>e.elim),hR.tch r.2 (λ_ e=>e.elim),by omega,hFG⟩,h1,λ_ e=>.inl e⟩
structure OpOk (base:Nat) (w:World) (x:OpL) (os:List (Nat×Nat)) (ts:List TxL) (sl:List (Sl×Sl)):Prop where
 ra: -9223372036854775808<=x.a/\x.a<9223372036854775808
 rw': -9223372036854775808<=x.which/\x.which<9223372036854775808
 s:x.s.size<=1100000
 outs:XE base w (.slice x.os.1 x.os.2.1 x.os.2.2) os
 oOk:∀o∈os,JC o
 oLen:os.length<1000000
 txs:TxsR base w (.slice x.ts.1 x.ts.2.1 x.ts.2.2) sl
 tIs:TxIs base w ts sl
 tR:∀t∈ts,InR t
 tLen:ts.length<1000000
 tFew:∀t∈ts,t.1.length<1000000/\t.2.length<1000000/\∀c∈t.1,c.1.size<=9223372036854775807
theorem OpOk.tch {base:Nat} {w w':World} {x:OpL} {os:List (Nat×Nat)} {ts:List TxL} {sl:List (Sl×Sl)} {S:Nat->Prop} (h:OpOk base w x os ts sl) (k:Tch S w w') (hs:∀j,S j->base<=j):OpOk base w' x os ts sl:=
 { h with outs:=h.outs.tch k hs,txs:=h.txs.tch k hs,tIs:=⟨h.tIs.1,λi h1 h2=>⟨(h.tIs.2 i h1 h2).1.tch k hs,(h.tIs.2 i h1 h2).2.tch k hs⟩⟩ }
theorem Jho (E:Nat->Addr) {base:Nat} {w:World} {n lb rb:Nat} {F G:Nat->Prop} (hF:XP E base w) (h:Duo base w n lb rb F G) (hn:n<=900000) (hbw:base<=w.heap.size) (wb:Nat) (x:OpL) {os:List (Nat×Nat)} {ts:List TxL} {sl:List (Sl×Sl)} (hx:OpOk base w x os ts sl):
  Calls Tryz.prog 117 #[.pointer (some ⟨wb,0,none⟩),.pointer (some ⟨lb,0,none⟩),.pointer (some ⟨rb,0,none⟩),opV x] w λe w'=>e=.returned (.bool true)/\JaL base w n lb rb F G w':=by
 have hD:=h
 obtain ⟨wj,ch,vL,lv,b,h1,h2,h3,h4⟩:=h
 have hsz:=Jgk wj h1.1.2 ch ts (λt ht=>(hx.tR t ht).2)
 have hc:ch.length<=900000:=by omega
 refine JkD w wb lb rb x hbw ts.length _ _ _ (by have:=hx.tLen;omega) (Jmn hx.txs hx.tIs (λt ht=>by have:=hx.tFew t ht;omega)) hx.ra.1 hx.ra.2 (Xy wj ch ts).1 (by omega) (Xy wj ch ts).2 (SubQ base w lb rb F G wj ch) _ (λV B' nb gt vi vo ga gb hb hV hA=>?_) (λV hV=>?_) (λq hq V hV=>JdU E hF h1 h2 h4 hc q (by omega) V hV) (λq k V V' hq ht=>hq.next ht) (λq k V hq=>?_) (λV hV=>hD.to hV)
 ·exact (JhC E wj base _ ts (h1.keep hV (λ_ e=>e.elim)) (hF.tch hV (λ_ e=>e.elim)) (Ji6 hA) (by omega) hx.tLen (λt ht=>⟨(hx.tFew t ht).1,(hx.tFew t ht).2.1⟩) hx.tR).mono λe V' k=>⟨k.2,k.1⟩
 ·exact Jl8 dgC h1.1.1 h1.1.2 (h2.tch hV (λ_ e=>e.elim)) (by omega) base _ ts sl (hx.txs.tch hV (λ_ e=>e.elim)) ((hx.tch hV (λ_ e=>e.elim)).tIs) (by have:=hx.tLen;omega) (λt ht=>by have:=hx.tFew t ht;exact ⟨by omega,by omega,this.2.2⟩) (λt ht=>(hx.tR t ht).2)
 ·exact Jc2 h4 (λj hj=>(h2.own j hj).2) h3 hc hbw q k V hq
set_option maxHeartbeats 4000000

def BoxC (V:World) (xb:Nat) (x:OpL):Prop:=V.cell? ⟨xb,0,none⟩=some (.int .i64 x.kind)/\V.cell? ⟨xb,1,none⟩=some (.int .i64 x.a)/\V.cell? ⟨xb,2,none⟩=some (.int .i64 x.b)/\V.cell? ⟨xb,3,none⟩=some (.int .i64 x.which)/\V.cell? ⟨xb,4,none⟩=some (.string x.s)/\V.cell? ⟨xb,5,none⟩=some (.string x.t)/\V.cell? ⟨xb,6,none⟩=some (.string x.u)/\V.cell? ⟨xb,7,none⟩=some (.string x.cx)/\V.cell? ⟨xb,8,none⟩=some (.int .i64 x.cn)/\V.cell? ⟨xb,9,none⟩=some (.slice x.os.1 x.os.2.1 x.os.2.2)/\V.cell? ⟨xb,10,none⟩=some (.slice x.ts.1 x.ts.2.1 x.ts.2.2)
theorem Jkp {V:World} {xb:Nat} {x:OpL} (h:V.heap[xb]? =some (.cells (opC x) 75)):BoxC V xb x:=
 ⟨Ja h,Ja h,Ja h,Ja h,Ja h,Ja h,Ja h,Ja h,Ja h,Ja h,Ja h⟩
theorem Jd6 (w:World) (x:OpL):∃w0,w0=w.alloc (.cells (opC x) 75)/\Tch NoB w w0/\∀V S,Tch S w0 V->(∀j,S j->j<w.heap.size\/w0.heap.size<=j)->BoxC V w.heap.size x:=by
 have h:=Qf w (.cells (opC x) 75)
 refine ⟨_,rfl,Ta _ _ _,λV S hV hS=>Jkp ((hV.block _ (Jb h) (λe=>?_)).trans h)⟩
 have:=hS _ e
 rw [World.size_alloc] at this
 omega
theorem JfQ (E:Nat->Addr) {base:Nat} {w:World} {n lb rb:Nat} {F G:Nat->Prop} (hF:XP E base w) (h:Duo base w n lb rb F G) (hn:n<=900000) (hbw:base<=w.heap.size) (wb:Nat) (x:OpL) {os:List (Nat×Nat)} {ts:List TxL} {sl:List (Sl×Sl)} (hx:OpOk base w x os ts sl):
  Calls prog 70 #[.pointer (some ⟨wb,0,none⟩),.pointer (some ⟨lb,0,none⟩),.pointer (some ⟨rb,0,none⟩),opV x] w λe w'=>e=.returned (.bool true)/\JaL base w n lb rb F G w':=by
 obtain ⟨w0,hw0,t0,hbx⟩:=Jd6 w x
 have HDT:Hid (∀V,Tch NoB w V->JaL base w n lb rb F G V):=λV hV=>h.to hV
 have HSE:Hid (Calls prog 117 #[.pointer (some ⟨wb,0,none⟩),.pointer (some ⟨lb,0,none⟩),.pointer (some ⟨rb,0,none⟩),opV x] w0 λe w'=>e=.returned (.bool true)/\JaL base w n lb rb F G w'):=(Jho E (hF.tch t0 (λ_ e=>e.elim)) (h.tch t0 (λ_ e=>e.elim)) hn (Qm hbw t0.size) wb x (hx.tch t0 (λ_ e=>e.elim))).mono λe w' k=>⟨k.1,by
  obtain ⟨k1,F',G',k2,k3,k4⟩:=k.2
  exact ⟨(t0.mono (λ_ e=>e.elim)).trans k1 (λ_ e=>.inl e),F',G',k2,λj hj=>(k3 j hj).imp id (λe=>Qm t0.size e),λj hj=>(k4 j hj).imp id (λe=>Qm t0.size e)⟩⟩
 obtain ⟨wj,ch,vL,lv,b,h1,h2,h3,h4⟩:=h
 have hc:ch.length<=900000:=by omega
 have HS1:Hid (∀V,Tch NoB w V->_):=λV hV=>JdU E hF h1 h2 h4 hc x.s hx.s V hV
 have HS2:Hid (∀k V,SubQ base w lb rb F G wj ch x.s k V->_):=λk V hq=>Jc2 (n:=n) h4 (λj hj=>(h2.own j hj).2) h3 hc hbw x.s k V hq
 have HT1:Hid (∀V,Tch NoB w V->_):=λV hV=>JkG wj base (h1.keep hV (λ_ e=>e.elim))
 have HT2:Hid (∀V,Tch NoB w V->_):=λV hV=>JgY (h2.tch hV (λ_ e=>e.elim)) (by omega)
 have HH1:Hid (∀V,Tch NoB w V->_):=λV hV=>Jf2 E wj base x.a (h1.keep hV (λ_ e=>e.elim)) (hF.tch hV (λ_ e=>e.elim))
 have HH2:Hid (∀V,Tch NoB w V->_):=λV hV=>Jjr h1.1.2 (h2.tch hV (λ_ e=>e.elim)) (by omega) x.a hx.ra.1 hx.ra.2
 have HW0:Hid (w0=w.alloc _):=hw0
 have HT0:Hid (Tch NoB w w0):=t0
 have HBX:Hid (∀V S,Tch S w0 V->(∀j,S j->j<w.heap.size\/w0.heap.size<=j)->BoxC V w.heap.size x):=hbx
 generalize ZE ch x.a=HD at *
 generalize (if 0<=x.a/\x.a<(ch.length:Int) then (0:Int) else 7)=HC at *
 generalize (ch.length:Int) - 1=TP at *
 clear hF hbw hx hw0 t0 hbx h1 h2 h3 h4 hc
 obtain ⟨kind,a,b',which,s,t,u,cx,cn,⟨oa,on,oc⟩,⟨ta,tn,tc⟩⟩:=x
 simp only [BoxC] at *
 go_enter func70,ntmps70
 go_upto_region 1 with fail
 rw [<-HW0.o]
 obtain ⟨c0,c1,c2,c3,c4,c5,c6,c7,c8,c9,c10⟩:=HBX.o w0 _ (Te NoB _) (λ_ e=>e.elim)
 by_cases k34:kind=3\/kind=4
 ·rcases k34 with rfl | rfl
  all_goals
   go_wp2_with fail
   refine HSE.o.mono ?_
   rintro _ w1 ⟨rfl,hd⟩
   have HD1:Hid (JaL _ _ _ _ _ _ _ _):=hd
   clear hd
   go_wp2
   go_ret
   exact ⟨rfl,HD1.o⟩
 ·have k3:¬kind=3:=λe=>k34 (.inl e)
  have k4:¬kind=4:=λe=>k34 (.inr e)
  clear k34
  by_cases k5:kind=5
  ·subst k5
   go_wp2_with fail
   refine (HS1.o w0 HT0.o).mono ?_
   rintro _ w1 ⟨k,rfl,⟨S,hS,ht⟩,hq⟩
   have HQ:Hid (SubQ _ _ _ _ _ _ _ _ _ _ _):=hq
   clear c0 c1 c2 c3 c4 c5 c6 c7 c8 c9 c10 hq
   obtain ⟨_,_,_,_,c4,_⟩:=HBX.o w1 _ ht (λj hj=>.inl (hS j hj))
   clear ht
   go_wp2_with fail
   refine (HS2.o k w1 HQ.o).mono ?_
   rintro _ w2 ⟨rfl,hd⟩
   have HD1:Hid (JaL _ _ _ _ _ _ _ _):=hd
   clear hd c4
   go_wp2_with fail
   refine (JdE _ _).mono ?_
   rintro _ _ ⟨rfl,rfl⟩
   go_wp2
   go_ret
   exact ⟨rfl,HD1.o⟩
  ·by_cases k6:kind=6
   ·subst k6
    go_wp2_with fail
    refine (HT1.o w0 HT0.o).mono ?_
    rintro _ w1 ⟨rfl,ht1⟩
    have HT3:Hid (Tch NoB w w1):=HT0.o.go ht1
    clear c0 c1 c2 c3 c4 c5 c6 c7 c8 c9 c10 ht1
    go_wp2_with fail
    refine (HT2.o w1 HT3.o).mono ?_
    rintro _ w2 ⟨rfl,ht2⟩
    have HT4:Hid (Tch NoB w w2):=HT3.o.go ht2
    clear ht2
    go_wp2
    go_ret
    exact ⟨rfl,HDT.o _ HT4.o⟩
   ·go_wp2_with fail
    refine (HH1.o w0 HT0.o).mono ?_
    rintro _ w1 ⟨rfl,ht1⟩
    have HT3:Hid (Tch NoB w0 w1):=ht1
    clear c0 c1 c2 c3 c4 c5 c6 c7 c8 c9 c10 ht1
    obtain ⟨_,c1,_⟩:=HBX.o w1 _ HT3.o (λ_ e=>e.elim)
    go_wp2_with fail
    refine (HH2.o w1 (HT0.o.go HT3.o)).mono ?_
    rintro _ w2 ⟨rfl,ht2⟩
    have HT4:Hid (Tch NoB w w2):=(HT0.o.go HT3.o).go ht2
    clear ht2 c1
    go_wp2_with fail
    refine (JdE _ _).mono ?_
    rintro _ _ ⟨rfl,rfl⟩
    go_wp2
    go_ret
    exact ⟨rfl,HDT.o _ HT4.o⟩
