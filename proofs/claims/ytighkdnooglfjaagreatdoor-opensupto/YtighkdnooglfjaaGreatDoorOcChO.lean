import Derived.Test.YtighkdnooglfjaaGreatDoorOcChN
import Derived.Test.YtighkdnooglfjaaGreatDoorOcKIn
namespace Go.Proofs.YtighkdnooglfjaaGreatDoor
open Go.RowKit

theorem JaZ (E:Nat->Addr) {w:World} (hE:Env E w) {cb wd fl r:Nat} (hw1:1<=wd) (hw:wd<=32) {bs:List BV} {lv:Value} (h:Jt w cb wd fl r bs lv) (m:Nat) (hm:bs.length=m+1) (hm2:m<2 ^ 31) (bh:BA) (q:Option Nat) (st:Option Tr) (hb:bs[m]? =some (bh,wd,q)) (hbs:bh.size<=1000) (F:Nat->Prop) (hF:∀j,w.heap.size<=j->F j) (hs:StAt (dgW wd) F w q st) (hok:StOk wd st)
  (base:Nat) (hbase:base<=w.heap.size) (lg:List UInt8) (hlg:JU base w lv lg) (hll:lg.length<=140737488000000) (s:BA) (hsS:s.size<=1100000):
  Calls Tryz.prog 46 #[.pointer (some ⟨cb,0,none⟩),.string s] w λe w'=>Ji9 E wd base F w cb fl r bs lv lg s (subP (dgW wd) wd m bh st s.data.toList) e w':=by
 cases hh:(PS.rd [] s.data.toList).hdr wd (0,⟨#[]⟩,⟨#[]⟩,⟨#[]⟩) with
 | none=>
  have e:subP (dgW wd) wd m bh st s.data.toList=.error .form:=by unfold subP;rw [hh]
  rw [e]
  exact Je9 E hE hw h s hsS hh
 | some x=>
  obtain ⟨y,p⟩:=x
  obtain ⟨pre,body,l1,e1,e2,_⟩:=Jbi wd hw _ _ _ _ _ hh
  rw [List.nil_append] at e2
  subst e2
  have hlen:pre.length+body.length=s.size:=by
   have:=congrArg List.length e1
   rw [XU,Qe] at this
   exact this.symm
  by_cases hex:∃ts q3,(PS.rd pre body).body wd []=some (ts,.rd q3 [])
  ·obtain ⟨ts,q3,hbd⟩:=hex
   obtain ⟨b2,r2,l2,e3,e4,h3,hts⟩:=ZF wd hw _ _ _ _ hbd
   simp only [PS.of.injEq,Sum.inl.injEq,Qw] at e4
   obtain ⟨_,rfl⟩:=e4
   rw [QC] at e3
   have hl2:body.length<=385:=by rw [e3];exact l2
   have e:subP (dgW wd) wd m bh st s.data.toList=(if y ≠ (m+1,dgW wd (72 :: bh.data.toList),dgW wd (66 :: body),y.2.2.2) then .error .tip else subR (dgW wd) (JR (dgW wd) st ts) y.2.2.2 ⟨pre.toArray⟩):=by
    unfold subP subR
    rw [hh]
    dsimp only
    rw [hbd]
    dsimp only
    have ec:s.data.toList.take (s.data.toList.length - body.length)=pre:=by
     rw [XU,<-hlen,Nat.add_sub_cancel,e1,List.take_left'];rfl
    rw [ec]
    rfl
   rw [e]
   exact Jdf E hE hw1 hw h m hm hm2 bh q st hb hbs F hF hs hok base hbase lg hlg hll s (by omega) y pre body hh e1 ts q3 hbd hts h3
  ·have hne:∀ts q3,(PS.rd pre body).body wd [] ≠ some (ts,.rd q3 []):=λts q3 h=>hex ⟨ts,q3,h⟩
   have e:subP (dgW wd) wd m bh st s.data.toList=.error .form:=by
    unfold subP
    rw [hh]
    dsimp only
    cases hx:(PS.rd pre body).body wd [] with
    | none=>rfl
    | some z=>
     obtain ⟨ts,p⟩:=z
     obtain ⟨b1,r1,_,_,e4,_⟩:=ZF wd hw _ _ _ _ hx
     subst e4
     cases r1 with
     | nil=>exact absurd hx (hne _ _)
     | cons a l=>rfl
   rw [e]
   exact Jfa E hE hw h s hsS y pre body hh (by omega) hne
open Go.Proofs.Tryz
set_option maxRecDepth 100000

theorem JhG (er:Er):Jjz (erG er)=Xs er:=by cases er using Er.on <;> rfl
theorem Jmq (er:Er):erG er∈Ss:=by cases er using Er.on <;> decide
theorem fTip {w:World} {lb cb:Nat} (hl:w.cell? ⟨lb,0,none⟩=some (.pointer (some ⟨cb,0,none⟩))) (n:Int) (h:Calls prog 40 #[.pointer (some ⟨cb,0,none⟩)] w λe w'=>e=.returned (.int .i64 n)/\w=w'):
  Calls prog 15 #[.pointer (some ⟨lb,0,none⟩)] w λe w'=>e=.returned (.int .i64 n)/\w=w':=by
 have H:Hid (Calls _ _ _ _ _):=h
 clear h
 go_enter func15,ntmps15
 go_wp2_with fail
 refine H.out.mono ?_
 rintro _ _ ⟨rfl,rfl⟩
 go_wp2
 go_ret
 exact ⟨rfl,rfl⟩
theorem Jah {E:Nat->Addr} {w:World} (er:Er) (hE:Env E w) (hS:Sent E w) (t:TypeId) (u:Value) (hv:Jl E (erG er) w (.iface t u)):
  Calls prog 42 #[.iface t u] w λe w'=>e=.returned (.int .i64 (Xs er))/\Tch NoB w w':=by
 refine (Jbz (erG er) (Jmq er) hE hS _ hv).mono λe w' k=>?_
 rw [JhG] at k
 exact ⟨k.1,by rw [k.2];exact Te _ _⟩
theorem Jgg {w:World} {lb cb:Nat} (hl:w.cell? ⟨lb,0,none⟩=some (.pointer (some ⟨cb,0,none⟩))) (k:Int) (s:BA) (h:Calls prog 41 #[.pointer (some ⟨cb,0,none⟩),.int .i64 k] w λe w'=>Tch NoB w w'/\e=.returned (.tuple #[.string s,.nilIface])):
  Calls prog 16 #[.pointer (some ⟨lb,0,none⟩),.int .i64 k] w λe w'=>e=.returned (.tuple #[.string s,.int .i64 0])/\Tch NoB w w':=by
 have H:Hid (Calls _ _ _ _ _):=h
 clear h
 go_enter func16,ntmps16
 go_wp2_with fail
 refine H.out.mono ?_
 rintro _ w1 ⟨ht,rfl⟩
 have HT:Hid (Tch NoB w w1):=ht
 clear ht H
 go_wp2_with fail
 refine (YU _).mono ?_
 rintro _ _ ⟨rfl,rfl⟩
 go_wp2
 go_ret2
 exact ⟨rfl,HT.o⟩
theorem Jfi {E:Nat->Addr} {w:World} {lb cb:Nat} (hS:∀w',Tch NoB w w'->Env E w'/\Sent E w') (er:Er) (hl:w.cell? ⟨lb,0,none⟩=some (.pointer (some ⟨cb,0,none⟩))) (k:Int) (h:Calls prog 41 #[.pointer (some ⟨cb,0,none⟩),.int .i64 k] w λe w'=>Tch NoB w w'/\∃t u,e=.returned (.tuple #[.string ⟨#[]⟩,.iface t u])/\Jl E (erG er) w' (.iface t u)):
  Calls prog 16 #[.pointer (some ⟨lb,0,none⟩),.int .i64 k] w λe w'=>e=.returned (.tuple #[.string ⟨#[]⟩,.int .i64 (Xs er)])/\Tch NoB w w':=by
 have H:Hid (Calls _ _ _ _ _):=h
 have HS:Hid _:=hS
 go_enter func16,ntmps16
 go_wp2_with fail
 refine H.out.mono ?_
 rintro _ w1 ⟨ht,t,u,rfl,he⟩
 have HT:Hid _:=ht
 have HR:Hid (Calls _ _ _ _ _):=Jah er (HS w1 ht).1 (HS w1 ht).2 t u he
 go_wp2_with fail
 refine HR.o.mono ?_
 rintro _ w2 ⟨rfl,ht2⟩
 have HT2:Hid _:=ht2
 go_wp2
 go_ret2
 exact ⟨rfl,HT.go HT2⟩
theorem JjC {w:World} {lb cb:Nat} (hl:w.cell? ⟨lb,0,none⟩=some (.pointer (some ⟨cb,0,none⟩))) (ia:Option Addr) (n ic:Nat) (s:BA) (h:Calls prog 45 #[.pointer (some ⟨cb,0,none⟩),.slice ia n ic] w λe w'=>Tch NoB w w'/\e=.returned (.tuple #[.string s,.nilIface])):
  Calls prog 18 #[.pointer (some ⟨lb,0,none⟩),.slice ia n ic] w λe w'=>Tch NoB w w'/\e=.returned (.tuple #[.string s,.int .i64 0]):=by
 have H:Hid (Calls _ _ _ _ _):=h
 clear h
 go_enter func18,ntmps18
 go_wp2_with fail
 refine H.out.mono ?_
 rintro _ w1 ⟨ht,rfl⟩
 have HT:Hid (Tch NoB w w1):=ht
 clear ht H
 go_wp2_with fail
 refine (YU _).mono ?_
 rintro _ _ ⟨rfl,rfl⟩
 go_wp2
 go_ret2
 exact ⟨HT.o,rfl⟩
theorem JhT {E:Nat->Addr} {w:World} {lb cb:Nat} (hS:∀w',Tch NoB w w'->Env E w'/\Sent E w') (er:Er) (hl:w.cell? ⟨lb,0,none⟩=some (.pointer (some ⟨cb,0,none⟩))) (ia:Option Addr) (n ic:Nat) (h:Calls prog 45 #[.pointer (some ⟨cb,0,none⟩),.slice ia n ic] w λe w'=>Tch NoB w w'/\∃t u,e=.returned (.tuple #[.string ⟨#[]⟩,.iface t u])/\Jl E (erG er) w' (.iface t u)):
  Calls prog 18 #[.pointer (some ⟨lb,0,none⟩),.slice ia n ic] w λe w'=>Tch NoB w w'/\e=.returned (.tuple #[.string ⟨#[]⟩,.int .i64 (Xs er)]):=by
 have H:Hid (Calls _ _ _ _ _):=h
 have HS:Hid _:=hS
 go_enter func18,ntmps18
 go_wp2_with fail
 refine H.out.mono ?_
 rintro _ w1 ⟨ht,t,u,rfl,he⟩
 have HT:Hid _:=ht
 have HR:Hid (Calls _ _ _ _ _):=Jah er (HS w1 ht).1 (HS w1 ht).2 t u he
 go_wp2_with fail
 refine HR.o.mono ?_
 rintro _ w2 ⟨rfl,ht2⟩
 have HT2:Hid _:=ht2
 go_wp2
 go_ret2
 exact ⟨HT.go HT2,rfl⟩
theorem Jgj {w:World} {lb cb:Nat} (hl:w.cell? ⟨lb,0,none⟩=some (.pointer (some ⟨cb,0,none⟩))) (s:BA) (Q:World->Prop) (h:Calls prog 46 #[.pointer (some ⟨cb,0,none⟩),.string s] w λe w'=>e=.returned .nilIface/\Q w'):
  Calls prog 19 #[.pointer (some ⟨lb,0,none⟩),.string s] w λe w'=>e=.returned (.int .i64 0)/\Q w':=by
 have H:Hid (Calls _ _ _ _ _):=h
 clear h
 go_enter func19,ntmps19
 go_wp2_with fail
 refine H.out.mono ?_
 rintro _ w1 ⟨rfl,hq⟩
 have HQ:Hid (Q w1):=hq
 clear hq H
 go_wp2_with fail
 refine (YU _).mono ?_
 rintro _ _ ⟨rfl,rfl⟩
 go_wp2
 go_ret
 exact ⟨rfl,HQ.o⟩
theorem Jfj {E:Nat->Addr} {w:World} {lb cb:Nat} (hS:∀w',Tch NoB w w'->Env E w'/\Sent E w') (er:Er) (hl:w.cell? ⟨lb,0,none⟩=some (.pointer (some ⟨cb,0,none⟩))) (s:BA) (h:Calls prog 46 #[.pointer (some ⟨cb,0,none⟩),.string s] w λe w'=>NoTo E (erG er) w e w'):
  Calls prog 19 #[.pointer (some ⟨lb,0,none⟩),.string s] w λe w'=>e=.returned (.int .i64 (Xs er))/\Tch NoB w w':=by
 have H:Hid (Calls _ _ _ _ _):=h
 have HS:Hid _:=hS
 go_enter func19,ntmps19
 go_wp2_with fail
 refine H.out.mono ?_
 rintro _ w1 ⟨ht,t,u,rfl,he⟩
 have HT:Hid _:=ht
 have HR:Hid (Calls _ _ _ _ _):=Jah er (HS w1 ht).1 (HS w1 ht).2 t u he
 go_wp2_with fail
 refine HR.o.mono ?_
 rintro _ w2 ⟨rfl,ht2⟩
 have HT2:Hid _:=ht2
 go_wp2
 go_ret
 exact ⟨rfl,HT.go HT2⟩
theorem fNew {w:World} (wd:Int) (ia:Option Addr) (n ic:Nat) (Q:World->Nat->Prop) (h:Calls prog 72 #[.int .i64 wd,.slice ia n ic] w λe w'=>∃cb,e=.returned (.tuple #[.pointer (some ⟨cb,0,none⟩),.nilIface])/\Q w' cb):
  Calls prog 37 #[.int .i64 wd,.slice ia n ic] w λe w'=>∃w1 cb,Q w1 cb/\w'=w1.alloc (.cells #[.pointer (some ⟨cb,0,none⟩)] 90)/\e=.returned (.tuple #[.pointer (some ⟨w1.heap.size,0,none⟩),.int .i64 0]):=by
 have H:Hid (Calls _ _ _ _ _):=h
 clear h
 go_enter func37,ntmps37
 go_wp2_with fail
 refine H.out.mono ?_
 rintro _ w1 ⟨cb,rfl,hq⟩
 have HQ:Hid (Q w1 cb):=hq
 clear hq H
 go_wp2
 go_ret2
 exact ⟨w1,cb,HQ.o,rfl,rfl⟩

def Jg6 (T:TypeId):Prop:=T=90\/T=143\/T=243\/T=5
structure Xq (wd base pn:Nat) (w:World) (lb:Nat) (F:Nat->Prop) (fl:Nat) (ch:Ch) (lg:List UInt8) (cb r:Nat) (bs:List BV) (lv:Value):Prop where
 led:w.heap[lb]? =some (.cells #[.pointer (some ⟨cb,0,none⟩)] 90)
 row:Jt w cb wd fl r bs lv
 log:JU base w lv lg
 len:bs.length=ch.length
 pos:fl<ch.length
 most:ch.length<=134217728
 short:lg.length<=1000100 * ch.length+100 * pn
 few:pn<=134217728
 hdr:∀(i:Nat) b c,bs[i]? =some b->ch[i]? =some c->b.1=c.1/\b.1.size<=1000
 st:∀(i:Nat) b c,bs[i]? =some b->ch[i]? =some c->fl<=i->b.2.1=wd/\StAt (dgW wd) F w b.2.2 c.2/\StOk wd c.2
 gone:∀(i:Nat) b,bs[i]? =some b->i<fl->b.2=(0,none)
 ownL:F lb
 ownC:F cb
 ownR:F r
 ownG:∀k,lv.ownBlock=some k->F k
 low:∀j,F j->base<=j/\j<w.heap.size
 kind:∀j,F j->∀cur T m,w.heap[j]? =some (.cells cur T m)->Jg6 T
theorem Jt.tch {w w':World} {cb wd fl r:Nat} {bs:List BV} {v:Value} {S:Nat->Prop} (h:Jt w cb wd fl r bs v) (k:Tch S w w') (h1:¬S cb) (h2:¬S r):Jt w' cb wd fl r bs v:=
 ⟨(k.block _ (Jb h.row) h1).trans h.row,(k.block _ (Jb h.map) h2).trans h.map⟩
theorem Xq.keep {wd base pn:Nat} {w w':World} {lb:Nat} {F S:Nat->Prop} {fl:Nat} {ch:Ch} {lg:List UInt8} {cb r:Nat} {bs:List BV} {lv:Value} (h:Xq wd base pn w lb F fl ch lg cb r bs lv) (k:Tch S w w') (hs:∀j,S j->¬F j):Xq wd base pn w' lb F fl ch lg cb r bs lv where
 led:=(k.block _ (Jb h.led) (λe=>hs _ e h.ownL)).trans h.led
 row:=h.row.tch k (λe=>hs _ e h.ownC) (λe=>hs _ e h.ownR)
 log:=h.log.tch k (λj hj e=>hs _ e (h.ownG j hj))
 len:=h.len
 pos:=h.pos
 most:=h.most
 short:=h.short
 few:=h.few
 hdr:=h.hdr
 st:=λi b c h1 h2 h3=>⟨(h.st i b c h1 h2 h3).1,(h.st i b c h1 h2 h3).2.1.tch k hs,(h.st i b c h1 h2 h3).2.2⟩
 gone:=h.gone
 ownL:=h.ownL
 ownC:=h.ownC
 ownR:=h.ownR
 ownG:=h.ownG
 low:=λj hj=>⟨(h.low j hj).1,Qk (h.low j hj).2 k.size⟩
 kind:=λj hj cur T m hr=>h.kind j hj cur T m ((k.block j (h.low j hj).2 (λe=>hs j e hj)).symm.trans hr)
def JmW (wd base pn:Nat) (w:World) (lb:Nat) (F:Nat->Prop) (fl:Nat) (ch:Ch):Prop:=∃lg cb r bs lv,Xq wd base pn w lb F fl ch lg cb r bs lv
theorem Xq.last {wd base pn:Nat} {w:World} {lb:Nat} {F:Nat->Prop} {fl:Nat} {ch:Ch} {lg:List UInt8} {cb r:Nat} {bs:List BV} {lv:Value} (h:Xq wd base pn w lb F fl ch lg cb r bs lv):
  ∃m bh q st,ch.length=m+1/\bs.length=m+1/\bs[m]? =some (bh,wd,q)/\ch[m]? =some (bh,st)/\bh.size<=1000/\StAt (dgW wd) F w q st/\StOk wd st/\ch.last=(bh,st):=by
 have hp:=h.pos
 obtain ⟨m,hm⟩:∃m,ch.length=m+1:=⟨ch.length - 1,by omega⟩
 have hbm:bs.length=m+1:=by rw [h.len,hm]
 have hb:bs[m]? =some (bs[m]'(by omega)):=Qd (by omega)
 have hc:ch[m]? =some (ch[m]'(by omega)):=Qd (by omega)
 generalize bs[m]'(by omega)=b at hb
 obtain ⟨e1,e2⟩:=h.hdr m _ _ hb hc
 obtain ⟨e3,e4,e5⟩:=h.st m _ _ hb hc (by omega)
 have hlast:ch.last=ch[m]'(by omega):=by
  unfold Ch.last
  rw [List.getLastD_eq_getLast?,List.getLast?_eq_getElem?]
  have e:ch.length - 1=m:=by omega
  rw [e,hc]
  rfl
 generalize hcc:ch[m]'(by omega)=c at *
 obtain ⟨b1,b2,b3⟩:=b
 obtain ⟨c1,c2⟩:=c
 simp only at e1 e3 e4 e5
 subst e1 e3
 exact ⟨m,b1,b3,c2,hm,hbm,hb,hc,e2,e4,e5,hlast⟩
theorem JT.next {E:Nat->Addr} {base:Nat} {w w':World} (h:JT E base w) (k:Tch NoB w w'):Env E w'/\Sent E w':=⟨(h.tch k (λ_ e=>e.elim)).env,(h.tch k (λ_ e=>e.elim)).sent⟩
theorem Xq.more {wd base pn:Nat} {w w':World} {lb:Nat} {F:Nat->Prop} {fl:Nat} {ch:Ch} {lg:List UInt8} {cb r:Nat} {bs:List BV} {lv lv':Value} (h:Xq wd base pn w lb F fl ch lg cb r bs lv) (hc:ch.length<134217728) {hd:BA} {st:Option Tr} {q:Option Nat} {ext:List UInt8} (hx:ext.length<=1000100)
  (hR:Jt w' cb wd fl r (bs++[(hd,wd,q)]) lv') (hS:StAt (dgW wd) (λj=>(F j/\¬some j=lv.ownBlock)\/w.heap.size<=j) w' q st) (hk:StOk wd st) (hL:JU base w' lv' (lg++ext)) (hT:Tch (λk=>k=cb\/k=r\/some k=lv.ownBlock) w w') (hM:Jm w lv.ownBlock lv'.ownBlock) (hh:hd.size<=1000) (hbw:base<=w.heap.size):
  ∃F':Nat->Prop,(∀j,F' j->F j\/w.heap.size<=j)/\Xq wd base pn w' lb F' fl (ch++[(hd,st)]) (lg++ext) cb r (bs++[(hd,wd,q)]) lv':=by
 have hTF:∀j,(j=cb\/j=r\/some j=lv.ownBlock)->F j:=λj hj=>by
  rcases hj with rfl | rfl | e
  ·exact h.ownC
  ·exact h.ownR
  ·exact h.ownG j e.symm
 have hnew:∀k,lv'.ownBlock=some k->F k\/w.heap.size<=k:=λk hk=>by
  rcases hM with e | ⟨i,e,hi⟩
  ·exact .inl (h.ownG k (by rw [<-e];exact hk))
  ·rw [hk] at e;cases e;exact .inr hi
 have hlne:lb ≠ cb/\lb ≠ r/\¬some lb=lv.ownBlock:=by
  refine ⟨λe=>?_,λe=>?_,λe=>?_⟩
  ·have:=h.led;rw [e,h.row.row] at this;simp at this
  ·have:=h.led;rw [e,h.row.map] at this;simp at this
  ·obtain ⟨cu,mm,hr⟩:=h.log.kind lb e.symm;rw [h.led] at hr;simp at hr
 refine ⟨λj=>(F j/\¬(some j=lv.ownBlock/\¬lv'.ownBlock=some j))\/(w.heap.size<=j/\((∃c,w'.heap[j]? =some (.cells c 243))\/lv'.ownBlock=some j)),λj hj=>hj.imp (λe=>e.1) (λe=>e.1),?_⟩
 have hFF:∀j,F j->¬some j=lv.ownBlock->(F j/\¬(some j=lv.ownBlock/\¬lv'.ownBlock=some j))\/(w.heap.size<=j/\((∃c,w'.heap[j]? =some (.cells c 243))\/lv'.ownBlock=some j)):=λj hj hn=>.inl ⟨hj,λe=>hn e.1⟩
 have hne:=h.log.ne_row h.row
 exact {
  led:=(hT.block _ (Jb h.led) (λe=>by rcases e with e | e | e;exact hlne.1 e;exact hlne.2.1 e;exact hlne.2.2 e)).trans h.led
  row:=hR
  log:=hL
  len:=by rw [Qe,Qe,h.len];rfl
  pos:=by rw [Qe];have:=h.pos;omega
  most:=by rw [Qe];simp only [Qp,Qv];omega
  short:=by rw [Qe,Qe];simp only [Qp,Qv];have:=h.short;omega
  few:=h.few
  hdr:=λi b c h1 h2=>by
   by_cases hi:i<bs.length
   ·rw [QF hi] at h1
    rw [QF (by have:=h.len;omega)] at h2
    exact h.hdr i b c h1 h2
   ·rw [Qz (by omega)] at h1
    rw [Qz (by have:=h.len;omega)] at h2
    have e0:i - bs.length=0:=by have:=(Qo.1 h1).1;simp at this;omega
    rw [e0] at h1
    rw [<-h.len,e0] at h2
    simp only [List.getElem?_cons_zero,Qh] at h1 h2
    subst h1 h2
    exact ⟨rfl,hh⟩
  st:=λi b c h1 h2 h3=>by
   by_cases hi:i<bs.length
   ·rw [QF hi] at h1
    rw [QF (by have:=h.len;omega)] at h2
    obtain ⟨k1,k2,k3⟩:=h.st i b c h1 h2 h3
    have k4:=k2.refine (G:=λj=>F j/\¬(j=cb\/j=r\/some j=lv.ownBlock)) (λj hj hc=>⟨hj,λe=>by
     obtain ⟨cc,hc⟩:=hc
     rcases e with rfl | rfl | e
     ·rw [h.row.row] at hc;simp at hc
     ·rw [h.row.map] at hc;simp at hc
     ·obtain ⟨cu,mm,hr⟩:=h.log.kind j e.symm;rw [hc] at hr;simp at hr⟩)
    exact ⟨k1,(k4.tch hT (λj hj hG=>hG.2 hj)).mono (λj hj=>hFF j hj.1 (λe=>hj.2 (.inr (.inr e)))),k3⟩
   ·rw [Qz (by omega)] at h1
    rw [Qz (by have:=h.len;omega)] at h2
    have e0:i - bs.length=0:=by have:=(Qo.1 h1).1;simp at this;omega
    rw [e0] at h1
    rw [<-h.len,e0] at h2
    simp only [List.getElem?_cons_zero,Qh] at h1 h2
    subst h1 h2
    exact ⟨rfl,hS.refine (λj hj hc=>hj.imp (λe=>⟨e.1,λe2=>e.2 e2.1⟩) (λe=>⟨e,.inl hc⟩)),hk⟩
  gone:=λi b h1 h2=>by
   rw [QF (by have:=h.pos;have:=h.len;omega)] at h1
   exact h.gone i b h1 h2
  ownL:=hFF _ h.ownL hlne.2.2
  ownC:=hFF _ h.ownC hne.1
  ownR:=hFF _ h.ownR hne.2
  ownG:=λk hk=>(hnew k hk).imp (λe=>⟨e,λe2=>e2.2 hk⟩) (λe=>⟨e,.inr hk⟩)
  low:=λj hj=>by
   rcases hj with ⟨hj,hjn⟩ | ⟨hj,hc | hc⟩
   ·exact ⟨(h.low j hj).1,Qk (h.low j hj).2 hT.size⟩
   ·obtain ⟨c,hc⟩:=hc;exact ⟨by omega,(Jb hc)⟩
   ·exact ⟨by omega,(hL.bs.own j hc).2⟩
  kind:=λj hj cur T m hr=>by
   rcases hj with ⟨hj,hjn⟩ | ⟨hj,hc | hc⟩
   ·by_cases e:j=cb\/j=r\/some j=lv.ownBlock
    ·rcases e with rfl | rfl | e
     ·rw [hR.row] at hr;simp at hr;exact .inr (.inl hr.2.1.symm)
     ·rw [hR.map] at hr;simp at hr
     ·obtain ⟨cu,mm,hr0⟩:=h.log.kind j e.symm
      by_cases e2:lv'.ownBlock=some j
      ·obtain ⟨cu',mm',hr2⟩:=hL.kind j e2;rw [hr] at hr2;simp at hr2;exact .inr (.inr (.inr hr2.2.1))
      ·exact absurd ⟨e,e2⟩ hjn
    ·exact h.kind j hj cur T m ((hT.block j (h.low j hj).2 e).symm.trans hr)
   ·obtain ⟨c,hc⟩:=hc;rw [hr] at hc;simp at hc;exact .inr (.inr (.inl hc.2.1))
   ·obtain ⟨cu',mm',hr2⟩:=hL.kind j hc;rw [hr] at hr2;simp at hr2;exact .inr (.inr (.inr hr2.2.1)) }

theorem Jd6 {wd m:Nat} {bh:BA} {st:Option Tr} {text:List UInt8} (hw:wd<=32) {hd:BA} {st':Option Tr} (h:subP (dgW wd) wd m bh st text=.ok (hd,st')):hd.size<=1000/\text.length<=1000:=by
 unfold subP at h
 cases hh:(PS.rd [] text).hdr wd (0,⟨#[]⟩,⟨#[]⟩,⟨#[]⟩) with
 | none=>rw [hh] at h;cases h
 | some x=>
  obtain ⟨y,p⟩:=x
  obtain ⟨pre,body,l1,e1,e2,_⟩:=Jbi wd hw _ _ _ _ _ hh
  rw [List.nil_append] at e2
  subst e2
  rw [hh] at h
  dsimp only at h
  split at h
  ·rename_i hb
   obtain ⟨b,r',h1,h2,h3,_⟩:=ZF wd hw _ _ _ _ hb
   have h3':=congrArg (λp=>match p with | ⟨.inl (_,r)⟩=>r | ⟨.inr r⟩=>r) h3
   simp only at h3'
   subst h3'
   split at h
   ·cases h
   ·split at h
    ·cases h
    ·split at h
     ·cases h
     ·simp only [Except.ok.injEq,Qw] at h
      refine ⟨?_,?_⟩
      ·rw [<-h.1,Ju,QB,e1,Qe]
       omega
      ·rw [e1,h2,QC,Qe]
       omega
  ·cases h
def LAt (wd base pn:Nat) (w:World) (lb:Nat) (F:Nat->Prop) (fl:Nat) (ch:Ch):Prop:=(1<=wd/\wd<=32)/\JmW wd base pn w lb F fl ch
theorem JcC (E:Nat->Addr) (wd base:Nat) {pn:Nat} {w:World} {lb:Nat} {F:Nat->Prop} {fl:Nat} {ch:Ch} (h:Int) (hA:LAt wd base pn w lb F fl ch) (hF:JT E base w):
  Calls Tryz.prog 16 #[.pointer (some ⟨lb,0,none⟩),.int .i64 h] w λe w'=>e=.returned (.tuple #[.string (Jcy ch h),.int .i64 (if 0<=h/\h<(ch.length:Int) then 0 else 7)])/\Tch NoB w w':=by
 obtain ⟨_,lg,cb,r,bs,lv,C⟩:=hA
 have hl:=rows C.led
 have H:=Jej E hF.env C.row h
 by_cases hh:0<=h/\h<(ch.length:Int)
 ·rw [if_pos hh]
  obtain ⟨n,rfl⟩:=Int.eq_ofNat_of_zero_le hh.1
  have hn:n<ch.length:=by omega
  have hb:bs[n]? =some (bs[n]'(by rw [C.len];exact hn)):=Qd _
  have hc:ch[n]? =some (ch[n]'hn):=Qd _
  refine Jgg hl _ _ (H.mono λe w' k=>⟨k.1,?_⟩)
  rcases k.2 with ⟨n',b,e1,e2,e3⟩ | ⟨e1,_⟩
  ·have:n=n':=by omega
   subst this
   have hh1:=(C.hdr n _ _ e2 hc).1
   rw [e3,hh1]
   unfold Jcy
   rw [if_pos (by omega),Int.toNat_natCast,Qn,hc]
   rfl
  ·exact absurd ⟨hh.1,by rw [C.len];exact hh.2⟩ e1
 ·rw [if_neg hh]
  have e0:Jcy ch h=⟨#[]⟩:=by
   unfold Jcy
   split
   ·rename_i h0
    rw [Qn,List.getElem?_eq_none (by omega)]
    rfl
   ·rfl
  rw [e0]
  refine Jfi (λw' k=>hF.next k) .range hl _ (H.mono λe w' k=>⟨k.1,?_⟩)
  rcases k.2 with ⟨n',b,e1,e2,e3⟩ | ⟨_,e2⟩
  ·exact absurd ⟨by omega,by have:=(Qo.1 e2).1;rw [C.len] at this;omega⟩ hh
  ·exact e2
theorem JdR (E:Nat->Addr) (wd base:Nat) {pn:Nat} {w:World} {lb:Nat} {F:Nat->Prop} {fl:Nat} {ch:Ch} (v:Value) (ts:List TxL) (hA:LAt wd base pn w lb F fl ch) (hF:JT E base w) (hv:Jjc w v ts) (hts:∀t∈ts,TxOk wd t) (h3:ts.length<=3) (hc:ch.length<2 ^ 27):
  Calls Tryz.prog 18 #[.pointer (some ⟨lb,0,none⟩),v] w λe w'=>Tch NoB w w'/\match JfL (dgW wd) wd ch ts with
   | .ok b=>e=.returned (.tuple #[.string ⟨b.toArray⟩,.int .i64 0])
   | .error er=>e=.returned (.tuple #[.string ⟨#[]⟩,.int .i64 (Xs er)]):=by
 obtain ⟨⟨hw1,hw⟩,lg,cb,r,bs,lv,C⟩:=hA
 have hl:=rows C.led
 obtain ⟨m,bh,q,st,hm,hbm,hb,hcm,hbs,hst,hok,hlast⟩:=C.last
 obtain ⟨l,k1,k2,k3⟩:=hv
 obtain ⟨ia,ic,hvs⟩:=k1.shape
 have H:=Jge E hF.env hw1 hw C.row m hbm (by omega) bh q st hb hbs (λj=>F j\/w.heap.size<=j) (λj hj=>.inr hj) (hst.mono (λj hj=>.inl hj)) hok v l ts hts h3 k1 ⟨k2,k3⟩
 rw [Jhq (dgW wd) wd (Jq wd hw) ch (by omega) ts hts h3,hlast]
 subst hvs
 cases ha:JR (dgW wd) st ts with
 | error er=>
  rw [ha] at H
  exact JhT (λw' k=>hF.next k) er hl _ _ _ H
 | ok st'=>
  rw [ha] at H
  dsimp only
  have e:Ye (dgW wd) ch ts st'=hdrB (m+1,dgW wd (72 :: bh.data.toList),dgW wd (66 :: Xf ts),Xi (dgW wd) st')++Xf ts:=by
   unfold Ye Zl
   rw [hm,hlast]
  rw [e]
  exact JjC hl _ _ _ _ H
theorem Jck (wd base:Nat) {pn:Nat} {w:World} {lb:Nat} {F:Nat->Prop} {fl:Nat} {ch:Ch} (hA:LAt wd base pn w lb F fl ch):
  Calls Tryz.prog 15 #[.pointer (some ⟨lb,0,none⟩)] w λe w'=>e=.returned (.int .i64 ((ch.length:Int) - 1))/\Tch NoB w w':=by
 obtain ⟨_,lg,cb,r,bs,lv,C⟩:=hA
 have hl:=rows C.led
 have hm:=C.most
 refine (fTip hl _ (Jbp C.row (by rw [C.len];omega))).mono λe w' k=>⟨?_,by rw [<-k.2];exact Te _ _⟩
 rw [k.1,C.len]
theorem JbF (id:BA) (outs:List (Nat×Nat)) (ho:∀o∈outs,Jr o) (h3:outs.length<=3):∃st,JG id 0 outs none=.ok st:=by
 have B0:Book id.size none []:=by
  refine ⟨?_,?_,?_,?_⟩
  ·intro t ht;cases ht
  ·intro h hh;exact (QD hh).elim
  ·exact List.nodup_nil
  ·intro k o;simp [Xb]
 have:=ZT id.size id rfl outs ho 0 (by omega) none [] 0 false B0
 obtain ⟨o',b',e⟩:=JaE id outs outs 0 rfl (by omega) 0 false
 have e0:Xp id outs 0=[]:=rfl
 rw [e0] at e
 rw [show (0:Nat) % M64=0 from rfl,e] at this
 obtain ⟨st',e1,_,_⟩:=this
 exact ⟨st',e1⟩
def HdIs (wd:Nat) (c:BA×Option Tr):Prop:=∃h:HdL,c.1=⟨(hdrB h).toArray⟩/\HdOk wd h/\h.2.2.2=Xi (dgW wd) c.2
theorem JhV (wd:Nat) (hw:wd<=32) (outs:List (Nat×Nat)) (st:Option Tr):HdIs wd (⟨(hdrB (XA wd outs st)).toArray⟩,st):=by
 refine ⟨XA wd outs st,rfl,?_,rfl⟩
 unfold XA Jde
 exact ⟨by show (0:Nat)<_;decide,by show ByteArray.size _=_;rw [Ju,List.length_replicate],Jq wd hw _,XW (dgW wd) wd (Jq wd hw) _⟩
set_option maxHeartbeats 1000000

theorem JhS {w:World} {lb cb:Nat} (hl:w.cell? ⟨lb,0,none⟩=some (.pointer (some ⟨cb,0,none⟩))) (k:Int) (c:BA×Int) (s:BA) (h:∀W,Tch NoB w W->Calls prog 50 #[.pointer (some ⟨cb,0,none⟩),.int .i64 k,.agg #[.string c.1,.int .i64 c.2]] W λe w'=>Tch NoB W w'/\e=.returned (.tuple #[.string s,.nilIface])):
  Calls prog 24 #[.pointer (some ⟨lb,0,none⟩),.int .i64 k,.agg #[.string c.1,.int .i64 c.2]] w λe w'=>e=.returned (.tuple #[.string s,.int .i64 0])/\Tch NoB w w':=by
 obtain ⟨cs,cN⟩:=c
 have H:Hid _:=h
 dsimp only at H ⊢
 have hlb:lb<w.heap.size:=by
  by_cases h:lb<w.heap.size
  ·exact h
  ·exfalso
   have:w.heap[lb]? =none:=Array.getElem?_eq_none (by omega)
   simp [World.cell?,this] at hl
 obtain ⟨W,(HW:Hid _)⟩:∃W,W=w.alloc (.cells #[.string cs,.int .i64 cN] 49):=⟨_,rfl⟩
 have hA:Tch NoB w W:=by rw [HW];exact Ta _ _ _
 have hr:W.heap[w.heap.size]? =some (.cells #[.string cs,.int .i64 cN] 49):=by rw [HW];exact Qf _ _
 obtain ⟨c0,c1⟩:=rows hr
 have c2:=(hA.cell (p:=⟨lb,0,none⟩) hlb (λh=>h)).trans hl
 have HA:Hid _:=hA
 clear hA hr hl hlb
 go_enter func24,ntmps24
 go_upto_region 1 with fail
 rw [<-HW.o]
 go_region_with (go_at_call 50;refine (H _ (HA.go (Td _ W 1))).mono ?_;rintro _ w1 ⟨ht,rfl⟩;have HT:Hid _:=(HA.go (Td _ W 1)).go ht)
 all_goals
  go_wp2_with fail
  refine (YU _).mono ?_
  rintro _ _ ⟨rfl,rfl⟩
  go_wp2
  go_ret2
  exact ⟨rfl,HT⟩
theorem Jgi {E:Nat->Addr} {w:World} {lb cb:Nat} (hS:∀w',Tch NoB w w'->Env E w'/\Sent E w') (er:Er) (hl:w.cell? ⟨lb,0,none⟩=some (.pointer (some ⟨cb,0,none⟩))) (k:Int) (c:BA×Int) (h:∀W,Tch NoB w W->Calls prog 50 #[.pointer (some ⟨cb,0,none⟩),.int .i64 k,.agg #[.string c.1,.int .i64 c.2]] W λe w'=>Tch NoB W w'/\∃t u,e=.returned (.tuple #[.string ⟨#[]⟩,.iface t u])/\Jl E (erG er) w' (.iface t u)):
  Calls prog 24 #[.pointer (some ⟨lb,0,none⟩),.int .i64 k,.agg #[.string c.1,.int .i64 c.2]] w λe w'=>e=.returned (.tuple #[.string ⟨#[]⟩,.int .i64 (Xs er)])/\Tch NoB w w':=by
 obtain ⟨cs,cN⟩:=c
 have H:Hid _:=h
 have HS:Hid _:=hS
 dsimp only at H ⊢
 have hlb:lb<w.heap.size:=by
  by_cases h:lb<w.heap.size
  ·exact h
  ·exfalso
   have:w.heap[lb]? =none:=Array.getElem?_eq_none (by omega)
   simp [World.cell?,this] at hl
 obtain ⟨W,(HW:Hid _)⟩:∃W,W=w.alloc (.cells #[.string cs,.int .i64 cN] 49):=⟨_,rfl⟩
 have hA:Tch NoB w W:=by rw [HW];exact Ta _ _ _
 have hr:W.heap[w.heap.size]? =some (.cells #[.string cs,.int .i64 cN] 49):=by rw [HW];exact Qf _ _
 obtain ⟨c0,c1⟩:=rows hr
 have c2:=(hA.cell (p:=⟨lb,0,none⟩) hlb (λh=>h)).trans hl
 have HA:Hid _:=hA
 clear hA hr hl hlb
 go_enter func24,ntmps24
 go_upto_region 1 with fail
 rw [<-HW.o]
 go_region_with (go_at_call 50;refine (H _ (HA.go (Td _ W 1))).mono ?_;rintro _ w1 ⟨ht,t,u,rfl,he⟩;have HT:Hid _:=(HA.go (Td _ W 1)).go ht;have HR:Hid (Calls _ _ _ _ _):=Jah er (HS w1 HT).1 (HS w1 HT).2 t u he)
 all_goals
  go_wp2_with fail
  refine HR.o.mono ?_
  rintro _ w2 ⟨rfl,ht2⟩
  have HT2:Hid _:=ht2
  go_wp2
  go_ret2
  exact ⟨rfl,HT.go HT2⟩

theorem Jby (bs:List BV):∀(i k:Nat),(Js i bs)[k]? =(bs[k]?).map λb=>⟨.int .i64 ((i+k:Nat):Int),bV b,i+k⟩:=by
 induction bs with
 | nil=>intro i k;simp [Js]
 | cons b r ih=>
  intro i k
  cases k with
  | zero=>simp [Js]
  | succ k=>
   rw [Js,List.getElem?_cons_succ,ih,List.getElem?_cons_succ]
   have e:i+1+k=i+(k+1):=by omega
   rw [e]
theorem Jel (bs:List BV) (b:BV):∀(i k:Nat),k<bs.length->Js i (bs.set k b)=(Js i bs).modify k λe=>{ e with key:=.int .i64 ((i+k:Nat):Int),val:=bV b }:=by
 induction bs with
 | nil=>intro i k h;simp at h
 | cons x r ih=>
  intro i k h
  cases k with
  | zero=>simp [Js]
  | succ k=>
   rw [Qc,Js,ih (i+1) k (by simpa using h),Js]
   have e:i+1+k=i+(k+1):=by omega
   rw [e]
   rfl
theorem Jis {w:World} {r:Nat} {bs:List BV} (h:w.heap[r]? =some (.map (Js 0 bs).toArray bs.length)) (k:Nat) (hk:k<bs.length) (b:BV):
  (Instr.mapUpdate 141 (.map (some r)) (.int .i64 (k:Int)) (bV b)).run prog w=.ok () (w.setBlocks r (bs.set k b)):=by
 have h1:=YR bs 0 0 (k:Int)
 rw [if_pos (by omega)] at h1
 obtain ⟨x,hx⟩:∃x,bs[k]? =some x:=⟨_,Qd hk⟩
 simp only [Int.toNat_natCast,Nat.sub_zero,Nat.zero_add,hx,Option.map_some] at h1
 have hkey:Go.MapKept.IsKey (.int .i64) (.int .i64 (k:Int)):=by simp [Go.MapKept.IsKey]
 have h2:(Js 0 bs)[k]? =some ⟨.int .i64 (k:Int),bV x,k⟩:=by
  rw [Jby,hx]
  simp
 simp [Instr.mapUpdate,run_underlying Jhw,Go.MapKept.run_getObj_map h,Go.MapKept.run_checkKey (d:=.int .i64) Jb8 hkey,Go.MapKept.run_findKey Jb8 h1,h2,Go.MapKept.run_keyThatStays hkey,Go.MapKept.run_setObj_map _ h,Result.andThen,World.setBlocks,Jel bs b 0 k hk]
theorem JjI (E:Nat->Addr) (b:Nat) (wd:Nat) (n:Nat) (hn:n<2 ^ 31) (w:World) (hp:Jc w b none (wd:Int) .nilIface (.wr [])):
  Calls prog 157 #[.pointer (some ⟨b,0,none⟩),.int .i64 (n:Int)] w λe w'=>e=.returned (.int .i64 (n:Int))/\StTo E w w' b none (wd:Int) (some (.wr (beL n 4 4))):=by
 have hnum:(PS.wr []).num n 4=some (n,.wr (beL n 4 4)):=by simp only [PS.num];rw [if_pos (by omega)];rfl
 have HN:Hid (Calls prog 138 #[.pointer (some ⟨b,0,none⟩),.int .u64 (n:Int),.int .i64 4] w λe w'=>e=.returned (.int .u64 (n:Int))/\StTo E w w' b none (wd:Int) (some (.wr (beL n 4 4)))):=Xk b none wd n 4 n (.wr []) _ w hp (by omega) (by simp [PS.len]) hnum
 have hu:IntKind.u64.wrap (n:Int)=(n:Int):=JA _ (by omega) (by omega)
 have hi:IntKind.i64.wrap (n:Int)=(n:Int):=by simp [IntKind.wrap,IntKind.bits,IntKind.signed];omega
 clear hp hnum
 go_enter func157,ntmps157
 go_wp2_with fail
 refine HN.o.mono ?_
 rintro _ w1 ⟨rfl,h⟩
 have H:Hid _:=h
 clear h HN
 go_wp2
 go_ret
 exact ⟨rfl,H.out⟩
theorem Jcb (E:Nat->Addr) {w:World} (hE:Env E w) {cb wd fl r:Nat} {bs:List BV} {lv:Value} (h:Jt w cb wd fl r bs lv) (base:Nat) (hbase:base<=w.heap.size) (lg:List UInt8) (hl:JU base w lv lg) (hll:lg.length<=140737488000000) (n:Nat) (hn:n<2 ^ 31):
  Calls prog 97 #[.pointer (some ⟨cb,0,none⟩),.int .i64 (n:Int)] w λe w'=>e=.returned .nilIface/\∃lv',Jt w' cb wd fl r bs lv'/\JU base w' lv' (lg++recB [80] (beL n 4 4))/\Tch (λk=>k=cb\/some k=lv.ownBlock) w w'/\Jm w lv.ownBlock lv'.ownBlock:=by
 have hcb:=(Jb h.row)
 have c0:w.cell? ⟨cb,0,none⟩=some (.int .i64 (wd:Int)):=Ja h.row
 obtain ⟨sb,hsb⟩:∃sb:BA,sb=⟨(beL n 4 4).toArray⟩:=⟨_,rfl⟩
 have HST:Hid (∀W,Jc W w.heap.size none (wd:Int) .nilIface (.wr [])->Calls prog 157 #[.pointer (some ⟨w.heap.size,0,none⟩),.int .i64 (n:Int)] W λe w'=>e=.returned (.int .i64 (n:Int))/\StTo E W w' w.heap.size none (wd:Int) (some (.wr (beL n 4 4)))):=λW hp=>JjI E w.heap.size wd n hn W hp
 have HWD:Hid (∀W g,Jh E W w.heap.size g (wd:Int) (some (.wr (beL n 4 4)))->Calls prog 79 #[.pointer (some ⟨w.heap.size,0,none⟩)] W λe w'=>Tch NoB W w'/\e=.returned (.tuple #[.string sb,.nilIface])):=λW g hp=>by
  rw [hsb];exact ZL E w.heap.size g wd (some (.wr (beL n 4 4))) (λp hp=>⟨_,(Option.some.inj hp).symm⟩) W hp
 have HRC:Hid (∀W,Tch NoB w W->Calls prog 89 #[.pointer (some ⟨cb,0,none⟩),.string ⟨#[80]⟩,.string sb] W λe w'=>e=.returned .nilIface/\∃lv',Jt w' cb wd fl r bs lv'/\JU base w' lv' (lg++recB [80] (beL n 4 4))/\Tch (λk=>k=cb\/some k=lv.ownBlock) W w'/\Jm W lv.ownBlock lv'.ownBlock):=λW hT=>by
  have:=JaQ E (hE.tch hT noE) (h.next hT) base (Qm hbase hT.size) lg (hl.next hT) hll ⟨#[80]⟩ sb rfl (by rw [hsb,Ju,Je];omega)
  have e:sb.data.toList=beL n 4 4:=by rw [hsb]
  rw [e] at this
  exact this
 clear hE h hbase hl hll hsb hn hcb
 go_enter func97,ntmps97
 go_wp2_with fail
 refine (JV _ _).mono ?_
 rintro _ w1 ⟨rfl,hp1,ht1⟩
 have HT1:Hid _:=ht1
 have HP1:Hid _:=hp1
 clear ht1 hp1 c0
 go_wp2_with fail
 refine (HST.o w1 HP1.o).mono ?_
 rintro _ w2 ⟨rfl,g2,hp2,hm2,ht2⟩
 have HT2:Hid (Tch NoB w w2):=Xt (b:=w.heap.size) (Ql _) HT1.o ht2
 have HP2:Hid _:=hp2
 clear hp2 hm2 ht2 HST HT1 HP1
 go_wp2_with fail
 refine (HWD.o w2 g2 HP2.o).mono ?_
 rintro _ w3 ⟨ht3,rfl⟩
 have HT3:Hid (Tch NoB w w3):=HT2.o.go ht3
 clear ht3 HP2 HT2 HWD
 go_wp2_with fail
 refine (HRC.o w3 HT3.o).mono ?_
 rintro _ w4 ⟨rfl,lv',k1,k2,k3,k4⟩
 have HK:Hid (Jt w4 cb wd fl r bs lv'/\JU base w4 lv' (lg++recB [80] (beL n 4 4))/\Tch (λk=>k=cb\/some k=lv.ownBlock) w3 w4/\Jm w3 lv.ownBlock lv'.ownBlock):=⟨k1,k2,k3,k4⟩
 clear k1 k2 k3 k4 HRC
 go_wp2
 go_ret
 refine ⟨rfl,lv',HK.o.1,HK.o.2.1,(HT3.o.mono noE).trans HK.o.2.2.1 (λj hj=>.inl hj),?_⟩
 rcases HK.o.2.2.2 with h | ⟨k,h,hk⟩
 ·exact .inl h
 ·exact .inr ⟨k,h,Qm HT3.o.size hk⟩
