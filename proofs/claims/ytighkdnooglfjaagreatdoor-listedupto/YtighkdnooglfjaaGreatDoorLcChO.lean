import Derived.Test.YtighkdnooglfjaaGreatDoorLcChN
import Derived.Test.YtighkdnooglfjaaGreatDoorLcChP
import Derived.Test.YtighkdnooglfjaaGreatDoorLcVfA
namespace Go.Proofs.YtighkdnooglfjaaGreatDoor
open Go.RowKit

variable {hd:BA}{ch:Ch}{bs:List BV}{qs:List Nat}{ext lg:List UInt8}{base cb fl lb p pn q r wj:Nat}{E:Nat->Addr}{F S:Nat->Prop}{lv lv':Value}{w w':World}
theorem JeZ(E:Nat->Addr)(hE:Env E w)(hw1:1<=wj)(hw:wj<=32)(h:JB w cb wj fl r bs lv)(m:Nat)(hm:bs.length=m+1)(hm2:m<2 ^ 31)(bh:BA)(q:Option Nat)(st:Option Tr)(hb:bs[m]? =some (bh,wj,q))(hbs:bh.size<=1000)(F:Nat->Prop)(hF:∀j,w.heap.size<=j->F j)(hs:StAt (dgW wj) F w q st)(hok:StOk wj st)
 (base:Nat) (hbase:base<=w.heap.size) (lg:List UInt8) (hlg:Xp base w lv lg) (hll:lg.length<=140737488000000) (s:BA) (hsS:s.size<=1100000):
  Calls Tryz.prog 46 #[.pointer (some ⟨cb,0,none⟩),.string s] w λe w'=>Jkk E wj base F w cb fl r bs lv lg s (subP (dgW wj) wj m bh st s.data.toList) e w':=by
 cases hh:(PS.rd [] s.data.toList).hdr wj (0,⟨#[]⟩,⟨#[]⟩,⟨#[]⟩) with
 | none=>
  have e:subP (dgW wj) wj m bh st s.data.toList=.error .form:=by unfold subP;rw[hh]
  rw[e];exact JfW E hE hw h s hsS hh
 | some x=>
  obtain⟨y,p⟩:=x;obtain⟨pre,body,l1,e1,e2,_⟩:=Jdn wj hw _ _ _ _ _ hh;rw[List.nil_append]at e2;subst e2;have hlen:pre.length+body.length=s.size:=by have:=congrArg List.length e1;rw[JT,Qe]at this;exact this.symm
  by_cases hex:∃ts q3,(PS.rd pre body).body wj []=some (ts,.rd q3 [])
  ·obtain⟨ts,q3,hbd⟩:=hex;obtain⟨b2,r2,l2,e3,e4,h3,hts⟩:=JaT wj hw _ _ _ _ hbd;simp only[PS.of.injEq,Sum.inl.injEq,Qw]at e4;obtain⟨_,rfl⟩:=e4;rw[QC]at e3;have hl2:body.length<=385:=(by rw[e3];exact l2);have e:subP (dgW wj) wj m bh st s.data.toList=(if y ≠ (m+1,dgW wj (72::bh.data.toList),dgW wj (66::body),y.2.2.2) then .error .tip else subR (dgW wj) (JZ (dgW wj) st ts) y.2.2.2 ⟨pre.toArray⟩):=by
    unfold subP subR;rw[hh];dsimp only;rw[hbd];dsimp only;have ec:s.data.toList.take (s.data.toList.length-body.length)=pre:=(by rw[JT,<-hlen,Nat.add_sub_cancel,e1,List.take_left'];rfl);rw[ec];rfl
   rw[e];exact JdQ E hE hw1 hw h m hm hm2 bh q st hb hbs F hF hs hok base hbase lg hlg hll s (by omega) y pre body hh e1 ts q3 hbd hts h3
  ·have hne:∀ts q3,(PS.rd pre body).body wj [] ≠ some (ts,.rd q3 []):=λts q3 h=>hex ⟨ts,q3,h⟩;have e:subP (dgW wj) wj m bh st s.data.toList=.error .form:=by
    unfold subP;rw[hh];dsimp only
    cases hx:(PS.rd pre body).body wj [] with
    | none=>rfl
    | some z=>
     obtain⟨ts,p⟩:=z;obtain⟨b1,r1,_,_,e4,_⟩:=JaT wj hw _ _ _ _ hx;subst e4
     cases r1 with
     | nil=>exact absurd hx (hne _ _)
     | cons a l=>rfl
   rw[e];exact JfX E hE hw h s hsS y pre body hh (by omega) hne
open Tryz
set_option maxRecDepth 100000

theorem JiS(er:Er):JkJ (erG er)=XP er:=by cases er using Er.on<;>rfl
theorem Jnv(er:Er):erG er∈Ss:=by cases er using Er.on<;>decide
theorem fTip(hl:w.cell? ⟨lb,0,none⟩=some (.pointer (some ⟨cb,0,none⟩)))(n:Int)(h:Calls prog 40 #[.pointer (some ⟨cb,0,none⟩)] w λe w'=>e=.returned (.int .i64 n)/\w=w'):
  Calls prog 15 #[.pointer (some ⟨lb,0,none⟩)] w λe w'=>e=.returned (.int .i64 n)/\w=w':=by
 have H:Hid (Calls _ _ _ _ _):=h;clear h;go_enter func15,ntmps15;go_wp2_with fail;refine H.out.mono ?_;rintro _ _⟨rfl,rfl⟩;go_wp2;go_ret;exact⟨rfl,rfl⟩
theorem Jbu(er:Er)(hE:Env E w)(hS:Sent E w)(t:TypeId)(u:Value)(hv:Jp E (erG er) w (.iface t u)):
  Calls prog 42 #[.iface t u] w λe w'=>e=.returned (.int .i64 (XP er))/\Tch NoB w w':=by
 refine(Ji0 (erG er) (Jnv er) hE hS _ hv).mono λe w' k=>?_;rw[JiS]at k;exact⟨k.1,by rw[k.2];exact Te _ _⟩
theorem Jhg(hl:w.cell? ⟨lb,0,none⟩=some (.pointer (some ⟨cb,0,none⟩)))(k:Int)(s:BA)(h:Calls prog 41 #[.pointer (some ⟨cb,0,none⟩),.int .i64 k] w λe w'=>Tch NoB w w'/\e=.returned (.tuple #[.string s,.nilIface])):
  Calls prog 16 #[.pointer (some ⟨lb,0,none⟩),.int .i64 k] w λe w'=>e=.returned (.tuple #[.string s,.int .i64 0])/\Tch NoB w w':=by
 have H:Hid (Calls _ _ _ _ _):=h;clear h;go_enter func16,ntmps16;go_wp2_with fail;refine H.out.mono ?_;rintro _ w1⟨ht,rfl⟩;have HT:Hid (Tch NoB w w1):=ht;clear ht H;go_wp2_with fail;refine(ZN _).mono ?_;rintro _ _⟨rfl,rfl⟩;go_wp2;go_ret2;exact⟨rfl,HT.o⟩
theorem Jf7(hS:∀w',Tch NoB w w'->Env E w'/\Sent E w')(er:Er)(hl:w.cell? ⟨lb,0,none⟩=some (.pointer (some ⟨cb,0,none⟩)))(k:Int)(h:Calls prog 41 #[.pointer (some ⟨cb,0,none⟩),.int .i64 k] w λe w'=>Tch NoB w w'/\∃t u,e=.returned (.tuple #[.string ⟨#[]⟩,.iface t u])/\Jp E (erG er) w' (.iface t u)):
  Calls prog 16 #[.pointer (some ⟨lb,0,none⟩),.int .i64 k] w λe w'=>e=.returned (.tuple #[.string ⟨#[]⟩,.int .i64 (XP er)])/\Tch NoB w w':=by
 have H:Hid (Calls _ _ _ _ _):=h;have HS:Hid _:=hS;go_enter func16,ntmps16;go_wp2_with fail;refine H.out.mono ?_;rintro _ w1⟨ht,t,u,rfl,he⟩;have HT:Hid _:=ht;have HR:Hid (Calls _ _ _ _ _):=Jbu er (HS w1 ht).1 (HS w1 ht).2 t u he;go_wp2_with fail;refine HR.o.mono ?_;rintro _ w2⟨rfl,ht2⟩;have HT2:Hid _:=ht2;go_wp2;go_ret2;exact⟨rfl,HT.go HT2⟩
theorem JkR(hl:w.cell? ⟨lb,0,none⟩=some (.pointer (some ⟨cb,0,none⟩)))(ia:Option Addr)(n ic:Nat)(s:BA)(h:Calls prog 45 #[.pointer (some ⟨cb,0,none⟩),.slice ia n ic] w λe w'=>Tch NoB w w'/\e=.returned (.tuple #[.string s,.nilIface])):
  Calls prog 18 #[.pointer (some ⟨lb,0,none⟩),.slice ia n ic] w λe w'=>Tch NoB w w'/\e=.returned (.tuple #[.string s,.int .i64 0]):=by
 have H:Hid (Calls _ _ _ _ _):=h;clear h;go_enter func18,ntmps18;go_wp2_with fail;refine H.out.mono ?_;rintro _ w1⟨ht,rfl⟩;have HT:Hid (Tch NoB w w1):=ht;clear ht H;go_wp2_with fail;refine(ZN _).mono ?_;rintro _ _⟨rfl,rfl⟩;go_wp2;go_ret2;exact⟨HT.o,rfl⟩
theorem Ji3(hS:∀w',Tch NoB w w'->Env E w'/\Sent E w')(er:Er)(hl:w.cell? ⟨lb,0,none⟩=some (.pointer (some ⟨cb,0,none⟩)))(ia:Option Addr)(n ic:Nat)(h:Calls prog 45 #[.pointer (some ⟨cb,0,none⟩),.slice ia n ic] w λe w'=>Tch NoB w w'/\∃t u,e=.returned (.tuple #[.string ⟨#[]⟩,.iface t u])/\Jp E (erG er) w' (.iface t u)):
  Calls prog 18 #[.pointer (some ⟨lb,0,none⟩),.slice ia n ic] w λe w'=>Tch NoB w w'/\e=.returned (.tuple #[.string ⟨#[]⟩,.int .i64 (XP er)]):=by
 have H:Hid (Calls _ _ _ _ _):=h;have HS:Hid _:=hS;go_enter func18,ntmps18;go_wp2_with fail;refine H.out.mono ?_;rintro _ w1⟨ht,t,u,rfl,he⟩;have HT:Hid _:=ht;have HR:Hid (Calls _ _ _ _ _):=Jbu er (HS w1 ht).1 (HS w1 ht).2 t u he;go_wp2_with fail;refine HR.o.mono ?_;rintro _ w2⟨rfl,ht2⟩;have HT2:Hid _:=ht2;go_wp2;go_ret2;exact⟨HT.go HT2,rfl⟩
theorem Jhi(hl:w.cell? ⟨lb,0,none⟩=some (.pointer (some ⟨cb,0,none⟩)))(s:BA)(Q:World->Prop)(h:Calls prog 46 #[.pointer (some ⟨cb,0,none⟩),.string s] w λe w'=>e=.returned .nilIface/\Q w'):
  Calls prog 19 #[.pointer (some ⟨lb,0,none⟩),.string s] w λe w'=>e=.returned (.int .i64 0)/\Q w':=by
 have H:Hid (Calls _ _ _ _ _):=h;clear h;go_enter func19,ntmps19;go_wp2_with fail;refine H.out.mono ?_;rintro _ w1⟨rfl,hq⟩;have HQ:Hid (Q w1):=hq;clear hq H;go_wp2_with fail;refine(ZN _).mono ?_;rintro _ _⟨rfl,rfl⟩;go_wp2;go_ret;exact⟨rfl,HQ.o⟩
theorem Jf8(hS:∀w',Tch NoB w w'->Env E w'/\Sent E w')(er:Er)(hl:w.cell? ⟨lb,0,none⟩=some (.pointer (some ⟨cb,0,none⟩)))(s:BA)(h:Calls prog 46 #[.pointer (some ⟨cb,0,none⟩),.string s] w λe w'=>NoTo E (erG er) w e w'):
  Calls prog 19 #[.pointer (some ⟨lb,0,none⟩),.string s] w λe w'=>e=.returned (.int .i64 (XP er))/\Tch NoB w w':=by
 have H:Hid (Calls _ _ _ _ _):=h;have HS:Hid _:=hS;go_enter func19,ntmps19;go_wp2_with fail;refine H.out.mono ?_;rintro _ w1⟨ht,t,u,rfl,he⟩;have HT:Hid _:=ht;have HR:Hid (Calls _ _ _ _ _):=Jbu er (HS w1 ht).1 (HS w1 ht).2 t u he;go_wp2_with fail;refine HR.o.mono ?_;rintro _ w2⟨rfl,ht2⟩;have HT2:Hid _:=ht2;go_wp2;go_ret;exact⟨rfl,HT.go HT2⟩
theorem fNew(wj:Int)(ia:Option Addr)(n ic:Nat)(Q:World->Nat->Prop)(h:Calls prog 72 #[.int .i64 wj,.slice ia n ic] w λe w'=>∃cb,e=.returned (.tuple #[.pointer (some ⟨cb,0,none⟩),.nilIface])/\Q w' cb):
  Calls prog 37 #[.int .i64 wj,.slice ia n ic] w λe w'=>∃w1 cb,Q w1 cb/\w'=w1.alloc (.cells #[.pointer (some ⟨cb,0,none⟩)] 90)/\e=.returned (.tuple #[.pointer (some ⟨w1.heap.size,0,none⟩),.int .i64 0]):=by
 have H:Hid (Calls _ _ _ _ _):=h;clear h;go_enter func37,ntmps37;go_wp2_with fail;refine H.out.mono ?_;rintro _ w1⟨cb,rfl,hq⟩;have HQ:Hid (Q w1 cb):=hq;clear hq H;go_wp2;go_ret2;exact⟨w1,cb,HQ.o,rfl,rfl⟩

def Jl2(T:TypeId):Prop:=T=90\/T=143\/T=243\/T=5
structure Ym(wj base pn:Nat)(w:World)(lb:Nat)(F:Nat->Prop)(fl:Nat)(ch:Ch)(lg:List UInt8)(cb r:Nat)(bs:List BV)(lv:Value):Prop where
 led:w.heap[lb]? =some (.cells #[.pointer (some ⟨cb,0,none⟩)] 90)
 row:JB w cb wj fl r bs lv
 log:Xp base w lv lg
 len:bs.length=ch.length
 pos:fl<ch.length
 most:ch.length<=134217728
 short:lg.length<=1000100*ch.length+100*pn
 few:pn<=134217728
 hdr:∀(i:Nat) b c,bs[i]? =some b->ch[i]? =some c->b.1=c.1/\b.1.size<=1000
 st:∀(i:Nat) b c,bs[i]? =some b->ch[i]? =some c->fl<=i->b.2.1=wj/\StAt (dgW wj) F w b.2.2 c.2/\StOk wj c.2
 gone:∀(i:Nat) b,bs[i]? =some b->i<fl->b.2=(0,none)
 ownL:F lb
 ownC:F cb
 ownR:F r
 ownG:∀k,lv.ownBlock=some k->F k
 low:∀j,F j->base<=j/\j<w.heap.size
 kind:∀j,F j->∀cur T m,w.heap[j]? =some (.cells cur T m)->Jl2 T
theorem JB.tch{v:Value}(h:JB w cb wj fl r bs v)(k:Tch S w w')(h1:¬S cb)(h2:¬S r):JB w' cb wj fl r bs v:=
 ⟨(k.block _ (Jb h.row) h1).trans h.row,(k.block _ (Jb h.map) h2).trans h.map⟩
theorem Ym.keep(h:Ym wj base pn w lb F fl ch lg cb r bs lv)(k:Tch S w w')(hs:∀j,S j->¬F j):Ym wj base pn w' lb F fl ch lg cb r bs lv where
 led:=(k.block _ (Jb h.led) (λe=>hs _ e h.ownL)).trans h.led
 row:=h.row.tch k (λe=>hs _ e h.ownC) (λe=>hs _ e h.ownR)
 log:=h.log.tch k (λj hj e=>hs _ e (h.ownG j hj))
 len:=h.len
 pos:=h.pos
 most:=h.most
 short:=h.short
 few:=h.few
 hdr:=h.hdr
 st:=λi b c h1 h2 h3=>⟨(h.st i b c h1 h2 h3).1,(h.st i b c h1 h2 h3).2.1.tch k hs,(h.st i b c h1 h2 h3).2.2⟩
 gone:=h.gone
 ownL:=h.ownL
 ownC:=h.ownC
 ownR:=h.ownR
 ownG:=h.ownG
 low:=λj hj=>⟨(h.low j hj).1,Qk (h.low j hj).2 k.size⟩
 kind:=λj hj cur T m hr=>h.kind j hj cur T m ((k.block j (h.low j hj).2 (λe=>hs j e hj)).symm.trans hr)
def Jn4(wj base pn:Nat)(w:World)(lb:Nat)(F:Nat->Prop)(fl:Nat)(ch:Ch):Prop:=∃lg cb r bs lv,Ym wj base pn w lb F fl ch lg cb r bs lv
theorem Ym.last(h:Ym wj base pn w lb F fl ch lg cb r bs lv):
  ∃m bh q st,ch.length=m+1/\bs.length=m+1/\bs[m]? =some (bh,wj,q)/\ch[m]? =some (bh,st)/\bh.size<=1000/\StAt (dgW wj) F w q st/\StOk wj st/\ch.last=(bh,st):=by
 have hp:=h.pos;obtain⟨m,hm⟩:∃m,ch.length=m+1:=⟨ch.length-1,by omega⟩
 have hbm:bs.length=m+1:=by rw[h.len,hm]
 have hb:bs[m]? =some (bs[m]'(by omega)):=Qd (by omega);have hc:ch[m]? =some (ch[m]'(by omega)):=Qd (by omega);generalize bs[m]'(by omega)=b at hb;obtain⟨e1,e2⟩:=h.hdr m _ _ hb hc;obtain⟨e3,e4,e5⟩:=h.st m _ _ hb hc (by omega);have hlast:ch.last=ch[m]'(by omega):=by
  unfold Ch.last;rw[List.getLastD_eq_getLast?,List.getLast?_eq_getElem?];have e:ch.length-1=m:=by omega
  rw[e,hc];rfl
 generalize hcc:ch[m]'(by omega)=c at *;obtain⟨b1,b2,b3⟩:=b;obtain⟨c1,c2⟩:=c;simp only at e1 e3 e4 e5;subst e1 e3;exact⟨m,b1,b3,c2,hm,hbm,hb,hc,e2,e4,e5,hlast⟩
theorem Xm.next(h:Xm E base w)(k:Tch NoB w w'):Env E w'/\Sent E w':=⟨(h.tch k (λ_ e=>e.elim)).env,(h.tch k (λ_ e=>e.elim)).sent⟩
theorem Ym.more(h:Ym wj base pn w lb F fl ch lg cb r bs lv)(hc:ch.length<134217728){st:Option Tr}{q:Option Nat}(hx:ext.length<=1000100)
 (hR:JB w' cb wj fl r (bs++[(hd,wj,q)]) lv') (hS:StAt (dgW wj) (λj=>(F j/\¬some j=lv.ownBlock)\/w.heap.size<=j) w' q st) (hk:StOk wj st) (hL:Xp base w' lv' (lg++ext)) (hT:Tch (λk=>k=cb\/k=r\/some k=lv.ownBlock) w w') (hM:Jm w lv.ownBlock lv'.ownBlock) (hh:hd.size<=1000) (hbw:base<=w.heap.size):
  ∃F':Nat->Prop,(∀j,F' j->F j\/w.heap.size<=j)/\Ym wj base pn w' lb F' fl (ch++[(hd,st)]) (lg++ext) cb r (bs++[(hd,wj,q)]) lv':=by
 have hTF:∀j,(j=cb\/j=r\/some j=lv.ownBlock)->F j:=λj hj=>by
  rcases hj with rfl|rfl|e
  ·exact h.ownC
  ·exact h.ownR
  ·exact h.ownG j e.symm
 have hnew:∀k,lv'.ownBlock=some k->F k\/w.heap.size<=k:=λk hk=>by
  rcases hM with e|⟨i,e,hi⟩
  ·exact .inl (h.ownG k (by rw[<-e];exact hk))
  ·rw[hk]at e;cases e;exact .inr hi
 have hlne:lb ≠ cb/\lb ≠ r/\¬some lb=lv.ownBlock:=by
  refine⟨λe=>?_,λe=>?_,λe=>?_⟩
  ·have:=h.led;rw[e,h.row.row]at this;simp at this
  ·have:=h.led;rw[e,h.row.map]at this;simp at this
  ·obtain⟨cu,mm,hr⟩:=h.log.kind lb e.symm;rw[h.led]at hr;simp at hr
 refine⟨λj=>(F j/\¬(some j=lv.ownBlock/\¬lv'.ownBlock=some j))\/(w.heap.size<=j/\((∃c,w'.heap[j]? =some (.cells c 243))\/lv'.ownBlock=some j)),λj hj=>hj.imp (λe=>e.1) (λe=>e.1),?_⟩;have hFF:∀j,F j->¬some j=lv.ownBlock->(F j/\¬(some j=lv.ownBlock/\¬lv'.ownBlock=some j))\/(w.heap.size<=j/\((∃c,w'.heap[j]? =some (.cells c 243))\/lv'.ownBlock=some j)):=λj hj hn=>.inl ⟨hj,λe=>hn e.1⟩;have hne:=h.log.ne_row h.row;exact {
  led:=(hT.block _ (Jb h.led) (λe=>by rcases e with e|e|e;exact hlne.1 e;exact hlne.2.1 e;exact hlne.2.2 e)).trans h.led
  row:=hR
  log:=hL
  len:=by rw[Qe,Qe,h.len];rfl
  pos:=by rw[Qe];have:=h.pos;omega
  most:=by rw[Qe];simp only[Qp,Qv];omega
  short:=by rw[Qe,Qe];simp only[Qp,Qv];have:=h.short;omega
  few:=h.few
  hdr:=λi b c h1 h2=>by
   by_cases hi:i<bs.length
   ·rw[QF hi]at h1;rw[QF (by have:=h.len;omega)]at h2;exact h.hdr i b c h1 h2
   ·rw[Qz (by omega)]at h1;rw[Qz (by have:=h.len;omega)]at h2;have e0:i-bs.length=0:=(by have:=(Qo.1 h1).1;simp at this;omega);rw[e0]at h1;rw[<-h.len,e0]at h2;simp only[List.getElem?_cons_zero,Qh]at h1 h2;subst h1 h2;exact⟨rfl,hh⟩
  st:=λi b c h1 h2 h3=>by
   by_cases hi:i<bs.length
   ·rw[QF hi]at h1;rw[QF (by have:=h.len;omega)]at h2;obtain⟨k1,k2,k3⟩:=h.st i b c h1 h2 h3;have k4:=k2.refine (G:=λj=>F j/\¬(j=cb\/j=r\/some j=lv.ownBlock)) (λj hj hc=>⟨hj,λe=>by
     obtain⟨cc,hc⟩:=hc
     rcases e with rfl|rfl|e
     ·rw[h.row.row]at hc;simp at hc
     ·rw[h.row.map]at hc;simp at hc
     ·obtain⟨cu,mm,hr⟩:=h.log.kind j e.symm;rw[hc]at hr;simp at hr⟩)
    exact⟨k1,(k4.tch hT (λj hj hG=>hG.2 hj)).mono (λj hj=>hFF j hj.1 (λe=>hj.2 (.inr (.inr e)))),k3⟩
   ·rw[Qz (by omega)]at h1;rw[Qz (by have:=h.len;omega)]at h2;have e0:i-bs.length=0:=(by have:=(Qo.1 h1).1;simp at this;omega);rw[e0]at h1;rw[<-h.len,e0]at h2;simp only[List.getElem?_cons_zero,Qh]at h1 h2;subst h1 h2;exact⟨rfl,hS.refine (λj hj hc=>hj.imp (λe=>⟨e.1,λe2=>e.2 e2.1⟩) (λe=>⟨e,.inl hc⟩)),hk⟩
  gone:=λi b h1 h2=>by
   rw[QF (by have:=h.pos;have:=h.len;omega)]at h1;exact h.gone i b h1 h2
  ownL:=hFF _ h.ownL hlne.2.2
  ownC:=hFF _ h.ownC hne.1
  ownR:=hFF _ h.ownR hne.2
  ownG:=λk hk=>(hnew k hk).imp (λe=>⟨e,λe2=>e2.2 hk⟩) (λe=>⟨e,.inr hk⟩)
  low:=λj hj=>by
   rcases hj with⟨hj,hjn⟩|⟨hj,hc|hc⟩
   ·exact⟨(h.low j hj).1,Qk (h.low j hj).2 hT.size⟩
   ·obtain⟨c,hc⟩:=hc;exact⟨by omega,(Jb hc)⟩
   ·exact⟨by omega,(hL.bs.own j hc).2⟩
  kind:=λj hj cur T m hr=>by
   rcases hj with⟨hj,hjn⟩|⟨hj,hc|hc⟩
   ·by_cases e:j=cb\/j=r\/some j=lv.ownBlock
    ·rcases e with rfl|rfl|e
     ·rw[hR.row]at hr;simp at hr;exact .inr (.inl hr.2.1.symm)
     ·rw[hR.map]at hr;simp at hr
     ·obtain⟨cu,mm,hr0⟩:=h.log.kind j e.symm
      by_cases e2:lv'.ownBlock=some j
      ·obtain⟨cu',mm',hr2⟩:=hL.kind j e2;rw[hr]at hr2;simp at hr2;exact .inr (.inr (.inr hr2.2.1))
      ·exact absurd ⟨e,e2⟩ hjn
    ·exact h.kind j hj cur T m ((hT.block j (h.low j hj).2 e).symm.trans hr)
   ·obtain⟨c,hc⟩:=hc;rw[hr]at hc;simp at hc;exact .inr (.inr (.inl hc.2.1))
   ·obtain⟨cu',mm',hr2⟩:=hL.kind j hc;rw[hr]at hr2;simp at hr2;exact .inr (.inr (.inr hr2.2.1)) }

theorem JeH{m:Nat}{bh:BA}{st:Option Tr}{text:List UInt8}(hw:wj<=32){st':Option Tr}(h:subP (dgW wj) wj m bh st text=.ok (hd,st')):hd.size<=1000/\text.length<=1000:=by
 unfold subP at h
 cases hh:(PS.rd [] text).hdr wj (0,⟨#[]⟩,⟨#[]⟩,⟨#[]⟩) with
 | none=>rw[hh]at h;cases h
 | some x=>
  obtain⟨y,p⟩:=x;obtain⟨pre,body,l1,e1,e2,_⟩:=Jdn wj hw _ _ _ _ _ hh;rw[List.nil_append]at e2;subst e2;rw[hh]at h;dsimp only at h
  split at h
  ·rename_i hb;obtain⟨b,r',h1,h2,h3,_⟩:=JaT wj hw _ _ _ _ hb;have h3':=congrArg (λp=>match p with|⟨.inl (_,r)⟩=>r|⟨.inr r⟩=>r) h3;simp only at h3';subst h3'
   split at h
   ·cases h
   ·split at h
    ·cases h
    ·split at h
     ·cases h
     ·simp only[Except.ok.injEq,Qw]at h;refine⟨?_,?_⟩
      ·rw[<-h.1,JA,QB,e1,Qe];omega
      ·rw[e1,h2,QC,Qe];omega
  ·cases h
def LAt(wj base pn:Nat)(w:World)(lb:Nat)(F:Nat->Prop)(fl:Nat)(ch:Ch):Prop:=(1<=wj/\wj<=32)/\Jn4 wj base pn w lb F fl ch
theorem LAt.keep(h:LAt wj base pn w lb F fl ch)(k:Tch S w w')(hs:∀j,S j->¬F j):LAt wj base pn w' lb F fl ch:=by
 obtain⟨h0,lg,cb,r,bs,lv,h1⟩:=h;exact⟨h0,lg,cb,r,bs,lv,h1.keep k hs⟩
theorem Jhs(E:Nat->Addr)(wj base:Nat)(h:Int)(hA:LAt wj base pn w lb F fl ch)(hF:Xm E base w):
  Calls prog 16 #[.pointer (some ⟨lb,0,none⟩),.int .i64 h] w λe w'=>e=.returned (.tuple #[.string (Jc5 ch h),.int .i64 (if 0<=h/\h<(ch.length:Int) then 0 else 7)])/\Tch NoB w w':=by
 obtain⟨_,lg,cb,r,bs,lv,C⟩:=hA;have hl:=rows C.led;have H:=JeY E hF.env C.row h
 by_cases hh:0<=h/\h<(ch.length:Int)
 ·rw[if_pos hh];obtain⟨n,rfl⟩:=Int.eq_ofNat_of_zero_le hh.1;have hn:n<ch.length:=by omega
  have hb:bs[n]? =some (bs[n]'(by rw[C.len];exact hn)):=Qd _;have hc:ch[n]? =some (ch[n]'hn):=Qd _;refine Jhg hl _ _ (H.mono λe w' k=>⟨k.1,?_⟩)
  rcases k.2 with⟨n',b,e1,e2,e3⟩|⟨e1,_⟩
  ·have:n=n':=(by omega);subst this;have hh1:=(C.hdr n _ _ e2 hc).1;rw[e3,hh1];unfold Jc5;rw[if_pos (by omega),Int.toNat_natCast,Qn,hc];rfl
  ·exact absurd ⟨hh.1,by rw[C.len];exact hh.2⟩ e1
 ·rw[if_neg hh];have e0:Jc5 ch h=⟨#[]⟩:=by
   unfold Jc5
   split
   ·rename_i h0;rw[Qn,List.getElem?_eq_none (by omega)];rfl
   ·rfl
  rw[e0];refine Jf7 (λw' k=>hF.next k) .range hl _ (H.mono λe w' k=>⟨k.1,?_⟩)
  rcases k.2 with⟨n',b,e1,e2,e3⟩|⟨_,e2⟩
  ·exact absurd ⟨by omega,by have:=(Qo.1 e2).1;rw[C.len]at this;omega⟩ hh
  ·exact e2
theorem Jjl(E:Nat->Addr)(wj base:Nat)(v:Value)(ts:List TxL)(hA:LAt wj base pn w lb F fl ch)(hF:Xm E base w)(hv:Jkn w v ts)(hts:∀t∈ts,TxOk wj t)(h3:ts.length<=3)(hc:ch.length<2 ^ 27):
  Calls prog 18 #[.pointer (some ⟨lb,0,none⟩),v] w λe w'=>Tch NoB w w'/\match JgL (dgW wj) wj ch ts with
   | .ok b=>e=.returned (.tuple #[.string ⟨b.toArray⟩,.int .i64 0])
   | .error er=>e=.returned (.tuple #[.string ⟨#[]⟩,.int .i64 (XP er)]):=by
 obtain⟨⟨hw1,hw⟩,lg,cb,r,bs,lv,C⟩:=hA;have hl:=rows C.led;obtain⟨m,bh,q,st,hm,hbm,hb,hcm,hbs,hst,hok,hlast⟩:=C.last;obtain⟨l,k1,k2,k3⟩:=hv;obtain⟨ia,ic,hvs⟩:=k1.shape;have H:=Jhb E hF.env hw1 hw C.row m hbm (by omega) bh q st hb hbs (λj=>F j\/w.heap.size<=j) (λj hj=>.inr hj) (hst.mono (λj hj=>.inl hj)) hok v l ts hts h3 k1 ⟨k2,k3⟩;rw[Jix (dgW wj) wj (Jz wj hw) ch (by omega) ts hts h3,hlast];subst hvs
 cases ha:JZ (dgW wj) st ts with
 | error er=>
  rw[ha]at H;exact Ji3 (λw' k=>hF.next k) er hl _ _ _ H
 | ok st'=>
  rw[ha]at H;dsimp only;have e:Yz (dgW wj) ch ts st'=hdrB (m+1,dgW wj (72::bh.data.toList),dgW wj (66::Xr ts),JV (dgW wj) st')++Xr ts:=by unfold Yz ZB;rw[hm,hlast]
  rw[e];exact JkR hl _ _ _ _ H
theorem Jgn(E:Nat->Addr)(wj base:Nat)(s:BA)(hA:LAt wj base pn w lb F fl ch)(hF:Xm E base w)(hs:s.size<=1100000)(hc:ch.length<2 ^ 27):
  Calls prog 19 #[.pointer (some ⟨lb,0,none⟩),.string s] w λe w'=>Tch F w w'/\∃F':Nat->Prop,(∀j,F' j->F j\/w.heap.size<=j)/\match YQ (dgW wj) wj ch s.data.toList with
   | .ok ch'=>e=.returned (.int .i64 0)/\LAt wj base pn w' lb F' fl ch'
   | .error er=>e=.returned (.int .i64 (XP er))/\LAt wj base pn w' lb F' fl ch:=by
 have hA0:=hA;obtain⟨⟨hw1,hw⟩,lg,cb,r,bs,lv,C⟩:=hA;have hl:=rows C.led;obtain⟨m,bh,q,st,hm,hbm,hb,hcm,hbs,hst,hok,hlast⟩:=C.last;have hbw:base<=w.heap.size:=by have:=C.low lb C.ownL;omega
 have hst2:StAt (dgW wj) (λj=>(F j/\¬some j=lv.ownBlock)\/w.heap.size<=j) w q st:=hst.refine (λj hj hc=>.inl ⟨hj,λe=>by
  obtain⟨cc,hc⟩:=hc;obtain⟨cu,mm,hr⟩:=C.log.kind j e.symm;rw[hc]at hr;simp at hr⟩)
 have hsh:=C.short;have hfw:=C.few;have H:=JeZ E hF.env hw1 hw C.row m hbm (by omega) bh q st hb hbs (λj=>(F j/\¬some j=lv.ownBlock)\/w.heap.size<=j) (λj hj=>.inr hj) hst2 hok base hbw lg C.log (by omega) s hs;rw[JhT (dgW wj) wj m bh st ch hm hlast]
 cases hp:subP (dgW wj) wj m bh st s.data.toList with
 | error er=>
  rw[hp]at H;refine(Jf8 (λw' k=>hF.next k) er hl s H).mono λe w' k=>⟨k.2.mono noE,F,λj hj=>.inl hj,k.1,hA0.keep k.2 noE⟩
 | ok x=>
  obtain⟨hd,st'⟩:=x;rw[hp]at H;refine(Jhi hl s _ H).mono λe w' k=>?_;obtain⟨k0,q',lv',k1,k2,k3,k4,k5,k6⟩:=k;have hx:(recB [66] s.data.toList).length<=1000100:=by have:=(JeH hw hp).2;rw[JbI];simp only[Qp,Qv];omega
  obtain⟨F',hF',C'⟩:=C.more (by omega) hx k1 k2 k3 k4 k5 k6 (JeH hw hp).1 hbw;refine⟨k5.mono (λj hj=>.inl ?_),F',hF',k0,⟨hw1,hw⟩,_,cb,r,_,lv',C'⟩
  rcases hj with rfl|rfl|e
  ·exact C.ownC
  ·exact C.ownR
  ·exact C.ownG j e.symm
theorem Jmv(wj base:Nat)(hA:LAt wj base pn w lb F fl ch):
  Calls prog 15 #[.pointer (some ⟨lb,0,none⟩)] w λe w'=>e=.returned (.int .i64 ((ch.length:Int)-1))/\Tch NoB w w':=by
 obtain⟨_,lg,cb,r,bs,lv,C⟩:=hA;have hl:=rows C.led;have hm:=C.most;refine(fTip hl _ (JbS C.row (by rw[C.len];omega))).mono λe w' k=>⟨?_,by rw[<-k.2];exact Te _ _⟩
 rw[k.1,C.len]
theorem Jcb(id:BA)(outs:List (Nat×Nat))(ho:∀o∈outs,Jy o)(h3:outs.length<=3):∃st,JX id 0 outs none=.ok st:=by
 have B0:Book id.size none []:=by
  refine⟨?_,?_,?_,?_⟩
  ·intro t ht;cases ht
  ·intro h hh;exact(QD hh).elim
  ·exact List.nodup_nil
  ·intro k o;simp[Jr]
 have:=Jaj id.size id rfl outs ho 0 (by omega) none [] 0 false B0;obtain⟨o',b',e⟩:=Ja3 id outs outs 0 rfl (by omega) 0 false;have e0:XD id outs 0=[]:=rfl;rw[e0]at e;rw[show (0:Nat) % M64=0 from rfl,e]at this;obtain⟨st',e1,_,_⟩:=this;exact⟨st',e1⟩
def HdIs(wj:Nat)(c:BA×Option Tr):Prop:=∃h:HdL,c.1=⟨(hdrB h).toArray⟩/\HdOk wj h/\h.2.2.2=JV (dgW wj) c.2
theorem Ji7(wj:Nat)(hw:wj<=32)(outs:List (Nat×Nat))(st:Option Tr):HdIs wj (⟨(hdrB (YY wj outs st)).toArray⟩,st):=by
 refine⟨YY wj outs st,rfl,?_,rfl⟩;unfold YY JdP;exact⟨by show (0:Nat)<_;decide,by show ByteArray.size _=_;rw[JA,List.length_replicate],Jz wj hw _,Yq (dgW wj) wj (Jz wj hw) _⟩
theorem Jjk(E:Nat->Addr)(base wj:Nat)(v:Value)(outs:List (Nat×Nat))(hw1:1<=wj)(hw:wj<=32)(hF:Xm E base w)(hbw:base<=w.heap.size)(hv:Jq w.heap.size w v outs)(h1:1<=outs.length)(h3:outs.length<=3)(ho:∀o∈outs,Jy o):
  Calls prog 37 #[.int .i64 (wj:Int),v] w λe w'=>Tch NoB w w'/\∃lb F h st,e=.returned (.tuple #[.pointer (some ⟨lb,0,none⟩),.int .i64 0])/\LAt wj base 0 w' lb F 0 [(h,st)]/\JX (dgW wj (71::XE outs)) 0 outs none=.ok st/\HdIs wj (h,st)/\h=⟨(hdrB (YY wj outs st)).toArray⟩/\∀j,F j->w.heap.size<=j:=by
 obtain⟨st,hst⟩:=Jcb (dgW wj (71::XE outs)) outs ho h3;have H:=JiP E wj hw1 hw v outs ho h1 h3 w hF.env hv base hbw st hst;obtain⟨ia,ic,hvs⟩:=hv.shape;subst hvs;have H2:=fNew (wj:Int) ia outs.length ic (λw' cb=>Tch NoB w w'/\∃r q lv,w.heap.size<=cb/\w.heap.size<=r/\JB w' cb wj 0 r [(⟨(hdrB (YY wj outs st)).toArray⟩,wj,q)] lv/\StAt (dgW wj) (λj=>w.heap.size<=j) w' q st/\StOk wj st/\Xp base w' lv (recB [71] (XR wj outs))/\∀k,lv.ownBlock=some k->w.heap.size<=k) (H.mono λe w' k=>by
  obtain⟨k0,cb,r,q,lv,k1,k2⟩:=k;exact⟨cb,k1,k0,r,q,lv,k2⟩)
 refine H2.mono λe w' k=>?_;obtain⟨w1,cb,⟨k0,r,q,lv,k1,k2,k3,k4,k5,k6,k7⟩,rfl,rfl⟩:=k;have tA:=Ta NoB w1 (.cells #[.pointer (some ⟨cb,0,none⟩)] 90);have hs:=k0.size;have hlow:∀j,j=w1.heap.size\/(w.heap.size<=j/\(j=cb\/j=r\/(∃c,w1.heap[j]? =some (.cells c 243))\/lv.ownBlock=some j))->base<=j/\(j=w1.heap.size\/j<w1.heap.size):=λj hj=>by
  rcases hj with rfl|⟨hj,rfl|rfl|⟨c,hc⟩|hc⟩
  ·exact⟨by omega,.inl rfl⟩
  ·exact⟨by omega,.inr (Jb k3.row)⟩
  ·exact⟨by omega,.inr (Jb k3.map)⟩
  ·exact⟨by omega,.inr (Jb hc)⟩
  ·exact⟨by omega,.inr (k6.bs.own j hc).2⟩
 refine⟨k0.go tA,w1.heap.size,λj=>j=w1.heap.size\/(w.heap.size<=j/\(j=cb\/j=r\/(∃c,w1.heap[j]? =some (.cells c 243))\/lv.ownBlock=some j)),⟨(hdrB (YY wj outs st)).toArray⟩,st,rfl,⟨⟨hw1,hw⟩,recB [71] (XR wj outs),cb,r,[(⟨(hdrB (YY wj outs st)).toArray⟩,wj,q)],lv,?_⟩,hst,Ji7 wj hw outs st,rfl,λj hj=>by
  rcases hj with rfl|hj
  ·omega
  ·exact hj.1⟩
 have hhl:(hdrB (YY wj outs st)).length<=1000:=by unfold hdrB YY;simp only[Qe,Jf,JT,Jz wj hw,Yq (dgW wj) wj (Jz wj hw)];unfold JdP;rw[JA,List.length_replicate];omega
 exact {
  led:=Qf _ _
  row:=k3.next tA
  log:=k6.next tA
  len:=rfl
  pos:=by simp
  most:=by simp
  short:=by
   have:∀l:List (Nat×Nat),(l.flatMap outB).length=l.length*9:=by
    intro l
    induction l with
    | nil=>rfl
    | cons x r ih=>rw[QG,Qe,ih];unfold outB;simp only[Qe,Jf,Qp];omega
   rw[JbI];unfold XR XE;rw[Qe,Qe,Jf,Jf,this];simp only[Qp,Qv];omega
  few:=by omega
  hdr:=λi b c h1 h2=>by
   cases i with
   | zero=>
    simp only[List.getElem?_cons_zero,Qh]at h1 h2;subst h1 h2;exact⟨rfl,by rw[JA];exact hhl⟩
   | succ i=>simp at h1
  st:=λi b c h1 h2 _=>by
   cases i with
   | zero=>
    simp only[List.getElem?_cons_zero,Qh]at h1 h2;subst h1 h2;exact⟨rfl,(k4.refine (λj hj hc=>.inr ⟨hj,.inr (.inr (.inl hc))⟩)).next tA,k5⟩
   | succ i=>simp at h1
  gone:=λi b _ h2=>absurd h2 (by omega)
  ownL:=.inl rfl
  ownC:=.inr ⟨k1,.inl rfl⟩
  ownR:=.inr ⟨k2,.inr (.inl rfl)⟩
  ownG:=λk hk=>.inr ⟨k7 k hk,.inr (.inr (.inr hk))⟩
  low:=λj hj=>by
   obtain⟨h1,h2⟩:=hlow j hj;exact⟨h1,by rw[World.size_alloc];omega⟩
  kind:=λj hj cur T m hr=>by
   rcases hj with rfl|⟨hj,hk⟩
   ·rw[Qf]at hr;simp at hr;exact .inl hr.2.1.symm
   ·have hold:j<w1.heap.size->w1.heap[j]? =some (.cells cur T m):=λhlt=>(tA.block j hlt (λe=>e)).symm.trans hr
    rcases hk with rfl|rfl|⟨c,hc⟩|hc
    ·have:=hold (Jb k3.row);rw[k3.row]at this;simp at this;exact .inr (.inl this.2.1.symm)
    ·have:=hold (Jb k3.map);rw[k3.map]at this;simp at this
    ·have:=hold (Jb hc);rw[hc]at this;simp at this;exact .inr (.inr (.inl this.2.1.symm))
    ·have:=hold (k6.bs.own j hc).2;obtain⟨cu,mm,hr2⟩:=k6.kind j hc;rw[hr2]at this;simp at this;exact .inr (.inr (.inr this.2.1.symm)) }
theorem Jla(E:Nat->Addr)(base wj:Nat)(v:Value)(outs:List (Nat×Nat))(hw1:1<=wj)(hw:wj<=32)(hF:Xm E base w)(hbw:base<=w.heap.size)(hv:Jq w.heap.size w v outs)(h1:1<=outs.length)(h3:outs.length<=3)(ho:∀o∈outs,Jy o):
  Calls prog 37 #[.int .i64 (wj:Int),v] w λe w'=>Tch NoB w w'/\∃lb F h st,e=.returned (.tuple #[.pointer (some ⟨lb,0,none⟩),.int .i64 0])/\LAt wj base 0 w' lb F 0 [(h,st)]/\JX (dgW wj (71::XE outs)) 0 outs none=.ok st/\HdIs wj (h,st):=
 (Jjk E base wj v outs hw1 hw hF hbw hv h1 h3 ho).mono λe w' k=>by
  obtain⟨k0,lb,F,h,st,k1,k2,k3,k4,_⟩:=k;exact⟨k0,lb,F,h,st,k1,k2,k3,k4⟩


theorem JgA:∀(n:Nat)(a b:List UInt8),a.length=n->b.length=n->numL a=numL b->a=b
 | 0,a,b,ha,hb,_=>by rw[QO ha,QO hb]
 | n+1,a,b,ha,hb,h=>by
  have hna:a ≠ []:=λe=>by rw[e]at ha;simp at ha
  have hnb:b ≠ []:=λe=>by rw[e]at hb;simp at hb
  have ea:=List.dropLast_concat_getLast hna;have eb:=List.dropLast_concat_getLast hnb;rw[<-ea,<-eb,JaR,JaR]at h;have h1:=UInt8.toNat_lt (a.getLast hna);have h2:=UInt8.toNat_lt (b.getLast hnb);have e1:numL a.dropLast=numL b.dropLast:=by omega
  have e2:(a.getLast hna).toNat=(b.getLast hnb).toNat:=by omega
  have i1:=JgA n a.dropLast b.dropLast (by simp[ha]) (by simp[hb]) e1;rw[<-ea,<-eb,i1,UInt8.toNat_inj.1 e2]
theorem JkC(l:List UInt8)(k:Nat)(h:l.length=k):beL (numL l) k k=l:=by
 refine JgA k _ _ (Jf _ _ _) h ?_;have hlt:=JcQ l;rw[h]at hlt;have h2:numL l<2 ^ (8*k):=by rw[Nat.pow_mul];exact hlt
 rw[Jab (numL l) k h2 k (Ql _),Nat.sub_self];simp
theorem Jja{z y:HdL}{q r q' r':List UInt8}(h:(PS.rd q r).hdr wj z=some (y,.rd q' r')):r=hdrB y++r':=by
 unfold PS.hdr at h;simp only[PS.num]at h
 split at h
 ·cases h
 ·rename_i n p1 h1
  split at h1
  ·rename_i k1;simp only[Qh,Qw]at h1;obtain⟨rfl,rfl⟩:=h1;simp only[PS.txt]at h
   split at h
   ·cases h
   ·rename_i t1 p2 h2
    split at h2
    ·rename_i k2;simp only[Qh,Qw]at h2;obtain⟨rfl,rfl⟩:=h2;dsimp only at h
     split at h
     ·cases h
     ·rename_i t2 p3 h3
      split at h3
      ·rename_i k3;simp only[Qh,Qw]at h3;obtain⟨rfl,rfl⟩:=h3;dsimp only at h
       split at h
       ·cases h
       ·rename_i t3 p4 h4
        split at h4
        ·rename_i k4;simp only[Qh,Qw]at h4;obtain⟨rfl,rfl⟩:=h4;simp only[Qh,Qw,PS.of.injEq,Sum.inl.injEq]at h;obtain⟨rfl,_,rfl⟩:=h;unfold hdrB;dsimp only;rw[JkC (r.take 4) 4 (by rw[QB];omega)];simp only[Qs,List.take_append_drop]
        ·cases h4
      ·cases h3
    ·cases h2
  ·cases h1
theorem Jg0(hw:wj<=32){ch':Ch}{s:List UInt8}(hc:∀c∈ch,HdIs wj c)(h:YQ (dgW wj) wj ch s=.ok ch'):∀c∈ch',HdIs wj c:=by
 unfold YQ at h
 split at h
 ·rename_i y pre body hh
  split at h
  ·rename_i ts q hb
   split at h
   ·cases h
   ·split at h
    ·cases h
    ·rename_i st ha
     split at h
     ·cases h
     ·rename_i hroot;simp only[Except.ok.injEq]at h;subst h;intro c hcm
      rcases QE.1 hcm with hcm|hcm
      ·exact hc c hcm
      ·simp only[Qt]at hcm;subst hcm;have hbytes:=Jja hh;obtain⟨b,r',_,_,_,hok⟩:=Jdn wj hw _ _ _ _ _ hh;refine⟨y,?_,hok,?_⟩
       ·dsimp only;rw[hbytes,Qe,Nat.add_sub_cancel,List.take_left]
       ·simpa using hroot
  ·cases h
 ·cases h
def QAt(wj base pn:Nat)(w:World)(lb:Nat)(F:Nat->Prop)(fl:Nat)(ch:Ch):Prop:=LAt wj base pn w lb F fl ch/\∀c∈ch,HdIs wj c
def JbR(E:Nat->Addr)(base pn wj:Nat):Led E wj base where
 At:=QAt wj base pn
 keep:=λh k hs=>⟨h.1.keep k hs,h.2⟩
 own:=λh j hj=>by obtain⟨⟨_,lg,cb,r,bs,lv,C⟩,_⟩:=h;exact C.low j hj
 kinds:=λh j hj cur T m hr=>by
  obtain⟨⟨_,lg,cb,r,bs,lv,C⟩,_⟩:=h
  rcases C.kind j hj cur T m hr with rfl|rfl|rfl|rfl<;>decide
 tip:=λh _=>Jmv wj base h.1
 header:=λh hA hF _ _=>Jhs E wj base h hA.1 hF
 seals:=λv ts hA hF hv hts h3 hc=>Jjl E wj base v ts hA.1 hF hv hts h3 hc
 submits:=λ{_ _ _ _ ch} s hA hF hs hc=>(Jgn E wj base s hA.1 hF (by omega) hc).mono λe w' k=>by
  obtain⟨k0,F',k1,k2⟩:=k;refine⟨k0,F',k1,?_⟩
  cases hr:YQ (dgW wj) wj ch s.data.toList with
  | ok ch'=>rw[hr]at k2;exact⟨k2.1,k2.2,Jg0 hA.1.1.2 hA.2 hr⟩
  | error er=>rw[hr]at k2;exact⟨k2.1,k2.2,hA.2⟩
def JmX(E:Nat->Addr)(base wj:Nat):Led E wj base:=JbR E base 0 wj
def Jj0(E:Nat->Addr)(base:Nat):Jh8 E base where
 led:=JmX E base
 make:=λwj {_} v outs hw1 hw hF hbw hv h1 h3 ho=>(Jla E base wj v outs hw1 hw hF hbw hv h1 h3 ho).mono λe w' k=>by
  obtain⟨k0,lb,F,h,st,k1,k2,k3,k4⟩:=k;refine⟨k0,lb,F,h,st,k1,⟨k2,λc hc=>?_⟩,k3⟩;simp only[Qt]at hc;rw[hc];exact k4

theorem Ji2(hl:w.cell? ⟨lb,0,none⟩=some (.pointer (some ⟨cb,0,none⟩)))(k:Int)(Q:World->Prop)(h:Calls prog 56 #[.pointer (some ⟨cb,0,none⟩),.int .i64 k] w λe w'=>e=.returned .nilIface/\Q w'):
  Calls prog 28 #[.pointer (some ⟨lb,0,none⟩),.int .i64 k] w λe w'=>e=.returned (.int .i64 0)/\Q w':=by
 have H:Hid (Calls _ _ _ _ _):=h;clear h;go_enter func28,ntmps28;go_wp2_with fail;refine H.out.mono ?_;rintro _ w1⟨rfl,hq⟩;have HQ:Hid (Q w1):=hq;clear hq H;go_wp2_with fail;refine(ZN _).mono ?_;rintro _ _⟨rfl,rfl⟩;go_wp2;go_ret;exact⟨rfl,HQ.o⟩
theorem Jhh(hS:∀w',Tch NoB w w'->Env E w'/\Sent E w')(er:Er)(hl:w.cell? ⟨lb,0,none⟩=some (.pointer (some ⟨cb,0,none⟩)))(k:Int)(h:Calls prog 56 #[.pointer (some ⟨cb,0,none⟩),.int .i64 k] w λe w'=>NoTo E (erG er) w e w'):
  Calls prog 28 #[.pointer (some ⟨lb,0,none⟩),.int .i64 k] w λe w'=>e=.returned (.int .i64 (XP er))/\Tch NoB w w':=by
 have H:Hid (Calls _ _ _ _ _):=h;have HS:Hid _:=hS;clear h hS;go_enter func28,ntmps28;go_wp2_with fail;refine H.out.mono ?_;rintro _ w1⟨ht,t,u,rfl,he⟩;have HT:Hid _:=ht;have HR:Hid (Calls _ _ _ _ _):=Jbu er (HS.o w1 ht).1 (HS.o w1 ht).2 t u he;clear ht H he;go_wp2_with fail;refine HR.o.mono ?_;rintro _ w2⟨rfl,ht2⟩;have HT2:Hid _:=ht2;clear ht2 HR;go_wp2;go_ret;exact⟨rfl,HT.o.go HT2.o⟩
theorem Ym.prune{bs':List BV}(h:Ym wj base pn w lb F fl ch lg cb r bs lv)(hp:pn<134217728){n:Nat}(hf:fl<=n)(hn:n<ch.length)(hx:ext.length<=100)
 (hP:Prn fl n bs bs') (hR:JB w' cb wj n r bs' lv') (hL:Xp base w' lv' (lg++ext)) (hT:Tch (λk=>k=cb\/k=r\/some k=lv.ownBlock) w w') (hM:Jm w lv.ownBlock lv'.ownBlock) (hbw:base<=w.heap.size):
  ∃F':Nat->Prop,(∀j,F' j->F j\/w.heap.size<=j)/\Ym wj base (pn+1) w' lb F' n ch (lg++ext) cb r bs' lv':=by
 have hnew:∀k,lv'.ownBlock=some k->F k\/w.heap.size<=k:=λk hk=>by
  rcases hM with e|⟨i,e,hi⟩
  ·exact .inl (h.ownG k (by rw[<-e];exact hk))
  ·rw[hk]at e;cases e;exact .inr hi
 have hlne:lb ≠ cb/\lb ≠ r/\¬some lb=lv.ownBlock:=by
  refine⟨λe=>?_,λe=>?_,λe=>?_⟩
  ·have:=h.led;rw[e,h.row.row]at this;simp at this
  ·have:=h.led;rw[e,h.row.map]at this;simp at this
  ·obtain⟨cu,mm,hr⟩:=h.log.kind lb e.symm;rw[h.led]at hr;simp at hr
 refine⟨λj=>(F j/\¬(some j=lv.ownBlock/\¬lv'.ownBlock=some j))\/(w.heap.size<=j/\lv'.ownBlock=some j),λj hj=>hj.imp (λe=>e.1) (λe=>e.1),?_⟩;have hFF:∀j,F j->¬some j=lv.ownBlock->(F j/\¬(some j=lv.ownBlock/\¬lv'.ownBlock=some j))\/(w.heap.size<=j/\lv'.ownBlock=some j):=λj hj hn=>.inl ⟨hj,λe=>hn e.1⟩;have hne:=h.log.ne_row h.row;have hold:∀(i:Nat) b,bs'[i]? =some b->∃b0,bs[i]? =some b0/\b.1=b0.1/\(n<=i->b=b0)/\(i<n->b.2=(0,none)):=λi b hb=>by
  have:=hP i;rw[hb]at this
  by_cases c:fl<=i/\i<n
  ·rw[if_pos c]at this;obtain⟨b0,e1,e2⟩:=Option.map_eq_some_iff.1 this.symm;exact⟨b0,e1,by rw[<-e2],λe=>by omega,λ_=>by rw[<-e2]⟩
  ·rw[if_neg c]at this;exact⟨b,this.symm,rfl,λ_=>rfl,λe=>h.gone i b this.symm (by omega)⟩
 exact {
  led:=(hT.block _ (Jb h.led) (λe=>by rcases e with e|e|e;exact hlne.1 e;exact hlne.2.1 e;exact hlne.2.2 e)).trans h.led
  row:=hR
  log:=hL
  len:=by rw[hP.length,h.len]
  pos:=hn
  most:=h.most
  short:=by rw[Qe];have:=h.short;omega
  few:=by omega
  hdr:=λi b c h1 h2=>by
   obtain⟨b0,e1,e2,_⟩:=hold i b h1;rw[e2];exact h.hdr i b0 c e1 h2
  st:=λi b c h1 h2 h3=>by
   obtain⟨b0,e1,_,e3,_⟩:=hold i b h1;rw[e3 h3];obtain⟨k1,k2,k3⟩:=h.st i b0 c e1 h2 (by omega);have k4:=k2.refine (G:=λj=>F j/\¬(j=cb\/j=r\/some j=lv.ownBlock)) (λj hj hc=>⟨hj,λe=>by
    obtain⟨cc,hc⟩:=hc
    rcases e with rfl|rfl|e
    ·rw[h.row.row]at hc;simp at hc
    ·rw[h.row.map]at hc;simp at hc
    ·obtain⟨cu,mm,hr⟩:=h.log.kind j e.symm;rw[hc]at hr;simp at hr⟩)
   exact⟨k1,(k4.tch hT (λj hj hG=>hG.2 hj)).mono (λj hj=>hFF j hj.1 (λe=>hj.2 (.inr (.inr e)))),k3⟩
  gone:=λi b h1 h2=>by
   obtain⟨b0,_,_,_,e4⟩:=hold i b h1;exact e4 h2
  ownL:=hFF _ h.ownL hlne.2.2
  ownC:=hFF _ h.ownC hne.1
  ownR:=hFF _ h.ownR hne.2
  ownG:=λk hk=>(hnew k hk).imp (λe=>⟨e,λe2=>e2.2 hk⟩) (λe=>⟨e,hk⟩)
  low:=λj hj=>by
   rcases hj with⟨hj,hjn⟩|⟨hj,hc⟩
   ·exact⟨(h.low j hj).1,Qk (h.low j hj).2 hT.size⟩
   ·exact⟨by omega,(hL.bs.own j hc).2⟩
  kind:=λj hj cur T m hr=>by
   rcases hj with⟨hj,hjn⟩|⟨hj,hc⟩
   ·by_cases e:j=cb\/j=r\/some j=lv.ownBlock
    ·rcases e with rfl|rfl|e
     ·rw[hR.row]at hr;simp at hr;exact .inr (.inl hr.2.1.symm)
     ·rw[hR.map]at hr;simp at hr
     ·by_cases e2:lv'.ownBlock=some j
      ·obtain⟨cu',mm',hr2⟩:=hL.kind j e2;rw[hr]at hr2;simp at hr2;exact .inr (.inr (.inr hr2.2.1))
      ·exact absurd ⟨e,e2⟩ hjn
    ·exact h.kind j hj cur T m ((hT.block j (h.low j hj).2 e).symm.trans hr)
   ·obtain⟨cu',mm',hr2⟩:=hL.kind j hc;rw[hr]at hr2;simp at hr2;exact .inr (.inr (.inr hr2.2.1)) }
structure JfH{E:Nat->Addr}{wj base:Nat}(L L':Led E wj base):Prop where
 pin:∀{w:World} {lb:Nat} {F:Nat->Prop} {fl:Nat} {ch:Ch} (n:Nat),L.At w lb F fl ch->Xm E base w->fl<=n->n<ch.length->
  Calls prog 28 #[.pointer (some ⟨lb,0,none⟩),.int .i64 (n:Int)] w λe w'=>e=.returned (.int .i64 0)/\Tch F w w'/\∃F':Nat->Prop,(∀j,F' j->F j\/w.heap.size<=j)/\L'.At w' lb F' n ch
 pout:∀{w:World} {lb:Nat} {F:Nat->Prop} {fl:Nat} {ch:Ch} (h:Int),L.At w lb F fl ch->Xm E base w->¬((fl:Int)<=h/\h<(ch.length:Int))->
  Calls prog 28 #[.pointer (some ⟨lb,0,none⟩),.int .i64 h] w λe w'=>e=.returned (.int .i64 7)/\Tch NoB w w'
theorem Jh0(E:Nat->Addr)(base pn wj:Nat)(hp:pn<134217728):JfH (JbR E base pn wj) (JbR E base (pn+1) wj) where
 pin:=λ{w lb F fl ch} n hA hF hf hn=>by
  obtain⟨⟨hw,lg,cb,r,bs,lv,C⟩,hH⟩:=hA;have hl:w.cell? ⟨lb,0,none⟩=some (.pointer (some ⟨cb,0,none⟩)):=Ja C.led;have hbw:base<=w.heap.size:=by have:=C.low lb C.ownL;omega
  have hsh:=C.short;have hfw:=C.few;have hm:=C.most;refine(Ji2 hl n _ (Jha E hF.env C.row base hbw lg C.log (by omega) n hf (by rw[C.len];exact hn) (by rw[C.len];omega))).mono λe w' k=>?_;obtain⟨k0,lv',bs',k1,k2,k3,k4,k5⟩:=k;obtain⟨F',hF',C'⟩:=C.prune hp hf hn (by rw[JbI,Jf];simp) k1 k2 k3 k4 k5 hbw;refine⟨k0,k4.mono (λj hj=>.inl ?_),F',hF',⟨hw,_,cb,r,_,lv',C'⟩,hH⟩
  rcases hj with rfl|rfl|e
  ·exact C.ownC
  ·exact C.ownR
  ·exact C.ownG j e.symm
 pout:=λ{w lb F fl ch} h hA hF hh=>by
  obtain⟨⟨_,lg,cb,r,bs,lv,C⟩,_⟩:=hA;have hl:w.cell? ⟨lb,0,none⟩=some (.pointer (some ⟨cb,0,none⟩)):=Ja C.led;exact Jhh (λw' k=>hF.next k) .range hl h (JfV E hF.env C.row h (by rw[C.len];exact hh))

def psE:Nat->List Nat->List MapEntry
 | _,[]=>[]
 | i,q::r=>⟨.pointer (some ⟨q,0,none⟩),.agg #[],i⟩ :: psE (i+1) r
theorem JhC(qs:List Nat)(q:Nat):∀i,psE i (qs++[q])=psE i qs++[⟨.pointer (some ⟨q,0,none⟩),.agg #[],i+qs.length⟩]:=by
 induction qs with
 | nil=>intro i;simp[psE]
 | cons x r ih=>
  intro i;rw[List.cons_append,psE,ih (i+1),psE,List.cons_append,Qp];have e:i+1+r.length=i+(r.length+1):=by omega
  rw[e]
theorem u_ps:prog.underlying 405=some (.map 144 288):=underlying405
theorem u_np:prog.underlying 144=some (.pointer 243):=underlying144
def IsN(w:World)(q:Nat):Prop:=∃c,w.heap[q]? =some (.cells c 243)
theorem Jod{a b:Nat}(hne:a ≠ b)(ha:IsN w a)(hb:IsN w b):(Op.equal 144 (.pointer (some ⟨a,0,none⟩)) (.pointer (some ⟨b,0,none⟩))).run prog w=.ok false w:=by
 obtain⟨ca,ha⟩:=ha;obtain⟨cb,hb⟩:=hb;have:=run_sameAddr_other (P:=prog) w (a:=⟨a,0,none⟩) (b:=⟨b,0,none⟩) (λe=>hne (by cases e;rfl)) ha hb;unfold Op.equal;rw[show Op.maxDepth=9999+1 from rfl,Op.equalIn];simp only[Sem.run_bind,run_underlying u_np,Result.andThen_ok];go_simp
theorem Jlq(hq:IsN w q):∀(qs:List Nat),(∀x∈qs,IsN w x)->q ∉ qs->∀i j,(Instr.findAsking 144 (.pointer (some ⟨q,0,none⟩)) (psE i qs) j).run prog w=.ok none w
 | [],_,_,i,j=>rfl
 | x::r,hx,hn,i,j=>by
  rw[psE,Instr.findAsking];simp only[Sem.run_bind,Jod (λe=>hn (by rw[e];exact QM)) hq (hx x QM),Result.andThen_ok];exact Jlq hq r (λy hy=>hx y (QP _ hy)) (λe=>hn (QP _ e)) (i+1) (j+1)
theorem Jit(hq:IsN w q)(qs:List Nat)(hx:∀x∈qs,IsN w x)(hn:q ∉ qs):(Instr.findKey 144 (.pointer (some ⟨q,0,none⟩)) (psE 0 qs)).run prog w=.ok none w:=by
 unfold Instr.findKey;simp only[Sem.run_bind,run_underlying u_np,Result.andThen_ok]
 cases qs with
 | nil=>rfl
 | cons x r=>
  rw[show Instr.findNow (.pointer 243) (.pointer (some ⟨q,0,none⟩)) (psE 0 (x::r)) 0=none from rfl];exact Jlq hq _ hx hn 0 0
theorem JgI(q:Nat)(em:Bool)(w:World):(Instr.checkKey em 10000 144 (.pointer (some ⟨q,0,none⟩))).run prog w=.ok () w:=by
 rw[show (10000:Nat)=9999+1 from rfl,Instr.checkKey];simp only[Sem.run_bind,run_underlying u_np,Result.andThen_ok];rfl
def _root_.Go.World.setPs(w:World)(p:Nat)(qs:List Nat):World:={ w with heap:=w.heap.setIfInBounds p (.map (psE 0 qs).toArray qs.length) }
theorem Jiu(h:w.heap[p]? =some (.map (psE 0 qs).toArray qs.length))(hq:IsN w q)(hx:∀x∈qs,IsN w x)(hn:q ∉ qs):
  (Instr.lookup 405 (.map (some p)) (.pointer (some ⟨q,0,none⟩)) true).run prog w=.ok (.tuple #[.agg #[],.bool false]) w:=by
 simp[Instr.lookup,run_underlying u_ps,Go.MapKept.run_getObj_map h,JgI,Jit hq qs hx hn,Result.andThen]
theorem Jiv(h:w.heap[p]? =some (.map (psE 0 qs).toArray qs.length))(hq:IsN w q)(hx:∀x∈qs,IsN w x)(hn:q ∉ qs):
  (Instr.mapUpdate 405 (.map (some p)) (.pointer (some ⟨q,0,none⟩)) (.agg #[])).run prog w=.ok () (w.setPs p (qs++[q])):=by
 simp[Instr.mapUpdate,run_underlying u_ps,Go.MapKept.run_getObj_map h,JgI,Jit hq qs hx hn,Go.MapKept.run_setObj_map _ h,Result.andThen,World.setPs,JhC]
theorem JdA{o:Obj}(h:w.heap[p]? =some o)(qs:List Nat):(w.setPs p qs).heap[p]? =some (.map (psE 0 qs).toArray qs.length):=(Go.MapKept.heap_set h).1
theorem Tch.setPs(w:World)(p:Nat)(qs:List Nat):Tch (λk=>k=p) w (w.setPs p qs):=⟨rfl,rfl,rfl,by simp[World.setPs],λk _ hn=>by simp[World.setPs,Ne.symm hn]⟩
structure YR(n:Jj):Prop where
 a:n.1.size<=1000
 b:n.2.1.size<=1000
 c:n.2.2.1.1<18446744073709551616
 d:n.2.2.1.2<256
 e:0<=n.2.2.2.1/\n.2.2.2.1<1000000
 f:n.2.2.2.2.1.size<=1000
 g:n.2.2.2.2.2.size<=1000
theorem JnN:Go.WideMaps.KeyLaw prog 281:=Go.deep_law (m:=6) (by decide) (by kernel_rfl) (by kernel_rfl) (by kernel_rfl)
theorem Jfl(n:Jj)(h:YR n):∃l,keyOf prog 281 (.agg (Jo n))=some l:=by
 obtain⟨n1,n2,⟨n3,n4⟩,n5,n6,n7⟩:=n;obtain⟨ha,hb,hc,hd,he,hf,hg⟩:=h;dsimp only at ha hb hc hd he hf hg;have m:∀s:BA,s.size<=1000->s.size<=maxLen:=λs h=>by simp only[maxLen];omega
 have w3:(Lit.int .u64 (n3:Int)).wf=true:=by simp[Lit.wf,IntKind.min,IntKind.max,IntKind.signed,IntKind.bits];omega
 have w4:(Lit.int .u8 (n4:Int)).wf=true:=by simp[Lit.wf,IntKind.min,IntKind.max,IntKind.signed,IntKind.bits];omega
 have w5:(Lit.int .i64 n5).wf=true:=by simp[Lit.wf,IntKind.min,IntKind.max,IntKind.signed,IntKind.bits];omega
 have c1:prog.cellsOf 9=1:=by kernel_rfl
 have c2:prog.cellsOf 78=1:=by kernel_rfl
 have c3:prog.cellsOf 5=1:=by kernel_rfl
 have c4:prog.cellsOf 3=1:=by kernel_rfl
 have c5:prog.cellsOf 80=2:=by kernel_rfl
 have c6:prog.cellsOf 256=3:=by kernel_rfl
 have c7:prog.cellsOf 277=2:=by kernel_rfl
 have c8:prog.cellsOf 279=3:=by kernel_rfl
 have c9:prog.cellsOf 281=7:=by kernel_rfl
 have k9:∀d,prog.keyLits (d+4) 281 [.string n1,.string n2,.int .u64 (n3:Int),.int .u8 (n4:Int),.int .i64 n5,.string n6,.string n7]=some [.string n1.data.toList,.string n2.data.toList,.int .u64 (n3:Int),.int .u8 (n4:Int),.int .i64 n5,.string n6.data.toList,.string n7.data.toList]:=λd=>by
  simp[-Array.all_eq_true,Program.keyLits,underlying281,underlying256,underlying279,underlying80,underlying277,underlying9,underlying78,underlying5,underlying3,c1,c2,c3,c4,c5,c6,c7,c8,c9,m _ ha,m _ hb,m _ hf,m _ hg,w3,w4,w5,List.range_succ]
 unfold keyOf;have hfo:(prog.keyType 281 && Value.formed prog 281 (.agg (Jo (n1,n2,(n3,n4),n5,n6,n7))))=true:=by kernel_rfl
 rw[underlying281];simp only;rw[if_pos hfo];have hts:prog.types.size+1=(prog.types.size-3)+4:=by kernel_rfl
 rw[hts];rw[show (Value.agg (Jo (n1,n2,(n3,n4),n5,n6,n7))).cells.toList=[.string n1,.string n2,.int .u64 (n3:Int),.int .u8 (n4:Int),.int .i64 n5,.string n6,.string n7] from rfl,k9];exact⟨_,rfl⟩
theorem Jeu{n n':Jj}(h:Jo n=Jo n'):n=n':=by
 obtain⟨n1,n2,⟨n3,n4⟩,n5,n6,n7⟩:=n;obtain⟨m1,m2,⟨m3,m4⟩,m5,m6,m7⟩:=n';simp only[Jo,Array.mk.injEq,QH,Value.string.injEq,Value.int.injEq,true_and,and_true]at h;obtain⟨rfl,rfl,h3,h4,rfl,rfl,rfl⟩:=h;have:n3=m3:=by omega
 have:n4=m4:=by omega
 subst_vars
 rfl
def Jli(q:Jj)(qs:List Jj):Decidable (q∈qs):=decidable_of_iff (∃x∈qs,x=q) (by simp)
