import Derived.Test.YtighkdnooglfjaaGreatDoorTcVfF
import Derived.Test.YtighkdnooglfjaaGreatDoorTcKPays
import Derived.Sort.CutIn
namespace Go.Proofs.YtighkdnooglfjaaGreatDoor
open Tryz
set_option maxRecDepth 100000
open Go.RowKit

theorem JhU {w:World} {lb cb:Nat} (hl:w.cell? ⟨lb,0,none⟩=some (.pointer (some ⟨cb,0,none⟩))) (k:Int) (Q:World->Prop) (h:Calls prog 56 #[.pointer (some ⟨cb,0,none⟩),.int .i64 k] w λe w'=>e=.returned .nilIface/\Q w'):
  Calls prog 28 #[.pointer (some ⟨lb,0,none⟩),.int .i64 k] w λe w'=>e=.returned (.int .i64 0)/\Q w':=by
 have H:Hid (Calls _ _ _ _ _):=h
 clear h
 go_enter func28,ntmps28
 go_wp2_with fail
 refine H.out.mono ?_
 rintro _ w1 ⟨rfl,hq⟩
 have HQ:Hid (Q w1):=hq
 clear hq H
 go_wp2_with fail
 refine (ZC _).mono ?_
 rintro _ _ ⟨rfl,rfl⟩
 go_wp2
 go_ret
 exact ⟨rfl,HQ.o⟩
theorem Jf9 {E:Nat->Addr} {w:World} {lb cb:Nat} (hS:∀w',Tch NoB w w'->Env E w'/\Sent E w') (er:Er) (hl:w.cell? ⟨lb,0,none⟩=some (.pointer (some ⟨cb,0,none⟩))) (k:Int) (h:Calls prog 56 #[.pointer (some ⟨cb,0,none⟩),.int .i64 k] w λe w'=>NoTo E (erG er) w e w'):
  Calls prog 28 #[.pointer (some ⟨lb,0,none⟩),.int .i64 k] w λe w'=>e=.returned (.int .i64 (Xu er))/\Tch NoB w w':=by
 have H:Hid (Calls _ _ _ _ _):=h
 have HS:Hid _:=hS
 clear h hS
 go_enter func28,ntmps28
 go_wp2_with fail
 refine H.out.mono ?_
 rintro _ w1 ⟨ht,t,u,rfl,he⟩
 have HT:Hid _:=ht
 have HR:Hid (Calls _ _ _ _ _):=ZB er (HS.o w1 ht).1 (HS.o w1 ht).2 t u he
 clear ht H he
 go_wp2_with fail
 refine HR.o.mono ?_
 rintro _ w2 ⟨rfl,ht2⟩
 have HT2:Hid _:=ht2
 clear ht2 HR
 go_wp2
 go_ret
 exact ⟨rfl,HT.o.go HT2.o⟩
theorem Yc.prune {wd base pn:Nat} {w w':World} {lb:Nat} {F:Nat->Prop} {fl:Nat} {ch:Ch} {lg:List UInt8} {cb r:Nat} {bs bs':List BV} {lv lv':Value} (h:Yc wd base pn w lb F fl ch lg cb r bs lv) (hp:pn<134217728) {n:Nat} (hf:fl<=n) (hn:n<ch.length) {ext:List UInt8} (hx:ext.length<=100)
  (hP:Prn fl n bs bs') (hR:Js w' cb wd n r bs' lv') (hL:Xh base w' lv' (lg++ext)) (hT:Tch (λk=>k=cb\/k=r\/some k=lv.ownBlock) w w') (hM:Jm w lv.ownBlock lv'.ownBlock) (hbw:base<=w.heap.size):
  ∃F':Nat->Prop,(∀j,F' j->F j\/w.heap.size<=j)/\Yc wd base (pn+1) w' lb F' n ch (lg++ext) cb r bs' lv':=by
 have hnew:∀k,lv'.ownBlock=some k->F k\/w.heap.size<=k:=λk hk=>by
  rcases hM with e | ⟨i,e,hi⟩
  ·exact .inl (h.ownG k (by rw [<-e];exact hk))
  ·rw [hk] at e;cases e;exact .inr hi
 have hlne:lb ≠ cb/\lb ≠ r/\¬some lb=lv.ownBlock:=by
  refine ⟨λe=>?_,λe=>?_,λe=>?_⟩
  ·have:=h.led;rw [e,h.row.row] at this;simp at this
  ·have:=h.led;rw [e,h.row.map] at this;simp at this
  ·obtain ⟨cu,mm,hr⟩:=h.log.kind lb e.symm;rw [h.led] at hr;simp at hr
 refine ⟨λj=>(F j/\¬(some j=lv.ownBlock/\¬lv'.ownBlock=some j))\/(w.heap.size<=j/\lv'.ownBlock=some j),λj hj=>hj.imp (λe=>e.1) (λe=>e.1),?_⟩
 have hFF:∀j,F j->¬some j=lv.ownBlock->(F j/\¬(some j=lv.ownBlock/\¬lv'.ownBlock=some j))\/(w.heap.size<=j/\lv'.ownBlock=some j):=λj hj hn=>.inl ⟨hj,λe=>hn e.1⟩
 have hne:=h.log.ne_row h.row
 have hold:∀(i:Nat) b,bs'[i]? =some b->∃b0,bs[i]? =some b0/\b.1=b0.1/\(n<=i->b=b0)/\(i<n->b.2=(0,none)):=λi b hb=>by
  have:=hP i
  rw [hb] at this
  by_cases c:fl<=i/\i<n
  ·rw [if_pos c] at this
   obtain ⟨b0,e1,e2⟩:=Option.map_eq_some_iff.1 this.symm
   exact ⟨b0,e1,by rw [<-e2],λe=>by omega,λ_=>by rw [<-e2]⟩
  ·rw [if_neg c] at this
   exact ⟨b,this.symm,rfl,λ_=>rfl,λe=>h.gone i b this.symm (by omega)⟩
 exact {
  led:=(hT.block _ (Jb h.led) (λe=>by rcases e with e | e | e;exact hlne.1 e;exact hlne.2.1 e;exact hlne.2.2 e)).trans h.led
  row:=hR
  log:=hL
  len:=by rw [hP.length,h.len]
  pos:=hn
  most:=h.most
  short:=by rw [Qe];have:=h.short;omega
  few:=by omega
  hdr:=λi b c h1 h2=>by
   obtain ⟨b0,e1,e2,_⟩:=hold i b h1
   rw [e2]
   exact h.hdr i b0 c e1 h2
  st:=λi b c h1 h2 h3=>by
   obtain ⟨b0,e1,_,e3,_⟩:=hold i b h1
   rw [e3 h3]
   obtain ⟨k1,k2,k3⟩:=h.st i b0 c e1 h2 (by omega)
   have k4:=k2.refine (G:=λj=>F j/\¬(j=cb\/j=r\/some j=lv.ownBlock)) (λj hj hc=>⟨hj,λe=>by
    obtain ⟨cc,hc⟩:=hc
    rcases e with rfl | rfl | e
    ·rw [h.row.row] at hc;simp at hc
    ·rw [h.row.map] at hc;simp at hc
    ·obtain ⟨cu,mm,hr⟩:=h.log.kind j e.symm;rw [hc] at hr;simp at hr⟩)
   exact ⟨k1,(k4.tch hT (λj hj hG=>hG.2 hj)).mono (λj hj=>hFF j hj.1 (λe=>hj.2 (.inr (.inr e)))),k3⟩
  gone:=λi b h1 h2=>by
   obtain ⟨b0,_,_,_,e4⟩:=hold i b h1
   exact e4 h2
  ownL:=hFF _ h.ownL hlne.2.2
  ownC:=hFF _ h.ownC hne.1
  ownR:=hFF _ h.ownR hne.2
  ownG:=λk hk=>(hnew k hk).imp (λe=>⟨e,λe2=>e2.2 hk⟩) (λe=>⟨e,hk⟩)
  low:=λj hj=>by
   rcases hj with ⟨hj,hjn⟩ | ⟨hj,hc⟩
   ·exact ⟨(h.low j hj).1,Qk (h.low j hj).2 hT.size⟩
   ·exact ⟨by omega,(hL.bs.own j hc).2⟩
  kind:=λj hj cur T m hr=>by
   rcases hj with ⟨hj,hjn⟩ | ⟨hj,hc⟩
   ·by_cases e:j=cb\/j=r\/some j=lv.ownBlock
    ·rcases e with rfl | rfl | e
     ·rw [hR.row] at hr;simp at hr;exact .inr (.inl hr.2.1.symm)
     ·rw [hR.map] at hr;simp at hr
     ·by_cases e2:lv'.ownBlock=some j
      ·obtain ⟨cu',mm',hr2⟩:=hL.kind j e2;rw [hr] at hr2;simp at hr2;exact .inr (.inr (.inr hr2.2.1))
      ·exact absurd ⟨e,e2⟩ hjn
    ·exact h.kind j hj cur T m ((hT.block j (h.low j hj).2 e).symm.trans hr)
   ·obtain ⟨cu',mm',hr2⟩:=hL.kind j hc;rw [hr] at hr2;simp at hr2;exact .inr (.inr (.inr hr2.2.1)) }
structure JbN {E:Nat->Addr} {wd base:Nat} (L L':Led E wd base):Prop where
 pin:∀{w:World} {lb:Nat} {F:Nat->Prop} {fl:Nat} {ch:Ch} (n:Nat),L.At w lb F fl ch->JV E base w->fl<=n->n<ch.length->
  Calls prog 28 #[.pointer (some ⟨lb,0,none⟩),.int .i64 (n:Int)] w λe w'=>e=.returned (.int .i64 0)/\Tch F w w'/\∃F':Nat->Prop,(∀j,F' j->F j\/w.heap.size<=j)/\L'.At w' lb F' n ch
 pout:∀{w:World} {lb:Nat} {F:Nat->Prop} {fl:Nat} {ch:Ch} (h:Int),L.At w lb F fl ch->JV E base w->¬((fl:Int)<=h/\h<(ch.length:Int))->
  Calls prog 28 #[.pointer (some ⟨lb,0,none⟩),.int .i64 h] w λe w'=>e=.returned (.int .i64 7)/\Tch NoB w w'
theorem JgX (E:Nat->Addr) (base pn wd:Nat) (hp:pn<134217728):JbN (JaI E base pn wd) (JaI E base (pn+1) wd) where
 pin:=λ{w lb F fl ch} n hA hF hf hn=>by
  obtain ⟨⟨hw,lg,cb,r,bs,lv,C⟩,hH⟩:=hA
  have hl:w.cell? ⟨lb,0,none⟩=some (.pointer (some ⟨cb,0,none⟩)):=Ja C.led
  have hbw:base<=w.heap.size:=by have:=C.low lb C.ownL;omega
  have hsh:=C.short
  have hfw:=C.few
  have hm:=C.most
  refine (JhU hl n _ (Jf5 E hF.env C.row base hbw lg C.log (by omega) n hf (by rw [C.len];exact hn) (by rw [C.len];omega))).mono λe w' k=>?_
  obtain ⟨k0,lv',bs',k1,k2,k3,k4,k5⟩:=k
  obtain ⟨F',hF',C'⟩:=C.prune hp hf hn (by rw [Jbl,Je];simp) k1 k2 k3 k4 k5 hbw
  refine ⟨k0,k4.mono (λj hj=>.inl ?_),F',hF',⟨hw,_,cb,r,_,lv',C'⟩,hH⟩
  rcases hj with rfl | rfl | e
  ·exact C.ownC
  ·exact C.ownR
  ·exact C.ownG j e.symm
 pout:=λ{w lb F fl ch} h hA hF hh=>by
  obtain ⟨⟨_,lg,cb,r,bs,lv,C⟩,_⟩:=hA
  have hl:w.cell? ⟨lb,0,none⟩=some (.pointer (some ⟨cb,0,none⟩)):=Ja C.led
  exact Jf9 (λw' k=>hF.next k) .range hl h (JeZ E hF.env C.row h (by rw [C.len];exact hh))

def psE:Nat->List Nat->List MapEntry
 | _,[]=>[]
 | i,q :: r=>⟨.pointer (some ⟨q,0,none⟩),.agg #[],i⟩ :: psE (i+1) r
theorem Jgx (qs:List Nat) (q:Nat):∀i,psE i (qs++[q])=psE i qs++[⟨.pointer (some ⟨q,0,none⟩),.agg #[],i+qs.length⟩]:=by
 induction qs with
 | nil=>intro i;simp [psE]
 | cons x r ih=>
  intro i
  rw [List.cons_append,psE,ih (i+1),psE,List.cons_append,Qp]
  have e:i+1+r.length=i+(r.length+1):=by omega
  rw [e]
theorem u_ps:prog.underlying 405=some (.map 144 288):=underlying405
theorem u_np:prog.underlying 144=some (.pointer 243):=underlying144
def IsN (w:World) (q:Nat):Prop:=∃c,w.heap[q]? =some (.cells c 243)
theorem Jm4 {a b:Nat} {w:World} (hne:a ≠ b) (ha:IsN w a) (hb:IsN w b):(Op.equal 144 (.pointer (some ⟨a,0,none⟩)) (.pointer (some ⟨b,0,none⟩))).run prog w=.ok false w:=by
 obtain ⟨ca,ha⟩:=ha
 obtain ⟨cb,hb⟩:=hb
 have:=run_sameAddr_other (P:=prog) w (a:=⟨a,0,none⟩) (b:=⟨b,0,none⟩) (λe=>hne (by cases e;rfl)) ha hb
 unfold Op.equal
 rw [show Op.maxDepth=9999+1 from rfl,Op.equalIn]
 simp only [Sem.run_bind,run_underlying u_np,Result.andThen_ok]
 go_simp
theorem Jkf {w:World} {q:Nat} (hq:IsN w q):∀(qs:List Nat),(∀x∈qs,IsN w x)->q ∉ qs->∀i j,(Instr.findAsking 144 (.pointer (some ⟨q,0,none⟩)) (psE i qs) j).run prog w=.ok none w
 | [],_,_,i,j=>rfl
 | x :: r,hx,hn,i,j=>by
  rw [psE,Instr.findAsking]
  simp only [Sem.run_bind,Jm4 (λe=>hn (by rw [e];exact QM)) hq (hx x QM),Result.andThen_ok]
  exact Jkf hq r (λy hy=>hx y (QP _ hy)) (λe=>hn (QP _ e)) (i+1) (j+1)
theorem Jho {w:World} {q:Nat} (hq:IsN w q) (qs:List Nat) (hx:∀x∈qs,IsN w x) (hn:q ∉ qs):(Instr.findKey 144 (.pointer (some ⟨q,0,none⟩)) (psE 0 qs)).run prog w=.ok none w:=by
 unfold Instr.findKey
 simp only [Sem.run_bind,run_underlying u_np,Result.andThen_ok]
 cases qs with
 | nil=>rfl
 | cons x r=>
  rw [show Instr.findNow (.pointer 243) (.pointer (some ⟨q,0,none⟩)) (psE 0 (x :: r)) 0=none from rfl]
  exact Jkf hq _ hx hn 0 0
theorem Jfx (q:Nat) (em:Bool) (w:World):(Instr.checkKey em 10000 144 (.pointer (some ⟨q,0,none⟩))).run prog w=.ok () w:=by
 rw [show (10000:Nat)=9999+1 from rfl,Instr.checkKey]
 simp only [Sem.run_bind,run_underlying u_np,Result.andThen_ok]
 rfl
def _root_.Go.World.setPs (w:World) (p:Nat) (qs:List Nat):World:={ w with heap:=w.heap.setIfInBounds p (.map (psE 0 qs).toArray qs.length) }
theorem Jhp {w:World} {p q:Nat} {qs:List Nat} (h:w.heap[p]? =some (.map (psE 0 qs).toArray qs.length)) (hq:IsN w q) (hx:∀x∈qs,IsN w x) (hn:q ∉ qs):
  (Instr.lookup 405 (.map (some p)) (.pointer (some ⟨q,0,none⟩)) true).run prog w=.ok (.tuple #[.agg #[],.bool false]) w:=by
 simp [Instr.lookup,run_underlying u_ps,Go.MapKept.run_getObj_map h,Jfx,Jho hq qs hx hn,Result.andThen]
theorem Jhq {w:World} {p q:Nat} {qs:List Nat} (h:w.heap[p]? =some (.map (psE 0 qs).toArray qs.length)) (hq:IsN w q) (hx:∀x∈qs,IsN w x) (hn:q ∉ qs):
  (Instr.mapUpdate 405 (.map (some p)) (.pointer (some ⟨q,0,none⟩)) (.agg #[])).run prog w=.ok () (w.setPs p (qs++[q])):=by
 simp [Instr.mapUpdate,run_underlying u_ps,Go.MapKept.run_getObj_map h,Jfx,Jho hq qs hx hn,Go.MapKept.run_setObj_map _ h,Result.andThen,World.setPs,Jgx]
theorem JcU {w:World} {p:Nat} {o:Obj} (h:w.heap[p]? =some o) (qs:List Nat):(w.setPs p qs).heap[p]? =some (.map (psE 0 qs).toArray qs.length):=(Go.MapKept.heap_set h).1
theorem Tch.setPs (w:World) (p:Nat) (qs:List Nat):Tch (λk=>k=p) w (w.setPs p qs):=⟨rfl,rfl,rfl,by simp [World.setPs],λk _ hn=>by simp [World.setPs,Ne.symm hn]⟩
structure Jah (n:JD):Prop where
 a:n.1.size<=1000
 b:n.2.1.size<=1000
 c:n.2.2.1.1<18446744073709551616
 d:n.2.2.1.2<256
 e:0<=n.2.2.2.1/\n.2.2.2.1<1000000
 f:n.2.2.2.2.1.size<=1000
 g:n.2.2.2.2.2.size<=1000
theorem Jep:Go.WideMaps.KeyLaw prog 281:=Go.deep_law (m:=6) (by decide) (by kernel_rfl) (by kernel_rfl) (by kernel_rfl)
theorem Jj6 (n:JD) (h:Jah n):∃l,keyOf prog 281 (.agg (Xd n))=some l:=by
 obtain ⟨n1,n2,⟨n3,n4⟩,n5,n6,n7⟩:=n
 obtain ⟨ha,hb,hc,hd,he,hf,hg⟩:=h
 dsimp only at ha hb hc hd he hf hg
 have m:∀s:BA,s.size<=1000->s.size<=maxLen:=λs h=>by simp only [maxLen];omega
 have w3:(Lit.int .u64 (n3:Int)).wf=true:=by simp [Lit.wf,IntKind.min,IntKind.max,IntKind.signed,IntKind.bits];omega
 have w4:(Lit.int .u8 (n4:Int)).wf=true:=by simp [Lit.wf,IntKind.min,IntKind.max,IntKind.signed,IntKind.bits];omega
 have w5:(Lit.int .i64 n5).wf=true:=by simp [Lit.wf,IntKind.min,IntKind.max,IntKind.signed,IntKind.bits];omega
 have c1:prog.cellsOf 9=1:=by kernel_rfl
 have c2:prog.cellsOf 78=1:=by kernel_rfl
 have c3:prog.cellsOf 5=1:=by kernel_rfl
 have c4:prog.cellsOf 3=1:=by kernel_rfl
 have c5:prog.cellsOf 80=2:=by kernel_rfl
 have c6:prog.cellsOf 256=3:=by kernel_rfl
 have c7:prog.cellsOf 277=2:=by kernel_rfl
 have c8:prog.cellsOf 279=3:=by kernel_rfl
 have c9:prog.cellsOf 281=7:=by kernel_rfl
 have k9:∀d,prog.keyLits (d+4) 281 [.string n1,.string n2,.int .u64 (n3:Int),.int .u8 (n4:Int),.int .i64 n5,.string n6,.string n7]=some [.string n1.data.toList,.string n2.data.toList,.int .u64 (n3:Int),.int .u8 (n4:Int),.int .i64 n5,.string n6.data.toList,.string n7.data.toList]:=λd=>by
  simp [-Array.all_eq_true,Program.keyLits,underlying281,underlying256,underlying279,underlying80,underlying277,underlying9,underlying78,underlying5,underlying3,c1,c2,c3,c4,c5,c6,c7,c8,c9,m _ ha,m _ hb,m _ hf,m _ hg,w3,w4,w5,List.range_succ]
 unfold keyOf
 have hfo:(prog.keyType 281 && Value.formed prog 281 (.agg (Xd (n1,n2,(n3,n4),n5,n6,n7))))=true:=by kernel_rfl
 rw [underlying281]
 simp only
 rw [if_pos hfo]
 have hts:prog.types.size+1=(prog.types.size - 3)+4:=by kernel_rfl
 rw [hts]
 rw [show (Value.agg (Xd (n1,n2,(n3,n4),n5,n6,n7))).cells.toList=[.string n1,.string n2,.int .u64 (n3:Int),.int .u8 (n4:Int),.int .i64 n5,.string n6,.string n7] from rfl,k9]
 exact ⟨_,rfl⟩
theorem Jij {n n':JD} (h:Xd n=Xd n'):n=n':=by
 obtain ⟨n1,n2,⟨n3,n4⟩,n5,n6,n7⟩:=n
 obtain ⟨m1,m2,⟨m3,m4⟩,m5,m6,m7⟩:=n'
 simp only [Xd,Array.mk.injEq,QH,Value.string.injEq,Value.int.injEq,true_and,and_true] at h
 obtain ⟨rfl,rfl,h3,h4,rfl,rfl,rfl⟩:=h
 have:n3=m3:=by omega
 have:n4=m4:=by omega
 subst_vars
 rfl
def ndE:Nat->List JD->List MapEntry
 | _,[]=>[]
 | i,q :: r=>⟨.agg (Xd q),.agg #[],i⟩ :: ndE (i+1) r
theorem Jgq (qs:List JD):∀i,(ndE i qs).length=qs.length:=by
 induction qs with
 | nil=>intro i;rfl
 | cons b r ih=>intro i;simp [ndE,ih]
theorem Jgp (qs:List JD) (q:JD):∀i,ndE i (qs++[q])=ndE i qs++[⟨.agg (Xd q),.agg #[],i+qs.length⟩]:=by
 induction qs with
 | nil=>intro i;simp [ndE]
 | cons x r ih=>
  intro i
  rw [List.cons_append,ndE,ih (i+1),ndE,List.cons_append,Qp]
  have e:i+1+r.length=i+(r.length+1):=by omega
  rw [e]
theorem Jhm {qs:List JD}:∀{i:Nat} {e:MapEntry},e∈ndE i qs->∃q∈qs,e.key=.agg (Xd q)/\e.val=.agg #[]:=by
 induction qs with
 | nil=>intro i e h;simp [ndE] at h
 | cons x r ih=>
  intro i e h
  rw [ndE,List.mem_cons] at h
  rcases h with rfl | h
  ·exact ⟨x,QM,rfl,rfl⟩
  ·obtain ⟨q,h1,h2⟩:=ih h
   exact ⟨q,QP _ h1,h2⟩
theorem JmB {qs:List JD} {q:JD} (h:q∈qs):∀i,∃e∈ndE i qs,e.key=.agg (Xd q):=by
 induction qs with
 | nil=>simp at h
 | cons x r ih=>
  intro i
  rw [List.mem_cons] at h
  rcases h with rfl | h
  ·exact ⟨_,QM,rfl⟩
  ·obtain ⟨e,h1,h2⟩:=ih h (i+1)
   exact ⟨e,QP _ h1,h2⟩
def JmA (q:JD) (qs:List JD):Decidable (q∈qs):=decidable_of_iff (∃x∈qs,x=q) (by simp)
def insN (qs:List JD) (q:JD):List JD:=haveI:=JmA q qs;if q∈qs then qs else qs++[q]
def _root_.Go.World.setNd (w:World) (p:Nat) (qs:List JD):World:={ w with heap:=w.heap.setIfInBounds p (.map (ndE 0 qs).toArray qs.length) }
theorem u_nd:prog.underlying 284=some (.map 281 288):=underlying284
theorem JmC {w:World} {p:Nat} {qs:List JD} (h:w.heap[p]? =some (.map (ndE 0 qs).toArray qs.length)) (q:JD) (hq:Jah q) (hx:∀x∈qs,Jah x):
  (Instr.mapUpdate 284 (.map (some p)) (.agg (Xd q)) (.agg #[])).run prog w=.ok () (w.setNd p (insN qs q)):=by
 obtain ⟨l,hl⟩:=Jj6 q hq
 have hall:∀e∈ndE 0 qs,∃l,keyOf prog 281 e.key=some l:=λe he=>by
  obtain ⟨x,h1,h2,_⟩:=Jhm he
  rw [h2]
  exact Jj6 x (hx x h1)
 unfold insN
 rcases Jep.find w hl (ndE 0 qs) hall with ⟨h1,h2⟩ | ⟨j,e,h1,h2,h3⟩
 ·rw [if_neg (λhm=>by obtain ⟨e,k1,k2⟩:=JmB hm 0;exact h2 e k1 k2)]
  simp [Instr.mapUpdate,run_underlying u_nd,Go.MapKept.run_getObj_map h,Jep.check w _ hl,h1,Go.MapKept.run_setObj_map _ h,Result.andThen,World.setNd,Jgp]
 ·obtain ⟨x,k1,k2,k3⟩:=Jhm (QS h2)
  have hxq:x=q:=by rw [k2] at h3;exact Jij (by simpa using h3)
  subst hxq
  rw [if_pos k1]
  have hm:(ndE 0 qs).modify j (λe=>{ e with key:=.agg (Xd x),val:=.agg #[] })=ndE 0 qs:=by
   apply List.ext_getElem?
   intro i
   rw [List.getElem?_modify]
   by_cases hij:j=i
   ·subst hij
    rw [h2]
    obtain ⟨ek,ev,eb⟩:=e
    simp only at h3 k3
    rw [h3,k3]
    simp
   ·simp [hij]
  simp [Instr.mapUpdate,run_underlying u_nd,Go.MapKept.run_getObj_map h,Jep.check w _ hl,h1,h2,h3,Jep.stays w hl,Go.MapKept.run_setObj_map _ h,Result.andThen,World.setNd,hm]
theorem JgE {w:World} {p:Nat} {o:Obj} (h:w.heap[p]? =some o) (qs:List JD):(w.setNd p qs).heap[p]? =some (.map (ndE 0 qs).toArray qs.length):=(Go.MapKept.heap_set h).1
theorem Tch.setNd (w:World) (p:Nat) (qs:List JD):Tch (λk=>k=p) w (w.setNd p qs):=⟨rfl,rfl,rfl,by simp [World.setNd],λk _ hn=>by simp [World.setNd,Ne.symm hn]⟩
theorem Jmv {w:World} {p:Nat} {qs:List JD} (h:w.heap[p]? =some (.map (ndE 0 qs).toArray qs.length)):(Builtin.len_ #[284] 3 #[.map (some p)]).run prog w=.ok (.int .i64 (qs.length:Int)) w:=by
 simp [Builtin.len_,Go.MapKept.run_getObj_map h,Jgq]
 rfl
set_option maxHeartbeats 1000000

attribute [local go_sem] Oper.semAt_some

def Xr (d:List UInt8->BA):Tr->JD
 | ⟨.inl (k,o)⟩=>(⟨#[76]⟩,⟨k.toArray⟩,o,0,⟨#[]⟩,⟨#[]⟩)
 | ⟨.inr (b,l,r)⟩=>(⟨#[78]⟩,⟨#[]⟩,(0,0),(b:Int),Tr.dig d l,Tr.dig d r)
def JZ (d:List UInt8->BA):Tr->List JD
 | ⟨.inl (k,o)⟩=>[Xr d (.leaf k o)]
 | ⟨.inr (b,l,r)⟩=>Xr d (.br b l r) :: (JZ d l++JZ d r)
def Ji7 (d:List UInt8->BA) (F:Nat->Prop) (w:World):Nat->Tr->List Nat->Prop
 | n,⟨.inl (k,o)⟩,ps=>F n/\w.heap[n]? =some (.cells (Yp (Tr.dig d (.leaf k o)) k o) 243)/\ps=[n]
 | n,⟨.inr (b,l,r)⟩,ps=>∃nl nr pl pr,F n/\w.heap[n]? =some (.cells (brC (Tr.dig d (.br b l r)) b nl nr) 243)/\Ji7 d F w nl l pl/\Ji7 d F w nr r pr/\ps=n :: (pl++pr)
structure JR (d:List UInt8->BA) (F:Nat->Prop) (w:World) (n:Nat) (t:Tr) (ps:List Nat):Prop where
 of ::
 a:Ji7 d F w n t ps
theorem JR.leaf {d:List UInt8->BA} {F:Nat->Prop} {w:World} (n:Nat) (k:Key) (o:Nat×Nat) (h1:F n) (h2:w.heap[n]? =some (.cells (Yp (Tr.dig d (.leaf k o)) k o) 243)):JR d F w n (.leaf k o) [n]:=⟨h1,h2,rfl⟩
theorem JR.br {d:List UInt8->BA} {F:Nat->Prop} {w:World} (n b nl nr:Nat) (l r:Tr) (pl pr:List Nat) (h1:F n) (h2:w.heap[n]? =some (.cells (brC (Tr.dig d (.br b l r)) b nl nr) 243)) (h3:JR d F w nl l pl) (h4:JR d F w nr r pr):JR d F w n (.br b l r) (n :: (pl++pr)):=⟨nl,nr,pl,pr,h1,h2,h3.a,h4.a,rfl⟩
theorem JR.bri {d:List UInt8->BA} {F:Nat->Prop} {w:World} {n b:Nat} {l r:Tr} {ps:List Nat} (h:JR d F w n (.br b l r) ps):∃nl nr pl pr,F n/\w.heap[n]? =some (.cells (brC (Tr.dig d (.br b l r)) b nl nr) 243)/\JR d F w nl l pl/\JR d F w nr r pr/\ps=n :: (pl++pr):=by
 obtain ⟨nl,nr,pl,pr,h1,h2,h3,h4,e⟩:=h.a
 exact ⟨nl,nr,pl,pr,h1,h2,⟨h3⟩,⟨h4⟩,e⟩
theorem JR.ri {d:List UInt8->BA} {F:Nat->Prop} {w:World} {motive:∀n t ps,JR d F w n t ps->Prop} (leaf:∀n k o hF hr,motive n (.leaf k o) [n] (.leaf n k o hF hr)) (br:∀n b nl nr l r pl pr hF hr hl hr',motive nl l pl hl->motive nr r pr hr'->motive n (.br b l r) (n :: (pl++pr)) (.br n b nl nr l r pl pr hF hr hl hr')):∀{n t ps} (h:JR d F w n t ps),motive n t ps h
 | n,⟨.inl (k,o)⟩,_,⟨h1,h2,rfl⟩=>leaf n k o h1 h2
 | n,⟨.inr (b,l,r)⟩,_,⟨nl,nr,pl,pr,h1,h2,h3,h4,rfl⟩=>br n b nl nr l r pl pr h1 h2 ⟨h3⟩ ⟨h4⟩ (JR.ri leaf br ⟨h3⟩) (JR.ri leaf br ⟨h4⟩)
theorem Jf.places {d:List UInt8->BA} {F:Nat->Prop} {w:World} {n:Nat} {t:Tr} (h:Jf d F w n t):∃ps,JR d F w n t ps:=by
 induction h using Jf.ri with
 | leaf n k o hF hr=>exact ⟨_,.leaf n k o hF hr⟩
 | br n b nl nr l r hF hr _ _ ihl ihr=>
  obtain ⟨pl,hl⟩:=ihl
  obtain ⟨pr,hr'⟩:=ihr
  exact ⟨_,.br n b nl nr l r pl pr hF hr hl hr'⟩
theorem JR.tch {d:List UInt8->BA} {F:Nat->Prop} {w w':World} {n:Nat} {t:Tr} {ps:List Nat} {S:Nat->Prop} (h:JR d F w n t ps) (k:Tch S w w') (hs:∀j,S j->¬F j):JR d F w' n t ps:=by
 induction h using JR.ri with
 | leaf n key o hF hr=>exact .leaf n key o hF ((k.block n (Jb hr) (λe=>hs n e hF)).trans hr)
 | br n b nl nr l r pl pr hF hr _ _ ihl ihr=>exact .br n b nl nr l r pl pr hF ((k.block n (Jb hr) (λe=>hs n e hF)).trans hr) ihl ihr
theorem JR.row {d:List UInt8->BA} {F:Nat->Prop} {w:World} {n:Nat} {t:Tr} {ps:List Nat} (h:JR d F w n t ps):F n/\IsN w n/\w.cell? ⟨n,0,none⟩=some (.string (Tr.dig d t))/\n∈ps:=by
 cases h using JR.ri with
 | leaf n k o hF hr=>exact ⟨hF,⟨_,hr⟩,Ja hr,QM⟩
 | br n b nl nr l r pl pr hF hr _ _=>exact ⟨hF,⟨_,hr⟩,Ja hr,QM⟩
theorem JR.rows {d:List UInt8->BA} {F:Nat->Prop} {w:World} {n:Nat} {t:Tr} {ps:List Nat} (h:JR d F w n t ps):∀q∈ps,F q/\IsN w q:=by
 induction h using JR.ri with
 | leaf n k o hF hr=>intro q hq;rw [Qt.1 hq];exact ⟨hF,_,hr⟩
 | br n b nl nr l r pl pr hF hr _ _ ihl ihr=>
  intro q hq
  rw [List.mem_cons,QE] at hq
  rcases hq with rfl | hq | hq
  ·exact ⟨hF,_,hr⟩
  ·exact ihl q hq
  ·exact ihr q hq
def Jag (n₀ p:Nat) (W W':World):Prop:=∃S:Nat->Prop,Tch S W W'/\∀j,S j->n₀<=j/\j ≠ p
theorem Jag.same {n₀ p:Nat} {W W':World} (h:Jag n₀ p W W') {o:Obj} (ho:W.heap[p]? =some o):W'.heap[p]? =some o:=by
 obtain ⟨S,h1,h2⟩:=h
 exact (h1.block p (Jb ho) (λe=>(h2 p e).2 rfl)).trans ho
theorem IsN.below {n₀:Nat} {W W':World} (h:Below n₀ W W') {q:Nat} (hq:q<n₀) (hn:IsN W q):IsN W' q:=by
 obtain ⟨c,hc⟩:=hn
 exact ⟨c,((Tch.of_below h).block q (Jb hc) (by omega)).trans hc⟩
theorem XE {n₀:Nat} {S:Nat->Prop} {W W':World} (k:Tch S W W') (hs:∀j,S j->n₀<=j) (hn:n₀<=W.heap.size):Below n₀ W W':=
 ⟨k.os,k.tape,k.output,k.size,λj hj=>k.block j (by omega) (λe=>by have:=hs j e;omega)⟩
theorem Jag.below {n₀ p:Nat} {W W':World} (h:Jag n₀ p W W') (hn:n₀<=W.heap.size):Below n₀ W W':=by
 obtain ⟨S,h1,h2⟩:=h
 exact XE h1 (λj e=>(h2 j e).1) hn
theorem Jdm (d:List UInt8->BA) {n₀ p l m:Nat} (hp:n₀<=p) (J:List JD->World->Prop) (hJ:∀pre W W',J pre W->Tch (λk=>k=p) W W'->J pre W')
  (K:JD->Prop) (hY:∀pre x W,K x->J pre W->YieldAt Fence.wide m prog l #[.agg (Xd x)] W λe W'=>e=.returned (.bool true)/\J (pre++[x]) W'/\Jag n₀ p W W')
  (n:Nat) (k:Key) (o:Nat×Nat) (W:World) (hn:n<n₀) (hr:W.heap[n]? =some (.cells (Yp (Tr.dig d (.leaf k o)) k o) 243)) (qs:List Nat) (hm:W.heap[p]? =some (.map (psE 0 qs).toArray qs.length)) (hq:∀x∈qs,IsN W x/\x<n₀) (hnq:n ∉ qs) (pre:List JD) (h0:J pre W) (hK:K (Xr d (.leaf k o))):
  Calls prog 322 #[.pointer (some ⟨n,0,none⟩),.map (some p),.func (.yield l) #[] #[]] W λe W'=>e=.returned (.bool true)/\J (pre++[Xr d (.leaf k o)]) W'/\W'.heap[p]? =some (.map (psE 0 (qs++[n])).toArray (qs++[n]).length)/\Below n₀ W W':=by
 obtain ⟨W1,hW1⟩:∃W1,W1=W.alloc (.cells #[] 288):=⟨_,rfl⟩
 have t1:Tch NoB W W1:=by rw [hW1];exact Ta _ _ _
 have isn:∀x,IsN W x->IsN W1 x:=λx ⟨c,hc⟩=>⟨c,(t1.block x (Jb hc) (λe=>e)).trans hc⟩
 have hm1:=(t1.block p (Jb hm) (λe=>e)).trans hm
 have hlk:=Jhp hm ⟨_,hr⟩ (λx hx=>(hq x hx).1) hnq
 have hpu:=Jhq hm1 (isn n ⟨_,hr⟩) (λx hx=>isn x (hq x hx).1) hnq
 obtain ⟨W2,hW2⟩:∃W2,W2=W1.setPs p (qs++[n]):=⟨_,rfl⟩
 have hm2:W2.heap[p]? =some (.map (psE 0 (qs++[n])).toArray (qs++[n]).length):=by rw [hW2];exact JcU hm1 _
 have t2:Tch (λk=>k=p) W W2:=by rw [hW2];exact (t1.mono noE).trans (Tch.setPs _ _ _) (λj hj=>.inl hj)
 rw [<-hW2] at hpu
 rw [hW1] at hpu
 have hr2:=(t2.block n (Jb hr) (λe=>by omega)).trans hr
 have HPL:Hid (Calls prog 353 #[.pointer (some ⟨n,0,none⟩)] W2 λe w'=>e=.returned (.agg (Xd (Xr d (.leaf k o))))/\Tch NoB W2 w'):=JcI n _ k o W2 hr2
 have HIL:Hid (∀V,Below n₀ W2 V->Calls prog 224 #[.pointer (some ⟨n,0,none⟩)] V λe w'=>e=.returned (.bool true)/\w'=V):=λV hV=>Zn n _ k o V (((Tch.of_below hV).block n (Jb hr2) (by omega)).trans hr2)
 have HJ2:Hid (J pre W2):=hJ _ _ _ h0 t2
 have HSZ:Hid (n₀<=W.heap.size):=(by have:=(Jb hm);omega:n₀<=W.heap.size)
 have HT2:Hid (Tch (λk=>k=p) W W2):=t2
 have HM2:Hid (W2.heap[p]? =some (.map (psE 0 (qs++[n])).toArray (qs++[n]).length)):=hm2
 have HJ:Hid (∀pre W W',J pre W->Tch (λk=>k=p) W W'->J pre W'):=hJ
 have HY:Hid (∀pre x W,K x->J pre W->YieldAt Fence.wide m prog l #[.agg (Xd x)] W λe W'=>e=.returned (.bool true)/\J (pre++[x]) W'/\Jag n₀ p W W'):=hY
 have HK:Hid (K (Xr d (.leaf k o))):=hK
 clear hK
 generalize Xr d (.leaf k o)=x at *
 clear hW1 t1 isn hm1 hW2 hm2 t2 hr2 hr hq hnq hm h0 hJ hY hn
 refine (callsIn_wide (n:=m+1)).1 ?_
 refine callsIn_of_wp func322 rfl trivial ?_ rfl
 simp only [ntmps322,List.size_toArray,Qp,Qv,Nat.reduceAdd,Nat.reduceSub,Array.replicate_succ,Array.replicate_zero,List.push_toArray,List.append_toArray,List.nil_append,List.cons_append]
 gi_wp2
 refine ⟨trivial,(callsIn_wide.2 HPL.o).mono ?_⟩
 rintro _ W3 ⟨rfl,ht3⟩
 have HT3:Hid (Tch (λk=>k=p) W W3):=HT2.o.trans ht3 noE
 have HM3:Hid (W3.heap[p]? =_):=(ht3.block p (Jb HM2.o) (λe=>e)).trans HM2.o
 have hJ3:=HJ.o _ _ _ HJ2.o (ht3.mono noE)
 have HB3:Hid (Below n₀ W2 W3):=XE ht3 noE (by have:=(Jb HM2.o);omega)
 obtain ⟨fn,tmps,assign,body,hy,hR⟩:=HY.o _ x W3 HK.o hJ3
 clear ht3 hJ3 HJ2 HPL
 gi_wp2
 refine hR.mono ?_
 clear hR hy
 rintro _ W4 ⟨rfl,hJ4,hk4⟩
 have HB4:Hid (Below n₀ W2 W4):=HB3.o.trans (hk4.below (Qm HSZ.o HT3.o.size))
 have HM4:Hid (W4.heap[p]? =_):=hk4.same HM3.o
 have HJ4:Hid (J _ W4):=hJ4
 clear hk4 hJ4
 gi_upto_region 7 with fail
 refine wpIn_wide.2 ?_
 go_wp2_with fail
 refine (HIL.o W4 HB4.o).mono ?_
 rintro _ _ ⟨rfl,rfl⟩
 go_wp2
 gi_wp2
 go_ret
 exact ⟨rfl,HJ4.o,HM4.o,(XE HT2.o (λj hj=>by rw [hj];exact hp) HSZ.o).trans HB4.o⟩
theorem Jfp (d:List UInt8->BA) {n₀ p l m:Nat} (hp:n₀<=p) (J:List JD->World->Prop) (hJ:∀pre W W',J pre W->Tch (λk=>k=p) W W'->J pre W')
  (K:JD->Prop) (hY:∀pre x W,K x->J pre W->YieldAt Fence.wide m prog l #[.agg (Xd x)] W λe W'=>e=.returned (.bool true)/\J (pre++[x]) W'/\Jag n₀ p W W')
  (n b nl nr:Nat) (tl tr:Tr) (W:World) (hn:n<n₀) (hr:W.heap[n]? =some (.cells (brC (Tr.dig d (.br b tl tr)) b nl nr) 243)) (hnl:nl<n₀/\W.cell? ⟨nl,0,none⟩=some (.string (Tr.dig d tl))) (hnr:nr<n₀/\W.cell? ⟨nr,0,none⟩=some (.string (Tr.dig d tr))) (qs pl pr:List Nat) (hm:W.heap[p]? =some (.map (psE 0 qs).toArray qs.length)) (hq:∀x∈qs,IsN W x/\x<n₀) (hnq:n ∉ qs) (pre:List JD) (h0:J pre W) (hK:K (Xr d (.br b tl tr)))
  (hL:∀V pre,Below n₀ W V->V.heap[p]? =some (.map (psE 0 (qs++[n])).toArray (qs++[n]).length)->J pre V->Calls prog 322 #[.pointer (some ⟨nl,0,none⟩),.map (some p),.func (.yield l) #[] #[]] V λe W'=>e=.returned (.bool true)/\J (pre++JZ d tl) W'/\W'.heap[p]? =some (.map (psE 0 (qs++[n]++pl)).toArray (qs++[n]++pl).length)/\Below n₀ V W')
  (hR:∀V pre,Below n₀ W V->V.heap[p]? =some (.map (psE 0 (qs++[n]++pl)).toArray (qs++[n]++pl).length)->J pre V->Calls prog 322 #[.pointer (some ⟨nr,0,none⟩),.map (some p),.func (.yield l) #[] #[]] V λe W'=>e=.returned (.bool true)/\J (pre++JZ d tr) W'/\W'.heap[p]? =some (.map (psE 0 (qs++[n]++pl++pr)).toArray (qs++[n]++pl++pr).length)/\Below n₀ V W'):
  Calls prog 322 #[.pointer (some ⟨n,0,none⟩),.map (some p),.func (.yield l) #[] #[]] W λe W'=>e=.returned (.bool true)/\J (pre++[Xr d (.br b tl tr)]++JZ d tl++JZ d tr) W'/\W'.heap[p]? =some (.map (psE 0 (qs++[n]++pl++pr)).toArray (qs++[n]++pl++pr).length)/\Below n₀ W W':=by
 obtain ⟨W1,hW1⟩:∃W1,W1=W.alloc (.cells #[] 288):=⟨_,rfl⟩
 have t1:Tch NoB W W1:=by rw [hW1];exact Ta _ _ _
 have isn:∀x,IsN W x->IsN W1 x:=λx ⟨c,hc⟩=>⟨c,(t1.block x (Jb hc) (λe=>e)).trans hc⟩
 have hm1:=(t1.block p (Jb hm) (λe=>e)).trans hm
 have hlk:=Jhp hm ⟨_,hr⟩ (λx hx=>(hq x hx).1) hnq
 have hpu:=Jhq hm1 (isn n ⟨_,hr⟩) (λx hx=>isn x (hq x hx).1) hnq
 obtain ⟨W2,hW2⟩:∃W2,W2=W1.setPs p (qs++[n]):=⟨_,rfl⟩
 have hm2:W2.heap[p]? =some (.map (psE 0 (qs++[n])).toArray (qs++[n]).length):=by rw [hW2];exact JcU hm1 _
 have t2:Tch (λk=>k=p) W W2:=by rw [hW2];exact (t1.mono noE).trans (Tch.setPs _ _ _) (λj hj=>.inl hj)
 rw [<-hW2] at hpu
 rw [hW1] at hpu
 have hr2:=(t2.block n (Jb hr) (λe=>by omega)).trans hr
 have HPL:Hid (Calls prog 353 #[.pointer (some ⟨n,0,none⟩)] W2 λe w'=>e=.returned (.agg (Xd (Xr d (.br b tl tr))))/\Tch NoB W2 w'):=Jfu n _ b nl nr _ _ W2 hr2 ((t2.cell (p:=⟨nl,0,none⟩) (Qr _ _ hnl.2) (λe=>by simp only at e;omega)).trans hnl.2) ((t2.cell (p:=⟨nr,0,none⟩) (Qr _ _ hnr.2) (λe=>by simp only at e;omega)).trans hnr.2) (Qk (Qr _ _ hnl.2) t2.size) (Qk (Qr _ _ hnr.2) t2.size)
 have HRW:Hid (∀V,Below n₀ W V->V.heap[n]? =some (.cells (brC (Tr.dig d (.br b tl tr)) b nl nr) 243)):=λV hV=>((Tch.of_below hV).block n (Jb hr) (by omega)).trans hr
 have HIL:Hid (∀V,Below n₀ W V->Calls prog 224 #[.pointer (some ⟨n,0,none⟩)] V λe w'=>e=.returned (.bool false)/\w'=V):=λV hV=>ZE n _ b nl nr V (HRW.o V hV)
 have HL:Hid (∀V pre,Below n₀ W V->V.heap[p]? =some (.map (psE 0 (qs++[n])).toArray (qs++[n]).length)->J pre V->Calls _ _ _ _ _):=hL
 have HR:Hid (∀V pre,Below n₀ W V->V.heap[p]? =some (.map (psE 0 (qs++[n]++pl)).toArray (qs++[n]++pl).length)->J pre V->Calls _ _ _ _ _):=hR
 have HJ2:Hid (J pre W2):=hJ _ _ _ h0 t2
 have HSZ:Hid (n₀<=W.heap.size):=(by have:=(Jb hm);omega:n₀<=W.heap.size)
 have HT2:Hid (Tch (λk=>k=p) W W2):=t2
 have HM2:Hid (W2.heap[p]? =some (.map (psE 0 (qs++[n])).toArray (qs++[n]).length)):=hm2
 have HJ:Hid (∀pre W W',J pre W->Tch (λk=>k=p) W W'->J pre W'):=hJ
 have HY:Hid (∀pre x W,K x->J pre W->YieldAt Fence.wide m prog l #[.agg (Xd x)] W λe W'=>e=.returned (.bool true)/\J (pre++[x]) W'/\Jag n₀ p W W'):=hY
 have HK:Hid (K (Xr d (.br b tl tr))):=hK
 clear hK
 generalize Xr d (.br b tl tr)=x at *
 clear hW1 t1 isn hm1 hW2 hm2 t2 hr2 hr hq hnq hm h0 hJ hY hn hL hR hnl hnr
 refine (callsIn_wide (n:=m+1)).1 ?_
 refine callsIn_of_wp func322 rfl trivial ?_ rfl
 simp only [ntmps322,List.size_toArray,Qp,Qv,Nat.reduceAdd,Nat.reduceSub,Array.replicate_succ,Array.replicate_zero,List.push_toArray,List.append_toArray,List.nil_append,List.cons_append]
 gi_wp2
 refine ⟨trivial,(callsIn_wide.2 HPL.o).mono ?_⟩
 rintro _ W3 ⟨rfl,ht3⟩
 have HT3:Hid (Tch (λk=>k=p) W W3):=HT2.o.trans ht3 noE
 have HM3:Hid (W3.heap[p]? =_):=(ht3.block p (Jb HM2.o) (λe=>e)).trans HM2.o
 have hJ3:=HJ.o _ _ _ HJ2.o (ht3.mono noE)
 have HB3:Hid (Below n₀ W2 W3):=XE ht3 noE (by have:=(Jb HM2.o);omega)
 obtain ⟨fn,tmps,assign,body,hy,hR⟩:=HY.o _ x W3 HK.o hJ3
 clear ht3 hJ3 HJ2 HPL
 gi_wp2
 refine hR.mono ?_
 clear hR hy
 rintro _ W4 ⟨rfl,hJ4,hk4⟩
 have HB4:Hid (Below n₀ W2 W4):=HB3.o.trans (hk4.below (Qm HSZ.o HT3.o.size))
 have HM4:Hid (W4.heap[p]? =_):=hk4.same HM3.o
 have HJ4:Hid (J _ W4):=hJ4
 clear hk4 hJ4
 have HB5:Hid (Below n₀ W W4):=(XE HT2.o (λj hj=>by rw [hj];exact hp) HSZ.o).trans HB4.o
 have c5:W4.cell? ⟨n,5,none⟩=some (.pointer (some ⟨nl,0,none⟩)):=Ja (HRW.o W4 HB5.o)
 gi_upto_region 7 with fail
 refine wpIn_wide.2 ?_
 go_wp2_with fail
 refine (HIL.o W4 HB5.o).mono ?_
 rintro _ _ ⟨rfl,rfl⟩
 go_wp2_with fail
 refine (HL.o _ _ HB5.o HM4.o HJ4.o).mono ?_
 rintro _ W5 ⟨rfl,hJ5,hm5,hb5⟩
 have HB6:Hid (Below n₀ W W5):=HB5.o.trans hb5
 have c6:W5.cell? ⟨n,6,none⟩=some (.pointer (some ⟨nr,0,none⟩)):=Ja (HRW.o W5 HB6.o)
 have HJ5:Hid (J _ W5):=hJ5
 have HM5:Hid (W5.heap[p]? =_):=hm5
 clear hJ5 hm5 hb5 c5
 go_wp2_with fail
 refine (HR.o _ _ HB6.o HM5.o HJ5.o).mono ?_
 rintro _ W6 ⟨rfl,hJ6,hm6,hb6⟩
 have HJ6:Hid (J _ W6):=hJ6
 have HM6:Hid (W6.heap[p]? =_):=hm6
 have HB7:Hid (Below n₀ W W6):=HB6.o.trans hb6
 clear hJ6 hm6 hb6 c6
 go_wp2
 gi_wp2
 go_ret
 exact ⟨rfl,HJ6.o,HM6.o,HB7.o⟩

attribute [local go_sem] Oper.semAt_some

theorem JR.same {d:List UInt8->BA} {F:Nat->Prop} {w:World} {n:Nat} {t:Tr} {ps:List Nat} (h:JR d F w n t ps):∀{t':Tr} {ps':List Nat},JR d F w n t' ps'->t=t':=by
 induction h using JR.ri with
 | leaf n k o hF hr=>
  intro t' ps' h'
  cases h' using JR.ri with
  | leaf _ k' o' _ hr'=>
   rw [hr] at hr'
   obtain ⟨o1,o2⟩:=o
   obtain ⟨o1',o2'⟩:=o'
   simp only [Yp,Qh,Obj.cells.injEq,Array.mk.injEq,QH,Value.string.injEq,Value.int.injEq,ByteArray.mk.injEq,true_and,and_true] at hr'
   obtain ⟨_,hk,h1,h2⟩:=hr'
   have e1:k=k':=by simpa using hk
   have e2:o1=o1':=by omega
   have e3:o2=o2':=by omega
   rw [e1,e2,e3]
  | br _ b nl nr l r pl pr _ hr'=>rw [hr] at hr';simp [Yp,brC] at hr'
 | br n b nl nr l r pl pr hF hr _ _ ihl ihr=>
  intro t' ps' h'
  cases h' using JR.ri with
  | leaf _ k' o' _ hr'=>rw [hr] at hr';simp [Yp,brC] at hr'
  | br _ b' nl' nr' l' r' pl' pr' _ hr' hl' hr2'=>
   rw [hr] at hr'
   simp only [brC,Qh,Obj.cells.injEq,Array.mk.injEq,QH,Value.string.injEq,Value.int.injEq,Value.pointer.injEq,Addr.mk.injEq,true_and,and_true] at hr'
   obtain ⟨_,hb,rfl,rfl⟩:=hr'
   have e:b=b':=by omega
   rw [e,ihl hl',ihr hr2']
theorem JR.part {d:List UInt8->BA} {F:Nat->Prop} {w:World} {n:Nat} {t:Tr} {ps:List Nat} (h:JR d F w n t ps):∀q∈ps,∃s ps',JR d F w q s ps'/\(∀x∈s.coins,x∈t.coins)/\s.coins.length<=t.coins.length:=by
 induction h using JR.ri with
 | leaf n k o hF hr=>intro q hq;rw [Qt.1 hq];exact ⟨_,_,.leaf n k o hF hr,λ_ h=>h,Ql _⟩
 | br n b nl nr l r pl pr hF hr hl hr' ihl ihr=>
  intro q hq
  rw [List.mem_cons,QE] at hq
  rcases hq with rfl | hq | hq
  ·exact ⟨_,_,.br q b nl nr l r pl pr hF hr hl hr',λ_ h=>h,Ql _⟩
  ·obtain ⟨s,ps',h1,h2,h3⟩:=ihl q hq
   exact ⟨s,ps',h1,λx hx=>by simp only [Tr.coins,QE];exact .inl (h2 x hx),by simp only [Tr.coins,Qe];omega⟩
  ·obtain ⟨s,ps',h1,h2,h3⟩:=ihr q hq
   exact ⟨s,ps',h1,λx hx=>by simp only [Tr.coins,QE];exact .inr (h2 x hx),by simp only [Tr.coins,Qe];omega⟩
theorem JR.nodup {d:List UInt8->BA} {F:Nat->Prop} {w:World} {n:Nat} {t:Tr} {ps:List Nat} (h:JR d F w n t ps) (hw:t.Wf):ps.Nodup:=by
 induction h using JR.ri with
 | leaf n k o hF hr=>simp
 | br n b nl nr l r pl pr hF hr hl hr' ihl ihr=>
  obtain ⟨w1,w2,h0,h1,_⟩:=hw
  have nl0:=List.length_pos_iff.2 (Tr.coins_ne l)
  have nr0:=List.length_pos_iff.2 (Tr.coins_ne r)
  have me:=JR.br n b nl nr l r pl pr hF hr hl hr'
  rw [List.nodup_cons,List.nodup_append]
  refine ⟨λhm=>?_,ihl w1,ihr w2,λa ha c hc e=>?_⟩
  ·rw [QE] at hm
   rcases hm with hm | hm
   ·obtain ⟨s,ps',k1,_,k3⟩:=hl.part n hm
    rw [<-me.same k1] at k3
    simp only [Tr.coins,Qe] at k3
    omega
   ·obtain ⟨s,ps',k1,_,k3⟩:=hr'.part n hm
    rw [<-me.same k1] at k3
    simp only [Tr.coins,Qe] at k3
    omega
  ·subst e
   obtain ⟨s,ps1,k1,k2,_⟩:=hl.part a ha
   obtain ⟨s',ps2,m1,m2,_⟩:=hr'.part a hc
   have es:=k1.same m1
   subst es
   obtain ⟨x,hx⟩:=List.exists_mem_of_ne_nil _ (Tr.coins_ne s)
   have a0:=h0 x (k2 x hx)
   have a1:=h1 x (m2 x hx)
   omega
theorem Jj7 (d:List UInt8->BA) {n₀ p l m:Nat} (hp:n₀<=p) {F:Nat->Prop} (hF:∀j,F j->j<n₀) (J:List JD->World->Prop) (hJ:∀pre W W',J pre W->Tch (λk=>k=p) W W'->J pre W')
  (K:JD->Prop) (hY:∀pre x W,K x->J pre W->YieldAt Fence.wide m prog l #[.agg (Xd x)] W λe W'=>e=.returned (.bool true)/\J (pre++[x]) W'/\Jag n₀ p W W'):
  ∀(t:Tr) (n:Nat) (ps:List Nat) (W:World) (qs:List Nat) (pre:List JD),JR d F W n t ps->W.heap[p]? =some (.map (psE 0 qs).toArray qs.length)->(∀x∈qs,IsN W x/\x<n₀)->(qs++ps).Nodup->J pre W->(∀x∈JZ d t,K x)->
  Calls prog 322 #[.pointer (some ⟨n,0,none⟩),.map (some p),.func (.yield l) #[] #[]] W λe W'=>e=.returned (.bool true)/\J (pre++JZ d t) W'/\W'.heap[p]? =some (.map (psE 0 (qs++ps)).toArray (qs++ps).length)/\Below n₀ W W':=by
 intro t
 induction t using Tr.ri with
 | leaf k o=>
  intro n ps W qs pre hN hm hq hnd h0 hK
  obtain ⟨hFn,hr,rfl⟩:=hN.a
  exact Jdm d hp J hJ K hY n k o W (hF n hFn) hr qs hm hq (λe=>(List.nodup_append.1 hnd).2.2 n e n (by simp) rfl) pre h0 (hK _ (by simp [JZ]))
 | br b tl tr ihl ihr=>
  intro n ps W qs pre hN hm hq hnd h0 hK
  obtain ⟨nl,nr,pl,pr,hFn,hr,hl,hr',rfl⟩:=hN.bri
  have rl:=hl.row
  have rr:=hr'.row
  have hnq:n ∉ qs:=λe=>(List.nodup_append.1 hnd).2.2 n e n (by simp) rfl
  have hnd':(qs++[n]++pl++pr).Nodup:=by rw [show qs++[n]++pl++pr=qs++n :: (pl++pr) by simp];exact hnd
  have isb:∀V,Below n₀ W V->∀x,(IsN W x/\x<n₀)->IsN V x/\x<n₀:=λV hV x hx=>⟨hx.1.below hV hx.2,hx.2⟩
  have hn':IsN W n/\n<n₀:=⟨⟨_,hr⟩,hF n hFn⟩
  have kp:∀V,Below n₀ W V->∀{q s u},JR d F W q s u->JR d F V q s u:=λV hV q s u hh=>hh.tch (Tch.of_below hV) (λj hj e=>by have:=hF j e;omega)
  have H:=Jfp d hp J hJ K hY n b nl nr tl tr W (hF n hFn) hr ⟨hF _ rl.1,rl.2.2.1⟩ ⟨hF _ rr.1,rr.2.2.1⟩ qs pl pr hm hq hnq pre h0 (hK _ (by simp [JZ]))
   (λV pre hV hmV hJV=>ihl nl pl V (qs++[n]) pre (kp V hV hl) hmV (λx hx=>isb V hV x (by rw [QE,Qt] at hx;rcases hx with hx | rfl;exact hq x hx;exact hn')) (List.nodup_append.1 hnd').1 hJV (λx hx=>hK x (by simp [JZ,hx])))
   (λV pre hV hmV hJV=>ihr nr pr V (qs++[n]++pl) pre (kp V hV hr') hmV (λx hx=>isb V hV x (by rw [QE,QE,Qt] at hx;rcases hx with (hx | rfl) | hx;exact hq x hx;exact hn';exact ⟨(hl.rows x hx).2,hF x (hl.rows x hx).1⟩)) hnd' hJV (λx hx=>hK x (by simp [JZ,hx])))
  refine H.mono λe W' k=>?_
  rw [show qs++n :: (pl++pr)=qs++[n]++pl++pr by simp,JZ,show pre++Xr d (.br b tl tr) :: (JZ d tl++JZ d tr)=pre++[Xr d (.br b tl tr)]++JZ d tl++JZ d tr by simp]
  exact k
def JF (d:List UInt8->BA):Option Tr->List JD
 | none=>[(⟨#[69]⟩,⟨#[]⟩,(0,0),0,⟨#[]⟩,⟨#[]⟩)]
 | some t=>JZ d t
theorem JkH (d:List UInt8->BA) {n₀ p l m:Nat} (hp:n₀<=p) {F:Nat->Prop} (hF:∀j,F j->j<n₀) (J:List JD->World->Prop) (hJ:∀pre W W',J pre W->Tch (λk=>k=p) W W'->J pre W')
  (K:JD->Prop) (hY:∀pre x W,K x->J pre W->YieldAt Fence.wide m prog l #[.agg (Xd x)] W λe W'=>e=.returned (.bool true)/\J (pre++[x]) W'/\Jag n₀ p W W')
  (wd:Nat) (q:Option Nat) (st:Option Tr) (W:World) (hs:StAt d F W q st) (hw:∀t,st=some t->t.Wf) (hm:W.heap[p]? =some (.map #[] 0)) (pre:List JD) (h0:J pre W) (hK:∀x∈JF d st,K x):
  Calls prog 247 #[Jt wd q,.map (some p),.func (.yield l) #[] #[]] W λe W'=>e=.returned (.bool true)/\J (pre++JF d st) W':=by
 obtain ⟨W1,hW1⟩:∃(W1:World),W1=W.alloc (.cells #[.int .i64 (wd:Int),Jh q] 146):=⟨_,rfl⟩
 have t1:Tch NoB W W1:=by rw [hW1];exact Ta _ _ _
 have hr1:W1.heap[W.heap.size]? =some (.cells #[.int .i64 (wd:Int),Jh q] 146):=by rw [hW1];exact Qf _ _
 have c1:W1.cell? ⟨W.heap.size,1,none⟩=some (Jh q):=Ja hr1
 have hJ1:=hJ _ _ _ h0 (t1.mono noE)
 have HW:Hid (W1=_):=hW1
 cases q with
 | none=>
  cases st with
  | some t=>exact absurd hs (by simp [StAt])
  | none=>
   obtain ⟨fn,tmps,assign,body,hy,hR⟩:=hY _ (⟨#[69]⟩,⟨#[]⟩,(0,0),0,⟨#[]⟩,⟨#[]⟩) W1 (hK _ (by simp [JF])) hJ1
   have hy:(Instr.yield l #[.agg #[.string ⟨#[69]⟩,.string ⟨#[]⟩,.int .u64 0,.int .u8 0,.int .i64 0,.string ⟨#[]⟩,.string ⟨#[]⟩]]).run prog W1=.ok (.round l fn tmps assign body) W1:=hy
   have HR:Hid (RoundIn _ _ _ _ _ _ _ _ _ _):=hR
   clear hR hW1 t1 hr1 hJ hY hs hw hm h0 hJ1
   simp only [Jh,Option.map_none] at c1 HW
   unfold Jt
   simp only [Jh,Option.map_none]
   refine (callsIn_wide (n:=m+1)).1 ?_
   refine callsIn_of_wp func247 rfl trivial ?_ rfl
   simp only [ntmps247,List.size_toArray,Qp,Qv,Nat.reduceAdd,Nat.reduceSub,Array.replicate_succ,Array.replicate_zero,List.push_toArray,List.append_toArray,List.nil_append,List.cons_append]
   gi_upto_region 1 with fail
   rw [<-HW.o]
   gi_wp2
   refine HR.o.mono ?_
   rintro _ W2 ⟨rfl,h2,_⟩
   gi_wp2
   go_ret
   exact ⟨rfl,h2⟩
 | some n=>
  cases st with
  | none=>exact absurd hs (by simp [StAt])
  | some t=>
   obtain ⟨ps,hN⟩:=Jf.places (show Jf d F W n t from hs)
   have hN1:=hN.tch t1 noE
   have hm1:=(t1.block p (Jb hm) (λe=>e)).trans hm
   have HP:Hid (Calls _ _ _ _ _):=Jj7 d hp hF J hJ K hY t n ps W1 [] pre hN1 hm1 (λx hx=>absurd hx QD) (by rw [List.nil_append];exact hN.nodup (hw t rfl)) hJ1 hK
   clear hW1 t1 hr1 hJ hY hs hw hm h0 hJ1 hN hN1 hm1
   simp only [Jh,Option.map_some] at c1 HW
   unfold Jt
   simp only [Jh,Option.map_some]
   go_enter func247,ntmps247
   go_upto_region 1 with fail
   rw [<-HW.o]
   go_wp2_with fail
   refine HP.o.mono ?_
   rintro _ W2 ⟨rfl,h2,_⟩
   have H2:Hid (J _ W2):=h2
   clear h2
   go_wp2
   go_ret
   exact ⟨rfl,H2.o⟩
