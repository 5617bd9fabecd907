import Derived.Test.YtighkdnooglfjaaGreatDoorLcLiD
import Derived.Test.YtighkdnooglfjaaGreatDoorLcRgC
namespace Go.Proofs.YtighkdnooglfjaaGreatDoor
open Tryz
set_option maxRecDepth 100000
set_option maxHeartbeats 2000000
open Go.RowKit

variable {l:List Spot}{base g n0 pm po vb:Nat}{s:Spot}{T:TypeId}{lv v:Value}{w w':World}
attribute [local go_sem] Oper.semAt_some

def YV(w:World)(g o:Nat):List Value->World
 | []=>w
 | v::r=>YV (w.setCell ⟨g,o,none⟩ v) g (o+1) r
theorem Jiz:∀(vs pre rest:List Value)(w:World),w.heap[g]? =some (.cells (pre++rest).toArray T)->vs.length=rest.length->(YV w g pre.length vs).heap[g]? =some (.cells (pre++vs).toArray T)/\Tch (λj=>j=g) w (YV w g pre.length vs)
 | [],pre,rest,w,h,hl=>by
  cases rest with
  | nil=>exact⟨h,Te _ _⟩
  | cons _ _=>simp at hl
 | v::vs,pre,rest,w,h,hl=>by
  cases rest with
  | nil=>simp at hl
  | cons r0 rest=>
   have e:w.setCell ⟨g,pre.length,none⟩ v=w.setRow g ((pre++[v])++rest).toArray:=(by rw[Qj w g _ _ _ (0,0) _ h];simp);have h2:=Qi w g _ ((pre++[v])++rest).toArray _ _ h;obtain⟨k1,k2⟩:=Jiz vs (pre++[v]) rest (w.setRow g ((pre++[v])++rest).toArray) h2 (by simpa using hl);rw[YV,e];simp only[Qe,Qp,Qv]at k1 k2;refine⟨by simpa using k1,(Ts w g _).trans k2 (λ_ h=>.inl h)⟩
theorem JbK{cs:Array Value}(h:w.heap[g]? =some (.cells cs T))(vs:List Value)(hl:vs.length=cs.size):(YV w g 0 vs).heap[g]? =some (.cells vs.toArray T)/\Tch (λj=>j=g) w (YV w g 0 vs):=
 Jiz vs [] cs.toList w (by simpa using h) (by simpa using hl)
theorem Jb6{n:BA}{c:UInt8}(h:¬n=⟨#[c]⟩):(n.toList == [c])=false:=by
 rw[ByteArray.toList_eq,beq_eq_false_iff_ne];intro e;refine h (ByteArray.ext ?_);apply Array.toList_inj.1;exact e
def spC(s:Spot):Array Value:= #[.string s.dg,.string (s.nd.getD Xc).1,.string (s.nd.getD Xc).2.1,.int .u64 ((s.nd.getD Xc).2.2.1.1:Int),.int .u8 ((s.nd.getD Xc).2.2.1.2:Int),.int .i64 (s.nd.getD Xc).2.2.2.1,.string (s.nd.getD Xc).2.2.2.2.1,.string (s.nd.getD Xc).2.2.2.2.2,.bool s.nd.isSome,.int .i64 s.ab]
theorem JmT(wj:Int)(p:Nat)(b:ByL)(hd:(b.map (·.1)).Nodup)(e:BA)(ab:Int)(w:World)(hm:MpAt w p (byE b)):
  Calls prog 300 #[.agg #[.int .i64 wj,.map (some p)],.string e,.int .i64 ab] w λr w'=>r=.returned (.agg (spC (Jt b e ab)))/\Tch NoB w w':=by
 obtain⟨W,hW⟩:∃W,W=(w.alloc (.cells #[.int .i64 wj,.map (some p)] 264)).alloc (.cells #[.string ⟨#[]⟩,.string ⟨#[]⟩,.string ⟨#[]⟩,.int .u64 0,.int .u8 0,.int .i64 0,.string ⟨#[]⟩,.string ⟨#[]⟩,.bool false,.int .i64 0] 384):=⟨_,rfl⟩
 have tA:Tch NoB w W:=by rw[hW];exact Tch.allocs _ _ _ _
 have r0:W.heap[w.heap.size]? =some (.cells #[.int .i64 wj,.map (some p)] 264):=by rw[hW];exact heap_alloc2_old _ _ _
 have r1:W.heap[w.heap.size+1]? =some (.cells #[.string ⟨#[]⟩,.string ⟨#[]⟩,.string ⟨#[]⟩,.int .u64 0,.int .u8 0,.int .i64 0,.string ⟨#[]⟩,.string ⟨#[]⟩,.bool false,.int .i64 0] 384):=by rw[hW];exact heap_alloc2_new _ _ _
 have c1:W.cell? ⟨w.heap.size,1,none⟩=some (.map (some p)):=Ja r0;have hlk:(Instr.lookup 262 (.map (some p)) (.string e) true).run prog W=.ok (.tuple #[.agg (Jo ((Xd b e).getD Xc)),.bool (Xd b e).isSome]) W:=by
  have hmW:=hm.next tA (λh=>h)
  cases hb:Xd b e with
  | none=>exact JaW byTy hmW (Jba.1 hb) true
  | some n=>exact Jce byTy hmW hd ((JbZ hd).1 hb) true
 have HSP:Hid (spC (Jt b e ab)= #[.string e,.string ((Xd b e).getD Xc).1,.string ((Xd b e).getD Xc).2.1,.int .u64 (((Xd b e).getD Xc).2.2.1.1:Int),.int .u8 (((Xd b e).getD Xc).2.2.1.2:Int),.int .i64 ((Xd b e).getD Xc).2.2.2.1,.string ((Xd b e).getD Xc).2.2.2.2.1,.string ((Xd b e).getD Xc).2.2.2.2.2,.bool (Xd b e).isSome,.int .i64 ab]):=rfl;rw[HSP.o];generalize (Xd b e).isSome=met at *;generalize (Xd b e).getD Xc=nd at *;obtain⟨n1,n2,⟨n3,n4⟩,n5,n6,n7⟩:=nd;simp only[Jo]at hlk;dsimp only;obtain⟨W3,hW3⟩:∃W3,W3=W.alloc (.cells #[.string n1,.string n2,.int .u64 (n3:Int),.int .u8 (n4:Int),.int .i64 n5,.string n6,.string n7] 281):=⟨_,rfl⟩
 have t3:Tch NoB W W3:=by rw[hW3];exact Ta _ _ _
 have hsz:W.heap.size=w.heap.size+2:=by rw[hW];simp
 have q1:=(t3.block _ (Jb r1) (λh=>h)).trans r1;have q2:W3.heap[W.heap.size]? =some (.cells #[.string n1,.string n2,.int .u64 (n3:Int),.int .u8 (n4:Int),.int .i64 n5,.string n6,.string n7] 281):=by rw[hW3];exact Qf _ _
 have HALL:Hid (∀vs:List Value,vs.length=10->(YV W3 (w.heap.size+1) 0 vs).heap[w.heap.size+1]? =some (.cells vs.toArray 384)/\Tch (λj=>j=w.heap.size+1) W3 (YV W3 (w.heap.size+1) 0 vs)):=λvs hv=>JbK q1 vs hv;have HT3:Hid (Tch NoB w W3):=tA.go t3;have HW:Hid (W=_):=hW;have HW3:Hid (W3=_):=hW3;have k0:W3.cell? ⟨W.heap.size,0,none⟩=some (.string n1):=Ja q2;have k1:W3.cell? ⟨W.heap.size,1,none⟩=some (.string n2):=Ja q2;have k2:W3.cell? ⟨W.heap.size,2,none⟩=some (.int .u64 (n3:Int)):=Ja q2;have k3:W3.cell? ⟨W.heap.size,3,none⟩=some (.int .u8 (n4:Int)):=Ja q2;have k4:W3.cell? ⟨W.heap.size,4,none⟩=some (.int .i64 n5):=Ja q2;have k5:W3.cell? ⟨W.heap.size,5,none⟩=some (.string n6):=Ja q2;have k6:W3.cell? ⟨W.heap.size,6,none⟩=some (.string n7):=Ja q2;have s0:W3.cell? ⟨w.heap.size+1,0,none⟩=some (.string ⟨#[]⟩):=Ja q1;have s1:W3.cell? ⟨w.heap.size+1,1,none⟩=some (.string ⟨#[]⟩):=Ja q1;have s2:W3.cell? ⟨w.heap.size+1,2,none⟩=some (.string ⟨#[]⟩):=Ja q1;have s3:W3.cell? ⟨w.heap.size+1,3,none⟩=some (.int .u64 0):=Ja q1;have s4:W3.cell? ⟨w.heap.size+1,4,none⟩=some (.int .u8 0):=Ja q1;have s5:W3.cell? ⟨w.heap.size+1,5,none⟩=some (.int .i64 0):=Ja q1;have s6:W3.cell? ⟨w.heap.size+1,6,none⟩=some (.string ⟨#[]⟩):=Ja q1;have s7:W3.cell? ⟨w.heap.size+1,7,none⟩=some (.string ⟨#[]⟩):=Ja q1;have s8:W3.cell? ⟨w.heap.size+1,8,none⟩=some (.bool false):=Ja q1;have s9:W3.cell? ⟨w.heap.size+1,9,none⟩=some (.int .i64 0):=Ja q1;have ff:∀j,W3.frozen? ⟨w.heap.size+1,j,none⟩=false:=λj=>Qg _ _ _ _ _ q1;have f0:=ff 0;have f1:=ff 1;have f2:=ff 2;have f3:=ff 3;have f4:=ff 4;have f5:=ff 5;have f6:=ff 6;have f7:=ff 7;have f8:=ff 8;have f9:=ff 9;clear ff tA r0 r1 hm hd hW hW3 t3 q1 q2 hsz;go_enter func300,ntmps300;go_upto_region 1 with fail;rw[<-HW.o];go_upto_region 2 with fail;rw[<-HW3.o];go_wp2;obtain⟨p1,ts⟩:=HALL.o [.string e,.string n1,.string n2,.int .u64 (n3:Int),.int .u8 (n4:Int),.int .i64 n5,.string n6,.string n7,.bool met,.int .i64 ab] rfl;refine QJ (v:=.agg #[.string e,.string n1,.string n2,.int .u64 (n3:Int),.int .u8 (n4:Int),.int .i64 n5,.string n6,.string n7,.bool met,.int .i64 ab]) (Qq results300 _ _ (w.heap.size+1) 384 _ (0,0) _ rfl p1 underlying384 rfl (by kernel_rfl)) rfl ?_;exact⟨rfl,HT3.o.trans ts (λj hj=>.inr (by omega))⟩
theorem Jmd(wj:Int)(p:Nat)(root:BA)(w:World):
  Calls prog 229 #[.agg #[.int .i64 wj,.map (some p)],.string root] w λe w'=>e=.returned (.func (.func 299) #[] #[.pointer (some ⟨w.heap.size,0,none⟩),.pointer (some ⟨w.heap.size+1,0,none⟩)])/\w'=(w.alloc (.cells #[.int .i64 wj,.map (some p)] 264)).alloc (.cells #[.string root] 9):=by
 have hmf:∀(fn:Fn)(first cap:Array Value)(w:World),(Instr.makeFunc fn first cap).run prog w=.ok (.func fn first cap) w:=λ_ _ _ _=>rfl;go_enter func229,ntmps229;go_wp2;go_ret;exact⟨rfl,rfl⟩
def Yc(n0:Nat)(w:World)(v:Value)(l:List Spot):Prop:=w.ownsRow n0 384 10 v l.length (l.flatMap λs=>(spC s).toList)
theorem Jmj:(prog.info? 384).map (λi=>(i.zero,i.size,i.bytes))=some (some (.agg #[.string ⟨#[]⟩,.string ⟨#[]⟩,.string ⟨#[]⟩,.int .u64 0,.int .u8 0,.int .i64 0,.string ⟨#[]⟩,.string ⟨#[]⟩,.bool false,.int .i64 0]),10,120):=by kernel_rfl
theorem Jd8(h:Yc n0 w v l)(hn0:n0<=w.heap.size)(k:Nat)(x y:Spot)(cs:Array Value)(hcs:cs.toList=(spC x).toList++(spC y).toList)(hk:w.heap[k]? =some (.cells cs 384))(hl:l.length<=1000000001)(ty:TypeId):
  ∃v' w',(Builtin.append_ #[452,452] ty #[v,.slice (some ⟨k,0,none⟩) 2 2]).run prog w=.ok v' w'/\Yc n0 w' v' (l++[x,y])/\World.grownBy w w' v.ownBlock:=by
 obtain⟨i,hi,hp⟩:=Option.map_eq_some_iff.1 Jmj;simp only[Qw]at hp;obtain⟨hz,hsz,hby⟩:=hp;obtain⟨v',w',hr,h2,h3,_⟩:=run_append_own (P:=prog) w n0 452 ty 384 i _ 10 120 underlying452 hi hz hsz hby rfl (by omega) v l.length _ h ⟨k,0,none⟩ 2 2 ((spC x).toList++(spC y).toList) (by simp[spC]) (λj u hu=>by
  rw[Addr.add_lit];show w.cell? ⟨k,0+j,none⟩=some u;rw[Nat.zero_add,Ja hk,<-Array.getElem?_toList,hcs];exact hu) (λu hu=>by
  simp only[spC,List.cons_append,List.nil_append,List.mem_cons,QD,or_false]at hu
  rcases hu with rfl|rfl|rfl|rfl|rfl|rfl|rfl|rfl|rfl|rfl|rfl|rfl|rfl|rfl|rfl|rfl|rfl|rfl|rfl|rfl<;>rfl) (by simp only[maxLen];omega) (by omega) hn0
 refine⟨v',w',hr,?_,h3⟩;unfold Yc;rw[Qe,List.flatMap_append];simpa using h2
def ItS(n0:Nat)(A B:World):Prop:=Tch (λj=>n0<=j/\∃cs m,A.heap[j]? =some (.cells cs 384 m)) A B
structure KpS(p:Nat)(A B:World):Prop where
 size:A.heap.size<=B.heap.size
 row:∀(k:Nat)(cs:Array Value)(T:TypeId)(m:Nat×Nat),(T=384\/T=264)->A.heap[k]? =some (Obj.cells cs T m)->B.heap[k]? =some (.cells cs T m)
 map:∀o:Obj,A.heap[p]? =some o->B.heap[p]? =some o
theorem Yc.shape(h:Yc n0 w v l):∃a c,v=.slice a l.length c:=by
 obtain⟨_,⟨h,h0⟩|⟨g,cap,_,h,_⟩⟩:=h
 ·exact⟨none,0,by rw[h,h0]⟩
 ·exact⟨_,_,h⟩
theorem Yc.kp{p:Nat}(h:Yc n0 w v l)(k:KpS p w w'):Yc n0 w' v l:=by
 obtain⟨h1,h2⟩:=h;refine⟨h1,h2.imp_right ?_⟩;rintro⟨g,cap,cur,h3,h4,h5,h6⟩;exact⟨g,cap,cur,h3,h4,k.row _ _ _ _ (.inl rfl) h5,h6⟩
theorem Yc.next(h:Yc n0 w v l)(k:Tch NoB w w'):Yc n0 w' v l:=by
 obtain⟨h1,h2⟩:=h;refine⟨h1,h2.imp_right ?_⟩;rintro⟨g,cap,cur,h3,h4,h5,h6⟩;exact⟨g,cap,cur,h3,h4,(k.block _ (Jb h5) (λh=>h)).trans h5,h6⟩
theorem spC_len(s:Spot):(spC s).toList.length=10:=rfl
theorem Yc.it(h:Yc n0 w v l)(g:World.grownBy w w' v.ownBlock):ItS n0 w w':=
 (Tg g).mono λj hj=>.inl (by
  obtain⟨_,⟨h,_⟩|⟨gg,_,cur,h3,h4,h5,_⟩⟩:=h
  ·rw[h]at hj;cases hj
  ·rw[h3]at hj;simp only[Value.ownBlock,Qh]at hj;rw[hj];exact⟨h4,cur,_,h5⟩)
theorem Yc.pop(h:Yc n0 w v (l++[s])):∃g cap,v=.slice (some ⟨g,0,none⟩) (l.length+1) cap/\l.length+1<=cap/\cap<=maxLen/\(∀c (_:c<10),w.cell? ⟨g,l.length*10+c,none⟩=(spC s)[c]?)/\Yc n0 w (.slice (some ⟨g,0,none⟩) l.length cap) l:=by
 obtain⟨h1,⟨_,h0⟩|⟨g,cap,cur,rfl,hb,hrow,h2,h3,h4,h5⟩⟩:=h
 ·simp at h0
 ·simp only[Qe,Qp,Qv]at h1 h2 h5;have hfl:(l.flatMap λs=>(spC s).toList).length=l.length*10:=by
   rw[List.flatMap_append]at h1;simp only[Qe,QG,List.flatMap_nil,QC,spC_len]at h1;omega
  refine⟨g,cap,by simp,h2,h3,λc hc=>?_,hfl,.inr ⟨g,cap,cur,rfl,hb,hrow,by omega,h3,h4,?_⟩⟩
  ·rw[Ja hrow,<-Array.getElem?_toList];have e:(cur.toList.take ((l.length+1)*10))[l.length*10+c]? =cur.toList[l.length*10+c]? :=List.getElem?_take_of_lt (by omega);rw[<-e,h5,List.flatMap_append,Qz (by rw[hfl];omega),hfl,show l.length*10+c-l.length*10=c by omega];simp
  ·have:(cur.toList.take ((l.length+1)*10)).take (l.length*10)=cur.toList.take (l.length*10):=(by rw[List.take_take];congr 1;omega);rw[<-this,h5,List.flatMap_append,List.take_left' hfl]
theorem Yc.one{k:Nat}(hn:n0<=k)(hk:w.heap[k]? =some (.cells (spC s) 384)):Yc n0 w (.slice (some ⟨k,0,none⟩) 1 1) [s]:=
 ⟨rfl,.inr ⟨k,1,spC s,rfl,hn,hk,Ql _,by simp[maxLen],rfl,by simp[spC]⟩⟩

def ouV(o:Nat×Nat):Value:=.agg #[.int .u64 (o.1:Int),.int .u8 (o.2:Int)]
abbrev metE(m:List BA):List (Value×Value):=smE (λ_:Unit=>Value.agg #[]) (m.map λd=>(d,()))
abbrev outE(o:List (BA×(Nat×Nat))):List (Value×Value):=smE ouV o
theorem JaA(m:List BA):(m.map λd=>(d,())).map (·.1)=m:=by rw[List.map_map];exact List.map_id m
structure VwAt(base:Nat)(w:World)(vb pm po:Nat)(lv:Value)(v:Vw):Prop where
 row:w.heap[vb]? =some (.cells #[.map (some pm),.map (some po),lv] 270)
 met:MpAt w pm (metE v.met)
 outs:MpAt w po (outE v.outs)
 left:NOwn base w lv v.left
 nm:v.met.Nodup
 no:(v.outs.map (·.1)).Nodup
 ne:pm ≠ po
theorem VwAt.tch{v:Vw}{S:Nat->Prop}(h:VwAt base w vb pm po lv v)(k:Tch S w w')(hs:¬S vb/\¬S pm/\¬S po/\∀j,lv.ownBlock=some j->¬S j):VwAt base w' vb pm po lv v:=
 ⟨(k.block _ (Jb h.row) hs.1).trans h.row,h.met.next k hs.2.1,h.outs.next k hs.2.2.1,h.left.tch k hs.2.2.2,h.nm,h.no,h.ne⟩
theorem VwAt.next{v:Vw}(h:VwAt base w vb pm po lv v)(k:Tch NoB w w'):VwAt base w' vb pm po lv v:=h.tch k ⟨λe=>e,λe=>e,λe=>e,λ_ _ e=>e⟩
def VwB(vb pm po:Nat)(lv:Value)(j:Nat):Prop:=j=vb\/j=pm\/j=po\/some j=lv.ownBlock
theorem VwAt.apart{v:Vw}(h:VwAt base w vb pm po lv v):vb ≠ pm/\vb ≠ po/\∀j,lv.ownBlock=some j->j ≠ vb/\j ≠ pm/\j ≠ po:=by
 refine⟨λe=>?_,λe=>?_,λj hj=>?_⟩
 ·have:=h.row;rw[e,h.met]at this;cases this
 ·have:=h.row;rw[e,h.outs]at this;cases this
 ·obtain⟨_,cs,m,hr⟩:=h.left.own j hj;refine⟨λe=>?_,λe=>?_,λe=>?_⟩
  ·rw[e,h.row]at hr;simp only[Qh,Obj.cells.injEq]at hr;exact absurd hr.2.1 (by decide)
  ·rw[e,h.met]at hr;cases hr
  ·rw[e,h.outs]at hr;cases hr
theorem JcZ(E:Nat->Addr)(ab bit:Int)(w:World)(hE:Env E w):
  Calls prog 302 #[.int .i64 ab,.int .i64 bit] w λe w'=>Tch NoB w w'/\((ab<bit/\e=.returned .nilIface)\/(bit<=ab/\∃t u,e=.returned (.iface t u))):=by
 have c:=hE.form;clear hE
 by_cases h:bit<=ab
 ·have HH:Hid (bit<=ab):=h;go_enter func302,ntmps302;go_wp2_with fail;refine(Xl _ _ _ w).mono ?_;rintro _ _⟨rfl,rfl⟩;go_wp2;go_ret;exact⟨Ta _ _ _,.inr ⟨HH.o,_,_,rfl⟩⟩
 ·have HH:Hid (ab<bit):=(by omega:ab<bit)
  go_enter func302,ntmps302;go_wp2;go_ret;exact⟨Te _ _,by have:=HH.o;first|exact .inl ⟨this,rfl⟩|exact .inl rfl⟩
theorem JgM(base vb pm po:Nat)(lv:Value)(v:Vw)(k:BA)(a o:Nat)(w:World)(hV:VwAt base w vb pm po lv v)(hT:Er3 w):
  Calls prog 301 #[.pointer (some ⟨vb,0,none⟩),.agg #[.string k,.int .u64 (a:Int),.int .u8 (o:Int)]] w λe w'=>Tch (λj=>j=po) w w'/\((k∈v.outs.map (·.1)/\∃t u,e=.returned (.iface t u))\/(k ∉ v.outs.map (·.1)/\e=.returned .nilIface/\MpAt w' po (outE (v.outs++[(k,(a,o))])))):=by
 obtain⟨W,hW⟩:∃W,W=w.alloc (.cells #[.string k,.int .u64 (a:Int),.int .u8 (o:Int)] 256):=⟨_,rfl⟩
 have tA:Tch NoB w W:=by rw[hW];exact Ta _ _ _
 have r0:W.heap[w.heap.size]? =some (.cells #[.string k,.int .u64 (a:Int),.int .u8 (o:Int)] 256):=by rw[hW];exact Qf _ _
 have HW:Hid (W=_):=hW;have HTA:Hid (Tch NoB w W):=tA;have hVW:=hV.next tA;have HC:Hid (∀V,Tch NoB W V->V.cell? ⟨vb,1,none⟩=some (.map (some po))/\V.cell? ⟨w.heap.size,0,none⟩=some (.string k)/\V.cell? ⟨w.heap.size,1,none⟩=some (.int .u64 (a:Int))/\V.cell? ⟨w.heap.size,2,none⟩=some (.int .u8 (o:Int))):=λV hT=>by
  have q:=(hT.block _ (Jb r0) (λh=>h)).trans r0;exact⟨Ja (hVW.next hT).row,Ja q,Ja q,Ja q⟩
 have HVW:Hid (VwAt base W vb pm po lv v):=hVW;have HR0:Hid (W.heap[w.heap.size]? =_):=r0;have HER:Hid (∀V,Tch NoB W V->∃t u,V.cell? ⟨12,0,none⟩=some (.iface t u)):=λV hV=>((hT.tch tA noE).tch hV noE).1;obtain⟨d1,d2,d3,d4⟩:=HC.o W (Te _ _);clear tA r0 hW hVW hV hT
 by_cases hin:k∈v.outs.map (·.1)
 ·have HIN:Hid (k∈v.outs.map (·.1)):=hin;have HH:Hid (∀V,Tch NoB W V->Calls prog 238 #[.map (some po),.string k] V λe w'=>e=.returned (.bool true)/\Tch NoB V w'):=λV hT=>by
   obtain⟨⟨k',x'⟩,hq',rfl⟩:=QK.1 hin;exact JcK (Jce (enc:=ouV) Jew (HVW.o.next hT).outs HVW.o.no hq' true)
  clear hin;go_enter func301,ntmps301;go_upto_region 1 with fail;rw[<-HW.o];go_region_held3 (λV=>V.cell? ⟨vb,1,none⟩=some (.map (some po))/\V.cell? ⟨w.heap.size,0,none⟩=some (.string k)) (go_keep) ((go_at_call 238;refine(HH.o _ (Td _ _ 1)).mono ?_;rintro _ w4⟨rfl,ht4⟩;have HT4:Hid (Tch NoB W w4):=(Td NoB W 1).go ht4;obtain⟨e1,e2,e3,e4⟩:=HC.o _ HT4.o;clear ht4))
  all_goals obtain⟨t,u,hte⟩:=HER.o _ HT4.o;go_wp2_with fail;refine(Xl _ t u _).mono ?_;rintro _ _⟨rfl,rfl⟩;go_wp2;go_ret;exact⟨((HTA.o.go HT4.o).go (Ta _ _ _)).mono noE,.inl ⟨HIN.o,_,_,rfl⟩⟩
 ·have HIN:Hid (k ∉ v.outs.map (·.1)):=hin;have HH:Hid (∀V,Tch NoB W V->Calls prog 238 #[.map (some po),.string k] V λe w'=>e=.returned (.bool false)/\Tch NoB V w'):=λV hT=>JcK (JaW (enc:=ouV) Jew (HVW.o.next hT).outs hin true);clear hin;go_enter func301,ntmps301;go_upto_region 1 with fail;rw[<-HW.o];go_region_held3 (λV=>V.cell? ⟨vb,1,none⟩=some (.map (some po))/\V.cell? ⟨w.heap.size,0,none⟩=some (.string k)) (go_keep) ((go_at_call 238;refine(HH.o _ (Td _ _ 1)).mono ?_;rintro _ w4⟨rfl,ht4⟩;have HT4:Hid (Tch NoB W w4):=(Td NoB W 1).go ht4;obtain⟨e1,e2,e3,e4⟩:=HC.o _ HT4.o;clear ht4))
  all_goals
   have HT5:Hid (Tch NoB W w4.drew):=HT4.o.go (Td _ w4 1);obtain⟨hup,hmn⟩:=Jfv (enc:=ouV) (s:=k) (a:=(a,o)) Jew (HVW.o.next HT5.o).outs HIN.o;simp only[ouV]at hup;have hTN:Tch (λj=>j=po) w4.drew _:=Tch.setMp w4.drew po (smE ouV (v.outs++[(k,(a,o))]));have HTN:Hid (Tch (λj=>j=po) w4.drew _):=hTN;have HMN:Hid (MpAt _ po _):=hmn;have g1:(w4.drew.setMp po (smE ouV (v.outs++[(k,(a,o))]))).cell? ⟨vb,1,none⟩=some (.map (some po)):=(hTN.cell (p:=⟨vb,1,none⟩) (Array.getElem?_eq_some_iff.1 (HVW.o.next HT5.o).row).1 HVW.o.apart.2.1).trans e1;have hw0:¬w.heap.size=po:=λe=>by have:=HR0.o;rw[e,HVW.o.outs]at this;cases this
   have g2:(w4.drew.setMp po (smE ouV (v.outs++[(k,(a,o))]))).cell? ⟨w.heap.size,0,none⟩=some (.string k):=(hTN.cell (p:=⟨w.heap.size,0,none⟩) (Qr _ _ e2) hw0).trans e2;have g3:(w4.drew.setMp po (smE ouV (v.outs++[(k,(a,o))]))).cell? ⟨w.heap.size,1,none⟩=some (.int .u64 (a:Int)):=(hTN.cell (p:=⟨w.heap.size,1,none⟩) (Qr _ _ e3) hw0).trans e3;have g4:(w4.drew.setMp po (smE ouV (v.outs++[(k,(a,o))]))).cell? ⟨w.heap.size,2,none⟩=some (.int .u8 (o:Int)):=(hTN.cell (p:=⟨w.heap.size,2,none⟩) (Qr _ _ e4) hw0).trans e4;generalize w4.drew.setMp po (smE ouV (v.outs++[(k,(a,o))]))=w7 at *;clear hmn hTN hw0;go_upto_region 3 with fail;go_region_held3 (λV=>V.cell? ⟨vb,1,none⟩=some (.map (some po))/\V.cell? ⟨w.heap.size,0,none⟩=some (.string k)/\V.cell? ⟨w.heap.size,1,none⟩=some (.int .u64 (a:Int))/\V.cell? ⟨w.heap.size,2,none⟩=some (.int .u8 (o:Int))) (go_keep) (fail)
   all_goals go_wp2;go_ret;exact⟨((HTA.o.go HT5.o).mono noE).trans HTN.o (λ_ h=>.inl h),.inr ⟨HIN.o,rfl,HMN.o⟩⟩

theorem Jly(base vb pm po:Nat)(lv:Value)(v:Vw)(d:BA)(ab:Int)(w:World)(hV:VwAt base w vb pm po lv v)(hl:v.left.length<=1000000000)(hb:base<=w.heap.size):
  Calls prog 230 #[.pointer (some ⟨vb,0,none⟩),.agg #[.string d,.string ⟨#[]⟩,.string ⟨#[]⟩,.int .u64 0,.int .u8 0,.int .i64 0,.string ⟨#[]⟩,.string ⟨#[]⟩,.bool false,.int .i64 ab]] w λe w'=>e=.returned .nilIface/\(∃lv',VwAt base w' vb pm po lv' ⟨v.met,v.outs,v.left++[d]⟩)/\Tch (VwB vb pm po lv) w w':=by
 obtain⟨W,hW⟩:∃W,W=w.alloc (.cells #[.string d,.string ⟨#[]⟩,.string ⟨#[]⟩,.int .u64 0,.int .u8 0,.int .i64 0,.string ⟨#[]⟩,.string ⟨#[]⟩,.bool false,.int .i64 ab] 384):=⟨_,rfl⟩
 have tA:Tch NoB w W:=by rw[hW];exact Ta _ _ _
 have r0:W.heap[w.heap.size]? =some (.cells #[.string d,.string ⟨#[]⟩,.string ⟨#[]⟩,.int .u64 0,.int .u8 0,.int .i64 0,.string ⟨#[]⟩,.string ⟨#[]⟩,.bool false,.int .i64 ab] 384):=by rw[hW];exact Qf _ _
 have HW:Hid (W=_):=hW;have c8:W.cell? ⟨w.heap.size,8,none⟩=some (.bool false):=Ja r0;have c0:W.cell? ⟨w.heap.size,0,none⟩=some (.string d):=Ja r0;have hVW:=hV.next tA;obtain⟨a,c,hlv⟩:=hV.left.shape;generalize hn0:v.left.length=n0 at hlv;have s2:W.cell? ⟨vb,2,none⟩=some lv:=Ja hVW.row;obtain⟨WA,hWA⟩:∃(WA:World),WA=W.drew.alloc (.cells #[.string d] 9):=⟨_,rfl⟩
 have tWA:Tch NoB W WA:=by rw[hWA];exact(Td NoB W 1).go (Ta _ _ _)
 have hVA:=hVW.next tWA;have hkA:WA.heap[W.heap.size]? =some (.cells #[.string d] 9):=by rw[hWA];exact Qf W.drew _
 obtain⟨lv',w6,hrun,hown,hg⟩:=Xz hVA.left W.heap.size d (Ja hkA) 58 (by omega) (by have:=tA.size;have:=tWA.size;omega);have t6:Tch (λj=>some j=lv.ownBlock) WA w6:=Tg hg;have hap:=hVA.apart;have hr6:w6.heap[vb]? =some (.cells #[.map (some pm),.map (some po),lv] 270):=(t6.block _ (Jb hVA.row) (λe=>(hap.2.2 _ e.symm).1 rfl)).trans hVA.row;have s6:w6.cell? ⟨vb,2,none⟩=some lv:=Ja hr6;have f6:w6.frozen? ⟨vb,2,none⟩=false:=Qg _ _ _ _ _ hr6;have z0:w6.cell? ⟨w.heap.size,0,none⟩=some (.string d):=by
  have h1:=(tWA.block _ (Jb r0) (λh=>h)).trans r0;exact Ja ((t6.block _ (Jb h1) (λe=>by
   obtain⟨_,cs,m,hr⟩:=hVA.left.own _ e.symm;rw[h1]at hr;simp only[Qh,Obj.cells.injEq]at hr;exact absurd hr.2.1 (by decide))).trans h1)
 have y0:WA.cell? ⟨w.heap.size,0,none⟩=some (.string d):=Ja ((tWA.block _ (Jb r0) (λh=>h)).trans r0);have yA:WA.cell? ⟨vb,2,none⟩=some lv:=Ja hVA.row;obtain⟨W7,hW7⟩:∃W7,W7=w6.setCell ⟨vb,2,none⟩ lv':=⟨_,rfl⟩
 have e7:W7=w6.setRow vb #[.map (some pm),.map (some po),lv']:=by rw[hW7,Qj w6 vb 2 _ _ (0,0) _ hr6];rfl
 have t7:Tch (λj=>j=vb) w6 W7:=by rw[e7];exact Ts _ _ _
 have hr7:W7.heap[vb]? =some (.cells #[.map (some pm),.map (some po),lv'] 270):=by rw[e7];exact Qi _ _ _ _ _ _ hr6
 have HEND:Hid (VwAt base W7 vb pm po lv' ⟨v.met,v.outs,v.left++[d]⟩/\Tch (VwB vb pm po lv) w W7):=by
  refine⟨⟨hr7,(hVA.met.next t6 (λe=>(hap.2.2 _ e.symm).2.1 rfl)).next t7 (λe=>hap.1 e.symm),(hVA.outs.next t6 (λe=>(hap.2.2 _ e.symm).2.2 rfl)).next t7 (λe=>hap.2.1 e.symm),hown.tch t7 (λj hj e=>?_),hV.nm,hV.no,hV.ne⟩,?_⟩
  ·obtain⟨_,cs,m,hr⟩:=hown.own j hj;rw[e,hr6]at hr;simp only[Qh,Obj.cells.injEq]at hr;exact absurd hr.2.1 (by decide)
  ·exact(((tA.go tWA).mono noE).trans t6 (λj hj=>.inl (.inr (.inr (.inr hj))))).trans t7 (λj hj=>.inl (.inl hj))
 obtain⟨a',c',hlv'⟩:=hown.shape;generalize (v.left++[d]).length=n' at hlv';subst hlv' hlv;have HW7:Hid (w6.setCell ⟨vb,2,none⟩ (.slice a' n' c')=W7):=hW7.symm;have HWA2:Hid ((W.alloc (.cells #[.string d] 9)).drew=WA):=(by rw[hWA];rfl:(W.alloc (.cells #[.string d] 9)).drew=WA)
 have d0:W.drew.cell? ⟨vb,2,none⟩=some (.slice a n0 c)/\W.drew.cell? ⟨w.heap.size,0,none⟩=some (.string d):=⟨s2,c0⟩
 clear tA r0 hW hVW hWA tWA hVA hkA hown hg t6 hap hr6 hW7 e7 t7 hr7 hV hl hb hn0;go_enter func230,ntmps230;go_upto_region 1 with fail;rw[<-HW.o];go_upto_region 2 with fail;refine JU (S:=λW=>W.cell? ⟨vb,2,none⟩=some (.slice a n0 c)/\W.cell? ⟨w.heap.size,0,none⟩=some (.string d)) 12 (by simp) (by kernel_rfl) (by kernel_rfl) d0 ?_;intro hHeld l o hl ho;simp only[List.dropLast_cons_cons,List.dropLast_singleton]at hl;simp only[List.getLast_cons_cons,List.getLast_singleton]at ho;subst hl;subst ho;simp only[Qp,Qv,Nat.reduceAdd];refine tkL 0 ?_;simp only[Act.put,Qa,Qb,Qc];refine tkL 1 ?_;simp only[Act.put,Qa,Qb,Qc];refine tkL 2 ?_;simp only[Act.put,Qa,Qb,Qc];refine tkL 3 ?_;simp only[Act.put,Qa,Qb,Qc];refine tkL 4 ?_;simp only[Act.put,Qa,Qb,Qc];refine tkL 5 ?_;simp only[Act.put,Qa,Qb,Qc];refine tkL 6 ?_;simp only[Act.put,Qa,Qb,Qc];refine Zr (i:=7) rfl (by kernel_rfl) (λK hK=>?_);go_simp;rw[HWA2.o];refine hK.out _ _ ⟨yA,y0⟩ (λhHeld8=>?_);clear hK K hHeld
 try simp only[Act.put,Qa,Qb,Qc]
 refine Zr (i:=8) rfl (by kernel_rfl) (λK hK=>?_);refine Yo rfl _ _ 58 rfl rfl rfl hrun ?_;refine hK.out _ _ ⟨s6,z0⟩ (λhHeld9=>?_);clear hK K hHeld8
 try simp only[Act.put,Qa,Qb,Qc]
 refine tkL 9 ?_;simp only[Act.put,Qa,Qb,Qc];refine tkL 10 ?_;simp only[Act.put,Qa,Qb,Qc];refine wpAnyH_done (by kernel_rfl) ?_ _;show wpList _ _ _ [_] _ _;go_wp2;go_ret;rw[HW7.o];exact⟨rfl,⟨_,HEND.o.1⟩,HEND.o.2⟩
theorem JmR(E:Nat->Addr)(base vb pm po:Nat)(lv:Value)(v:Vw)(d:BA)(ab:Int)(n:Jj)(w:World)(hV:VwAt base w vb pm po lv v)(hE:Env E w)(hT:Er3 w)(hK:18<=pm/\18<=po):
  Calls prog 230 #[.pointer (some ⟨vb,0,none⟩),.agg #[.string d,.string n.1,.string n.2.1,.int .u64 (n.2.2.1.1:Int),.int .u8 (n.2.2.1.2:Int),.int .i64 n.2.2.2.1,.string n.2.2.2.2.1,.string n.2.2.2.2.2,.bool true,.int .i64 ab]] w λe w'=>Tch (λj=>j=pm\/j=po) w w'/\((∃v',XM v ⟨d,some n,ab⟩ (some v')/\e=.returned .nilIface/\VwAt base w' vb pm po lv v')\/(XM v ⟨d,some n,ab⟩ none/\∃t u,e=.returned (.iface t u))):=by
 obtain⟨n1,n2,⟨n3,n4⟩,n5,n6,n7⟩:=n;dsimp only;obtain⟨W,hW⟩:∃W,W=w.alloc (.cells #[.string d,.string n1,.string n2,.int .u64 (n3:Int),.int .u8 (n4:Int),.int .i64 n5,.string n6,.string n7,.bool true,.int .i64 ab] 384):=⟨_,rfl⟩
 have tA:Tch NoB w W:=by rw[hW];exact Ta _ _ _
 have r0:W.heap[w.heap.size]? =some (.cells #[.string d,.string n1,.string n2,.int .u64 (n3:Int),.int .u8 (n4:Int),.int .i64 n5,.string n6,.string n7,.bool true,.int .i64 ab] 384):=by rw[hW];exact Qf _ _
 have HW:Hid (W=_):=hW;have HTA:Hid (Tch NoB w W):=tA;have hVW:=hV.next tA;have c8:W.cell? ⟨w.heap.size,8,none⟩=some (.bool true):=Ja r0;have hwp:w.heap.size ≠ pm:=λe=>by rw[e,hVW.met]at r0;cases r0
 have hwo:w.heap.size ≠ po:=λe=>by rw[e,hVW.outs]at r0;cases r0
 have HC:Hid (∀V,Tch (λj=>j=pm\/j=po) W V->V.cell? ⟨vb,0,none⟩=some (.map (some pm))/\V.cell? ⟨w.heap.size,0,none⟩=some (.string d)/\V.cell? ⟨w.heap.size,1,none⟩=some (.string n1)/\V.cell? ⟨w.heap.size,2,none⟩=some (.string n2)/\V.cell? ⟨w.heap.size,3,none⟩=some (.int .u64 (n3:Int))/\V.cell? ⟨w.heap.size,4,none⟩=some (.int .u8 (n4:Int))/\V.cell? ⟨w.heap.size,5,none⟩=some (.int .i64 n5)/\V.cell? ⟨w.heap.size,9,none⟩=some (.int .i64 ab)):=λV hT=>by
  have q:=(hT.block _ (Jb r0) (λh=>h.elim hwp hwo)).trans r0;have q2:=(hT.block _ (Jb hVW.row) (λh=>h.elim hVW.apart.1 hVW.apart.2.1)).trans hVW.row;exact⟨Ja q2,Ja q,Ja q,Ja q,Ja q,Ja q,Ja q,Ja q⟩
 have HVW:Hid (VwAt base W vb pm po lv v):=hVW;have hKj:∀j,j=pm\/j=po->18<=j:=λj hj=>by rcases hj with rfl|rfl;exact hK.1;exact hK.2
 have HER:Hid (∀V,Tch (λj=>j=pm\/j=po) W V->Env E V/\Er3 V):=λV hV=>⟨(hE.tch tA noE).tch hV hKj,(hT.tch tA noE).tch hV hKj⟩
 have HNO:Hid (∀V,Tch NoB W V->Tch (λj=>j=pm\/j=po) W V):=λV h=>h.mono noE;obtain⟨d1,d2,d3,_⟩:=HC.o W (Te _ _);clear tA r0 hW hVW hE hT hwp hwo hKj hK
 by_cases hin:d∈v.met
 ·have HIN:Hid (d∈v.met):=hin;have HH:Hid (∀V,Tch NoB W V->Calls prog 231 #[.map (some pm),.string d] V λe w'=>e=.returned (.bool true)/\Tch NoB V w'):=λV hT=>JcJ (Jce (enc:=λ_:Unit=>Value.agg #[]) (a:=()) Jgt (HVW.o.next hT).met (by rw[JaA];exact HVW.o.nm) (QK.2 ⟨d,hin,rfl⟩) true);clear hin;go_enter func230,ntmps230;go_upto_region 1 with fail;rw[<-HW.o];go_upto_region 4 with fail;go_region_held3 (λV=>V.cell? ⟨vb,0,none⟩=some (.map (some pm))/\V.cell? ⟨w.heap.size,0,none⟩=some (.string d)) (go_keep) ((go_at_call 231;refine(HH.o _ (Td _ _ 1)).mono ?_;rintro _ w4⟨rfl,ht4⟩;have HT4:Hid (Tch NoB W w4):=(Td NoB W 1).go ht4;obtain⟨e1,e2,e3,_⟩:=HC.o _ (HNO.o _ HT4.o);clear ht4))
  all_goals obtain⟨t,u,hte⟩:=(HER.o _ (HNO.o _ HT4.o)).2.1;go_wp2_with fail;refine(Xl _ t u _).mono ?_;rintro _ _⟨rfl,rfl⟩;go_wp2;go_ret;exact⟨((HTA.o.go HT4.o).go (Ta _ _ _)).mono noE,.inr ⟨.inr ⟨_,rfl,.inl ⟨HIN.o,rfl⟩⟩,_,_,rfl⟩⟩
 ·have HIN:Hid (d ∉ v.met):=hin;have HH:Hid (∀V,Tch NoB W V->Calls prog 231 #[.map (some pm),.string d] V λe w'=>e=.returned (.bool false)/\Tch NoB V w'):=λV hT=>JcJ (JaW (enc:=λ_:Unit=>Value.agg #[]) Jgt (HVW.o.next hT).met (by rw[JaA];exact hin) true);clear hin;go_enter func230,ntmps230;go_upto_region 1 with fail;rw[<-HW.o];go_upto_region 4 with fail;go_region_held3 (λV=>V.cell? ⟨vb,0,none⟩=some (.map (some pm))/\V.cell? ⟨w.heap.size,0,none⟩=some (.string d)) (go_keep) ((go_at_call 231;refine(HH.o _ (Td _ _ 1)).mono ?_;rintro _ w4⟨rfl,ht4⟩;have HT4:Hid (Tch NoB W w4):=(Td NoB W 1).go ht4;obtain⟨e1,e2,e3,_⟩:=HC.o _ (HNO.o _ HT4.o);clear ht4))
  all_goals
   have HT5:Hid (Tch NoB W w4.drew):=HT4.o.go (Td _ w4 1);obtain⟨hup,hmn⟩:=Jfv (enc:=λ_:Unit=>Value.agg #[]) (s:=d) (a:=()) Jgt (HVW.o.next HT5.o).met (by rw[JaA];exact HIN.o);have hTN:Tch (λj=>j=pm) w4.drew _:=Tch.setMp w4.drew pm (smE (λ_:Unit=>Value.agg #[]) ((v.met.map λd=>(d,()))++[(d,())]));generalize w4.drew.setMp pm (smE (λ_:Unit=>Value.agg #[]) ((v.met.map λd=>(d,()))++[(d,())]))=w7 at *;have HT7:Hid (Tch (λj=>j=pm\/j=po) W w7):=(HNO.o _ HT5.o).trans hTN (λ_ h=>.inl (.inl h));have HVN:Hid (VwAt base w7 vb pm po lv ⟨v.met++[d],v.outs,v.left⟩):=by
    have h5:=HVW.o.next HT5.o;have hap:=HVW.o.apart;refine⟨(hTN.block _ (Jb h5.row) hap.1).trans h5.row,?_,h5.outs.next hTN (λe=>HVW.o.ne e.symm),h5.left.tch hTN (λj hj=>(hap.2.2 j hj).2.1),?_,HVW.o.no,HVW.o.ne⟩
    ·have:metE (v.met++[d])=smE (λ_:Unit=>Value.agg #[]) ((v.met.map λd=>(d,()))++[(d,())]):=(by simp[metE]);rw[this];exact hmn
    ·rw[List.nodup_append];refine⟨HVW.o.nm,by simp,?_⟩;rintro x hx y hy rfl;rw[Qt]at hy;exact HIN.o (hy ▸ hx)
   obtain⟨g1,g2,g3,g4,g5,g6,g7,g8⟩:=HC.o _ HT7.o;have HTW:Hid (Tch (λj=>j=pm\/j=po) w w7):=(HTA.o.mono noE).trans HT7.o (λ_ h=>.inl h);obtain⟨hEn,hEr⟩:=HER.o _ HT7.o;have HCB:Hid (Calls prog 302 #[.int .i64 ab,.int .i64 n5] w7 _):=JcZ E ab n5 w7 hEn;have HSL:Hid (Calls prog 301 #[.pointer (some ⟨vb,0,none⟩),.agg #[.string n2,.int .u64 (n3:Int),.int .u8 (n4:Int)]] w7 _):=JgM base vb pm po lv _ n2 n3 n4 w7 HVN.o hEr;clear hmn hTN hEn hEr;go_upto_region 6 with fail;go_region_held3 (λV=>V.cell? ⟨vb,0,none⟩=some (.map (some pm))/\V.cell? ⟨w.heap.size,0,none⟩=some (.string d)) (go_keep) (fail)
   all_goals
    by_cases hL:n1=⟨#[76]⟩
    ·subst hL;go_wp2_with fail;refine HSL.o.mono ?_;rintro _ w8⟨ht8,⟨hk,t,u,rfl⟩|⟨hk,rfl,hmp⟩⟩
     ·have HK:Hid _:=hk;have HT8:Hid (Tch (λj=>j=po) w7 w8):=ht8;clear ht8 hk;go_wp2;go_ret;exact⟨HTW.o.trans HT8.o (λ_ h=>.inl (.inr h)),.inr ⟨.inr ⟨_,rfl,.inr ⟨HIN.o,.inl ⟨rfl,.inl ⟨HK.o,rfl⟩⟩⟩⟩,_,_,rfl⟩⟩
     ·have HK:Hid (n2 ∉ v.outs.map (·.1)):=hk;have HT8:Hid (Tch (λj=>j=po) w7 w8):=ht8;have HV8:Hid (VwAt base w8 vb pm po lv ⟨v.met++[d],v.outs++[(n2,(n3,n4))],v.left⟩):=by
       have h7:=HVN.o;have hap:=h7.apart;refine⟨(ht8.block _ (Jb h7.row) hap.2.1).trans h7.row,h7.met.next ht8 h7.ne,hmp,h7.left.tch ht8 (λj hj=>(hap.2.2 j hj).2.2),h7.nm,?_,h7.ne⟩;rw[List.map_append,List.nodup_append];refine⟨h7.no,by simp,?_⟩;rintro x hx y hy rfl;simp only[List.map_cons,List.map_nil,Qt]at hy;exact hk (hy ▸ hx)
      clear ht8 hk hmp;go_wp2;go_ret;exact⟨HTW.o.trans HT8.o (λ_ h=>.inl (.inr h)),.inl ⟨_,.inr ⟨_,rfl,.inr ⟨HIN.o,.inl ⟨rfl,.inr ⟨HK.o,rfl⟩⟩⟩⟩,rfl,HV8.o⟩⟩
    ·by_cases hN:n1=⟨#[78]⟩
     ·subst hN;go_wp2_with fail;refine HCB.o.mono ?_;rintro _ w8⟨ht8,⟨hk,rfl⟩|⟨hk,t,u,rfl⟩⟩
      ·have HK:Hid (ab<n5):=hk;have HT8:Hid (Tch NoB w7 w8):=ht8;clear ht8 hk;go_wp2;go_ret;exact⟨HTW.o.go HT8.o,.inl ⟨_,.inr ⟨_,rfl,.inr ⟨HIN.o,.inr (.inl ⟨rfl,.inr ⟨HK.o,rfl⟩⟩)⟩⟩,rfl,HVN.o.next HT8.o⟩⟩
      ·have HK:Hid (n5<=ab):=hk;have HT8:Hid (Tch NoB w7 w8):=ht8;clear ht8 hk;go_wp2;go_ret;exact⟨HTW.o.go HT8.o,.inr ⟨.inr ⟨_,rfl,.inr ⟨HIN.o,.inr (.inl ⟨rfl,.inl ⟨HK.o,rfl⟩⟩)⟩⟩,_,_,rfl⟩⟩
     ·have HL:Hid (¬n1=⟨#[76]⟩/\¬n1=⟨#[78]⟩):=⟨hL,hN⟩
      have hL2:=Jb6 hL;have hN2:=Jb6 hN;go_wp2;go_ret;exact⟨HTW.o,.inl ⟨_,.inr ⟨_,rfl,.inr ⟨HIN.o,.inr (.inr ⟨HL.o.1,HL.o.2,rfl⟩)⟩⟩,rfl,HVN.o⟩⟩
theorem JmQ(E:Nat->Addr)(base vb pm po:Nat)(lv:Value)(v:Vw)(s:Spot)(w:World)(hV:VwAt base w vb pm po lv v)(hl:v.left.length<=1000000000)(hb:base<=w.heap.size)(hE:Env E w)(hT:Er3 w)(hK:18<=pm/\18<=po):
  Calls prog 230 #[.pointer (some ⟨vb,0,none⟩),.agg (spC s)] w λe w'=>Tch (VwB vb pm po lv) w w'/\((∃v' lv',XM v s (some v')/\e=.returned .nilIface/\VwAt base w' vb pm po lv' v')\/(XM v s none/\∃t u,e=.returned (.iface t u))):=by
 obtain⟨d,nd,ab⟩:=s
 cases nd with
 | none=>
  refine(Jly base vb pm po lv v d ab w hV hl hb).mono ?_;rintro e w'⟨rfl,⟨lv',h⟩,ht⟩;exact⟨ht,.inl ⟨_,lv',.inl ⟨rfl,rfl⟩,rfl,h⟩⟩
 | some n=>
  refine(JmR E base vb pm po lv v d ab n w hV hE hT hK).mono ?_;rintro e w'⟨ht,h⟩;refine⟨ht.mono (λj hj=>.inl (hj.elim (λh=>.inr (.inl h)) (λh=>.inr (.inr (.inl h))))),?_⟩
  rcases h with⟨v',h1,h2,h3⟩|h
  ·exact .inl ⟨v',lv,h1,h2,h3⟩
  ·exact .inr h
