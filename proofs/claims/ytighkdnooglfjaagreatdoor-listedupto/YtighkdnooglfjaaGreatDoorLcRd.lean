import Derived.Test.YtighkdnooglfjaaGreatDoorLcDig
namespace Go.Proofs.YtighkdnooglfjaaGreatDoor
open Tryz
set_option maxRecDepth 100000
set_option maxHeartbeats 1000000
open Go.RowKit

variable {wj:Int}{done news:List UInt8}{xs:List Value}{b k:Nat}{E:Nat->Addr}{o:Obj}{g g1 g2:Option Nat}{p p2:PS}{e err v v1:Value}{w w' w1 w2 w3:World}
theorem JlP(l:List UInt8)(n:Nat):((⟨l.toArray⟩:BA).extract n (⟨l.toArray⟩:BA).size)=⟨(l.drop n).toArray⟩:=by
 apply ByteArray.ext;have:(⟨l.toArray⟩:BA).size=l.length:=by simp[ByteArray.size]
 rw[this,ByteArray.data_extract];apply Array.ext';simp[List.extract_eq_take_drop];exact QR (by simp)
theorem JlQ(l:List UInt8)(n:Nat):((⟨l.toArray⟩:BA).extract 0 n)=⟨(l.take n).toArray⟩:=by
 apply ByteArray.ext;rw[ByteArray.data_extract];apply Array.ext';simp
theorem JA(l:List UInt8):(⟨l.toArray⟩:BA).size=l.length:=by simp[ByteArray.size]

theorem JmV(l:List UInt8)(a b:Nat):((⟨l.toArray⟩:BA).extract a b)=⟨((l.take b).drop a).toArray⟩:=by
 apply ByteArray.ext;rw[ByteArray.data_extract];apply Array.ext';simp[List.extract_eq_take_drop,List.drop_take]

theorem Jlu(b:Nat)(wj:Int)(err:Value)(pre rest:List UInt8)(k:Nat)(w:World)(hp:Jc w b none wj err (.rd pre rest))(hk:k<=pre.length):
  Calls prog 384 #[.pointer (some ⟨b,0,none⟩),.int .i64 (k:Int)] w λe w'=>e=.returned (.string ⟨(pre.drop k).toArray⟩)/\∃n,w'=w.drewN n:=by
 have hrow:=hp.2;obtain⟨-, -, -,c3,c4⟩:=rows hrow;have hsz:pre.length<=(⟨(pre++rest).toArray⟩:BA).size:=by rw[JA,Qe];omega
 have hx:(⟨(pre++rest).toArray⟩:BA).extract k pre.length=⟨(pre.drop k).toArray⟩:=by rw[JmV,List.take_left'];rfl
 generalize (⟨(pre.drop k).toArray⟩:BA)=rt at *;generalize (⟨(pre++rest).toArray⟩:BA)=r at *;generalize pre.length=n at *;go_enter func384,ntmps384;go_wp2;go_region
 all_goals go_wp2
 all_goals go_ret
 all_goals exact⟨rfl,1,rfl⟩

theorem Jdo(E:Nat->Addr)(b:Nat)(wj:Int)(err x:Value)(pre rest:List UInt8)(n:Nat)(w:World)(hE:Env E w)(hp:Jc w b none wj err (.rd pre rest))(hb:pre.length+rest.length<=10000000000000)(hn:rest.length<n):
  Calls prog 385 #[.pointer (some ⟨b,0,none⟩),x,.int .i64 (n:Int)] w λe w'=>e=.returned (.tuple #[.string ⟨#[]⟩,eV E 7])/\∃k,w'=w.drewN k:=by
 have hrow:=hp.2;obtain⟨-, -, -,c3,c4⟩:=rows hrow;have hf:=hE.form;have hsz:(⟨(pre++rest).toArray⟩:BA).size=pre.length+rest.length:=by rw[JA,Qe]
 generalize (⟨(pre++rest).toArray⟩:BA)=r at *;have hlt:(r.size:Int)-(pre.length:Int)<(n:Int):=by omega
 have hwr:IntKind.i64.wrap ((r.size:Int)-(pre.length:Int))=(r.size:Int)-(pre.length:Int):=by simp[IntKind.wrap,IntKind.bits,IntKind.signed];omega
 generalize pre.length=m at *;go_enter func385,ntmps385;go_wp2;go_region
 all_goals go_wp2
 all_goals go_region
 all_goals go_wp2
 all_goals go_ret2
 all_goals exact⟨rfl,2,rfl⟩

theorem Jlt{pre rest:List UInt8}(n:Nat)(hp:Jc w b none wj err (.rd pre rest))(hn:n<=rest.length):
  Jc (w.setCell ⟨b,4,none⟩ (.int .i64 ((pre.length:Int)+(n:Int)))) b none wj err (.rd (pre++rest.take n) (rest.drop n))/\Tch (λk=>k=b) w (w.setCell ⟨b,4,none⟩ (.int .i64 ((pre.length:Int)+(n:Int)))):=by
 have hrow:=hp.2;have h1:=Qj w b 4 _ _ (0,0) (.int .i64 ((pre.length:Int)+(n:Int))) hrow;have r1:=Qi w b _ (#[.iface 170 (.pointer (some ⟨b,0,none⟩)),.int .i64 wj,err,.string ⟨(pre++rest).toArray⟩,.int .i64 (pre.length:Int)].setIfInBounds 4 (.int .i64 ((pre.length:Int)+(n:Int)))) _ _ hrow;rw[h1];refine⟨⟨rfl,?_⟩,Ts _ _ _⟩;rw[r1,Qs,List.take_append_drop];have:((pre++rest.take n).length:Int)=(pre.length:Int)+(n:Int):=by rw[Qe,QB];omega
 rw[this];rfl
theorem Jdp(b:Nat)(wj:Int)(err x:Value)(pre rest:List UInt8)(n:Nat)(w:World)(hp:Jc w b none wj err (.rd pre rest))(hb:pre.length+rest.length<=10000000000000)(hn:n<=rest.length):
  Calls prog 385 #[.pointer (some ⟨b,0,none⟩),x,.int .i64 (n:Int)] w λe w'=>e=.returned (.tuple #[.string ⟨(rest.take n).toArray⟩,.nilIface])/\Jc w' b none wj err (.rd (pre++rest.take n) (rest.drop n))/\Tch (λk=>k=b) w w':=by
 have hrow:=hp.2;obtain⟨-, -, -,c3,c4⟩:=rows hrow;have f4:w.frozen? ⟨b,4,none⟩=false:=Qg _ _ _ _ _ hrow;have hsz:(⟨(pre++rest).toArray⟩:BA).size=pre.length+rest.length:=by rw[JA,Qe]
 obtain⟨q1,q2⟩:=Jlt n hp hn;have HS:Hid (∀k:Nat,Calls prog 384 #[.pointer (some ⟨b,0,none⟩),.int .i64 (pre.length:Int)] ((w.drewN k).setCell ⟨b,4,none⟩ (.int .i64 ((pre.length:Int)+(n:Int)))) λe w'=>e=.returned (.string ⟨(rest.take n).toArray⟩)/\∃m,w'=((w.drewN k).setCell ⟨b,4,none⟩ (.int .i64 ((pre.length:Int)+(n:Int)))).drewN m):=λk=>by
  have:=Jlu b wj err (pre++rest.take n) (rest.drop n) pre.length ((w.drewN k).setCell ⟨b,4,none⟩ (.int .i64 ((pre.length:Int)+(n:Int)))) (Jlt (w:=w.drewN k) n hp hn).1 (by rw[Qe];omega);rw[List.drop_left']at this
  ·exact this
  ·rfl
 have Q1:Hid (∀k:Nat,_):=λk=>Jlt (w:=w.drewN k) n hp hn;generalize (⟨(rest.take n).toArray⟩:BA)=rt at *;generalize (⟨(pre++rest).toArray⟩:BA)=r at *;have hlt:¬(r.size:Int)-(pre.length:Int)<(n:Int):=by omega
 have hwr:IntKind.i64.wrap ((r.size:Int)-(pre.length:Int))=(r.size:Int)-(pre.length:Int):=by simp[IntKind.wrap,IntKind.bits,IntKind.signed];omega
 have hws:IntKind.i64.wrap ((pre.length:Int)+(n:Int))=(pre.length:Int)+(n:Int):=by simp[IntKind.wrap,IntKind.bits,IntKind.signed];omega
 generalize hm:(pre.length:Int)=m at *;have HM:Hid _:=hm;go_enter func385,ntmps385;go_wp2;go_region;go_wp2_with fail;refine(HS 1).mono ?_;rintro _ _⟨rfl,k,rfl⟩;obtain⟨q1,q2⟩:=Q1 1;have R1:Hid (Jc _ _ _ _ _ _):=q1;have R2:Hid (Tch _ _ _):=q2;go_wp2;go_ret2;exact⟨rfl,R1.o,((Td _ w 1).trans R2.o (λj h=>.inl h)).trans (Td NoB _ k) (λj h=>h.elim)⟩
theorem JjZ(s:BA)(k:Nat)(h:k<s.size):s.data.toList.take (k+1)=s.data.toList.take k++[s[k]]:=by
 rw[QQ (by simpa using h)];rfl
def numL(l:List UInt8):Nat:=l.foldl (λn c=>n*256+c.toNat) 0
theorem JaR(l:List UInt8)(c:UInt8):numL (l++[c])=numL l*256+c.toNat:=by simp[numL]
theorem JkU(l:List UInt8):∀a:Nat,l.foldl (λn c=>n*256+c.toNat) a<(a+1)*256 ^ l.length:=by
 induction l with
 | nil=>intro a;simp
 | cons c l ih=>
  intro a;have hc:=UInt8.toNat_lt c;have h1:=ih (a*256+c.toNat);rw[List.foldl_cons,Qp,Nat.pow_succ];have h2:(a*256+c.toNat+1)*256 ^ l.length<=((a+1)*256)*256 ^ l.length:=Nat.mul_le_mul_right _ (by omega);have h3:(a+1)*(256 ^ l.length*256)=((a+1)*256)*256 ^ l.length:=by rw[Nat.mul_comm (256 ^ l.length) 256,Nat.mul_assoc]
  omega
theorem JcQ(l:List UInt8):numL l<256 ^ l.length:=by have:=JkU l 0;simpa [numL]using this
theorem JI(x:Int)(h0:0<=x)(h:x<18446744073709551616):IntKind.u64.wrap x=x:=by
 simp[IntKind.wrap,IntKind.bits,IntKind.signed];omega
theorem JmL(x:Nat)(c:UInt8)(hx:x<72057594037927936):bits .or .u64 ((x:Int)*256) (IntKind.u64.wrap (c.toNat:Int))=((x*256+c.toNat:Nat):Int):=by
 have hc:c.toNat<256:=UInt8.toNat_lt c;have e1:(x:Int)*256=((x*256:Nat):Int):=by omega
 rw[e1,JI _ (by omega) (by omega),u64_or_nat _ _ (by omega) (by omega),nat_join 8 (x*256) c.toNat (by omega) (by omega)]

theorem Jfq(E:Nat->Addr)(b:Nat)(wj:Int)(err x:Value)(pre rest:List UInt8)(n:Nat)(w:World)(hE:Env E w)(hp:Jc w b none wj err (.rd pre rest))(hb:pre.length+rest.length<=10000000000000)(hn:rest.length<n):
  Calls prog 382 #[.pointer (some ⟨b,0,none⟩),x,.int .i64 (n:Int)] w λe w'=>e=.returned (.tuple #[.int .u64 0,eV E 7])/\∃k,w'=w.drewN k:=by
 go_enter func382,ntmps382;go_wp2_with fail;refine(Jdo E b wj err _ pre rest n _ hE hp hb hn).mono ?_;rintro _ w1⟨rfl,k,rfl⟩;clear hE hp;go_wp2;go_loop [10,20] (λa i=>a=.int .u64 0/\i=.int .i64 0) (λ_ _=>0)
 case atStart=>exact⟨rfl,rfl⟩
 case round=>obtain⟨rfl,rfl⟩:=hrel;go_wp2;go_ret2;exact⟨rfl,k,rfl⟩

theorem Jfr(b:Nat)(wj:Int)(err x:Value)(pre rest:List UInt8)(n:Nat)(w:World)(hp:Jc w b none wj err (.rd pre rest))(hb:pre.length+rest.length<=10000000000000)(hn:n<=rest.length)(h8:n<=8):
  Calls prog 382 #[.pointer (some ⟨b,0,none⟩),x,.int .i64 (n:Int)] w λe w'=>e=.returned (.tuple #[.int .u64 (numL (rest.take n):Int),.nilIface])/\Jc w' b none wj err (.rd (pre++rest.take n) (rest.drop n))/\Tch (λk=>k=b) w w':=by
 go_enter func382,ntmps382;go_wp2_with fail;refine(Jdp b wj err _ pre rest n _ hp hb hn).mono ?_;rintro _ W1⟨rfl,hp1,ht1⟩;have HP1:Hid (Jc _ _ _ _ _ _):=hp1;have HT1:Hid (Tch _ _ _):=ht1;have hl:(rest.take n).length=n:=by rw[QB];omega
 have hsz:(⟨(rest.take n).toArray⟩:BA).size=n:=by rw[JA,hl]
 have HB:Hid (∀k (h:k<(⟨(rest.take n).toArray⟩:BA).size),(rest.take n).take (k+1)=(rest.take n).take k++[(⟨(rest.take n).toArray⟩:BA)[k]]):=λk h=>JjZ ⟨(rest.take n).toArray⟩ k h;generalize hL:rest.take n=l at *;have HL:Hid (_=l):=hL;clear hL;generalize (⟨l.toArray⟩:BA)=r at *;go_wp2;go_loop [10,20] (λa i=>∃k:Nat,k<=n/\a=.int .u64 (numL (l.take k):Int)/\i=.int .i64 k) (λ_ i=>n-(intOf i).toNat)
 case atStart=>exact⟨0,by omega,rfl,rfl⟩
 case round=>
  obtain⟨k,hk,rfl,rfl⟩:=hrel
  by_cases hlt:k<n
  ·have hlt2:k<r.size:=(by omega);have hx:numL (l.take k)<72057594037927936:=by
    have h1:=JcQ (l.take k);have h2:256 ^ (l.take k).length<=256 ^ 7:=Nat.pow_le_pow_right (by decide) (by rw[QB];omega);omega
   have ho:=JmL (numL (l.take k)) r[k] hx;have HN:Hid (numL (l.take (k+1))=numL (l.take k)*256+r[k].toNat):=(by show _=_;rw[HB.o k hlt2,JaR]);have HO:Hid _:=ho;clear ho;generalize numL (l.take k)=x at *;go_wp2;exact⟨⟨k+1,by omega,by rw[HO.o,HN.o],by go_num⟩,by simp[intOf];omega⟩
  ·have HK:Hid (l.take k=l):=QR (by omega);go_wp2;go_ret2;exact⟨congrArg (λl:List UInt8=>Ending.returned (.tuple #[.int .u64 (numL l:Int),.nilIface])) (HK.o.trans HL.o.symm),by rw[<-HL.o]at HP1;exact HP1.o,HT1.o⟩
theorem JdI{P:Program}{base:Nat}{ops:Array Oper}{o:Oper}{a:Act}{K:Act->World->Prop}{Q:Exit->Act->World->Prop}{E:Prop}
 (hgd:o.guard=none) (s x:Operand) (t tx e:TypeId) (ho:o.op=.call { callee:=.builtin .append,args:= #[s,x],argTypes:= #[t,tx] })
 (i:TypeInfo) (z:Value) (ht:P.underlying t=some (.slice e)) (hi:P.info? e=some i) (hz:i.zero=some z) (hsize:i.size=1) (hby:i.bytes=1) (hzs:z.cells.size=1)
 (hv:a.eval s=v) (h:Bs base w v xs)
 (xv:Value) (n:Nat) (news:List Value) (hx:a.eval x=xv) (hs:Src P 1 tx xv n news w) (h63:xs.length+n<=140737488355328) (hbase:base<=w.heap.size)
 (hK:∀v' w',Bs base w' v' (xs++news)->w.grownBy w' v.ownBlock->(v'.ownBlock=v.ownBlock\/∃k,v'.ownBlock=some k/\w.heap.size<=k)->K (a.put o.dst v') w'):
  if Region.wanted o (yielded ops a.tmps)=true then Oper.wp P o a w K Q else E:=by
 have hw:Region.wanted o (yielded ops a.tmps)=true:=by simp[Region.wanted,hgd]
 rw[if_pos hw];obtain⟨v',w',hrun,r,r2,r3⟩:=Ja4 (P:=P) h t tx o.type e i z ht hi hz hsize hby hzs xv n news hs h63 hbase;unfold Oper.wp;simp[execOp,ho,resolve,invoke,builtin,hv,hx,hrun,Result.andThen];exact hK v' w' r r2 r3

theorem Jh4(E:Nat->Addr)(b:Nat)(s:BA)(n:Nat)(w:World)(hE:Env E w)(hn:s.size ≠ n):
  Calls prog 381 #[.pointer (some ⟨b,0,none⟩),.string s,.int .i64 (n:Int)] w λe w'=>e=.returned (.tuple #[.string ⟨#[]⟩,eV E 7])/\∃k,w'=w.drewN k:=by
 have hf:=hE.form;have hne:((s.size:Int) != (n:Int))=true:=by rw[bne_iff_ne];omega
 clear hE;go_enter func381,ntmps381;go_wp2;go_region;go_wp2;go_ret2;exact⟨rfl,1,rfl⟩

theorem JgG(hb:b<w.heap.size)
 (hrow:w.heap[b]? =some (.cells #[.iface 153 (.pointer (some ⟨b,0,none⟩)),.int .i64 wj,err,v] 161))
 (hbs:Bs (b+1) w v (bc done)) (h1:Bs (b+1) w1 v1 (bc done++bc news)) (hg:w.grownBy w1 v.ownBlock):
  Jc (w1.setCell ⟨b,3,none⟩ v1) b v1.ownBlock wj err (.wr (done++news))/\Tch (λk=>k=b\/some k=v.ownBlock) w (w1.setCell ⟨b,3,none⟩ v1):=by
 have hne:some b ≠ v.ownBlock:=λe=>by have:=hbs.own b e.symm;omega
 have hrow1:=(hg.block b hb hne).trans hrow;have hs:=Qj w1 b 3 _ _ (0,0) v1 hrow1;have ht:Tch (λk=>k=b) w1 (w1.setCell ⟨b,3,none⟩ v1):=by rw[hs];exact Ts _ _ _
 refine⟨⟨v1,rfl,?_,?_⟩,(Tg hg).mono (λj h=>.inl (.inr h)) |>.trans ht (λj h=>.inl (.inl h))⟩
 ·rw[ZL];have hgr:w1.grownBy (w1.setCell ⟨b,3,none⟩ v1) (some b):=⟨ht.os,ht.tape,ht.output,ht.size,λk hk hn=>ht.block k hk (λe=>hn (by rw[e]))⟩
  exact h1.grown hgr (λk e=>by cases e;exact .inl (by omega))
 ·rw[hs,Qi _ _ _ _ _ _ hrow1];rfl

theorem Jez(hb:b<w.heap.size)
 (hrow:w.heap[b]? =some (.cells #[.iface 153 (.pointer (some ⟨b,0,none⟩)),.int .i64 wj,err,v] 161))
 (hbs:Bs (b+1) w v xs) (hg:w.grownBy w1 v.ownBlock):w1.cell? ⟨b,3,none⟩=some v/\w1.frozen? ⟨b,3,none⟩=false:=by
 have hne:some b ≠ v.ownBlock:=λe=>by have:=hbs.own b e.symm;omega
 have hrow1:=(hg.block b hb hne).trans hrow;exact⟨Ja hrow1,Qg _ _ _ _ _ hrow1⟩
theorem JjE(hb:b<w.heap.size)
 (hrow:w.heap[b]? =some (.cells #[.iface 153 (.pointer (some ⟨b,0,none⟩)),.int .i64 wj,err,v] 161))
 (hbs:Bs (b+1) w v xs) (hg:(w.alloc o).drew.grownBy w1 v.ownBlock):w1.cell? ⟨b,3,none⟩=some v/\w1.frozen? ⟨b,3,none⟩=false:=
 Jez (w:=(w.alloc o).drew) (by show b<(w.alloc o).heap.size;simp;omega) ((Below.heap_alloc w o b hb).trans hrow) (hbs.alloc o) hg
theorem JjD(hb:b<w.heap.size)
 (hrow:w.heap[b]? =some (.cells #[.iface 153 (.pointer (some ⟨b,0,none⟩)),.int .i64 wj,err,v] 161))
 (hbs:Bs (b+1) w v (bc done)) (h1:Bs (b+1) w1 v1 (bc done++bc news)) (hg:(w.alloc o).drew.grownBy w1 v.ownBlock) (hm:Jm (w.alloc o).drew v.ownBlock v1.ownBlock) (hv:v.ownBlock=g):
  Jc (w1.setCell ⟨b,3,none⟩ v1) b v1.ownBlock wj err (.wr (done++news))/\Jm w g v1.ownBlock/\Tch (λk=>k=b\/some k=g) w (w1.setCell ⟨b,3,none⟩ v1):=by
 subst hv;obtain⟨h2,h3⟩:=JgG (w:=(w.alloc o).drew) (by show b<(w.alloc o).heap.size;simp;omega) ((Below.heap_alloc w o b hb).trans hrow) (hbs.alloc o) h1 hg;refine⟨h2,?_,((Ta (λk=>k=b\/some k=v.ownBlock) w o).trans (Td _ _ 1) (λj h=>.inl h)).trans h3 (λj h=>.inl h)⟩
 rcases hm with hm|⟨k,hk,hle⟩
 ·exact .inl hm
 ·exact .inr ⟨k,hk,by have:(w.alloc o).heap.size<=k:=hle;simp at this;omega⟩
theorem Jm.trans(h:Jm w g g1)(k:Jm w1 g1 g2)(hs:w.heap.size<=w1.heap.size):Jm w g g2:=by
 rcases k with rfl|⟨j,rfl,hj⟩
 ·exact h
 ·exact .inr ⟨j,rfl,by omega⟩
theorem Yp(h:Tch (λk=>k=b\/some k=g) w w1)(k:Tch (λk=>k=b\/some k=g1) w1 w2)(hm:Jm w g g1):Tch (λk=>k=b\/some k=g) w w2:=
 h.trans k (λj hj=>by
  rcases hj with rfl|hj
  ·exact .inl (.inl rfl)
  ·rcases hm with rfl|⟨i,rfl,hi⟩
   ·exact .inl (.inr hj)
   ·cases hj;exact .inr hi)
theorem JcL:(prog.info? 5).map (λi=>(i.zero,i.size,i.bytes))=some (some (.int .u8 0),1,1):=by kernel_rfl

theorem Jh5(b:Nat)(g:Option Nat)(wj:Int)(err:Value)(done:List UInt8)(s:BA)(n:Nat)(w:World)(hp:Jc w b g wj err (.wr done))(hn:s.size=n)(hm:done.length+n<=10000000000000):
  Calls prog 381 #[.pointer (some ⟨b,0,none⟩),.string s,.int .i64 (n:Int)] w λe w'=>e=.returned (.tuple #[.string s,.nilIface])/\∃g',Jc w' b g' wj err (.wr (done++s.data.toList))/\Jm w g g'/\Tch (λk=>k=b\/some k=g) w w':=by
 have hlt:=hp.lt;obtain⟨v,rfl,hbs,(Hrow:Hid _)⟩:=hp;obtain⟨i0,hi,hz0,hz1,hz2⟩:=info_parts JcL;have c3:w.cell? ⟨b,3,none⟩=some v:=Ja Hrow;have hne:((s.size:Int) != (n:Int))=false:=by rw[bne_eq_false_iff_eq];omega
 have Hbl:Hid _:=Yt done;go_enter func381,ntmps381;go_wp2_with (at_builtin;refine XL rfl _ _ 52 9 5 rfl i0 _ underlying52 hi hz0 hz1 hz2 rfl rfl hbs _ s.size (byteCells s) rfl (Src.ofString _ underlying9 s) (by rw[Hbl.out];omega) (by omega) ?_;intro v1 w1 hbs1 (Hg1:Hid _) (HM:Hid _);obtain⟨hc1,hf1⟩:=Jez hlt Hrow hbs Hg1.out;obtain⟨a1,m1,c1,hv1⟩:=hbs1.shape3;subst hv1);go_ret2;obtain⟨h1,h2⟩:=JgG (news:=s.data.toList) hlt Hrow hbs hbs1 Hg1.out;exact⟨rfl,_,h1,HM,h2⟩

def beL(n k:Nat):Nat->List UInt8
 | 0=>[]
 | j+1=>beL n k j++[UInt8.ofNat (n/2 ^ (8*(k-1-j)))]
theorem Jf(n k j:Nat):(beL n k j).length=j:=by
 induction j with
 | zero=>rfl
 | succ j ih=>simp[beL,ih]
theorem JlA(n k:Nat):((n:Int)/2 ^ (8*k) != 0)=decide (n/2 ^ (8*k) ≠ 0):=by
 have e:(n:Int)/2 ^ (8*k)=((n/2 ^ (8*k):Nat):Int):=by simp
 rw[e];generalize n/2 ^ (8*k)=m
 by_cases h:m=0
 ·subst h;rfl
 ·have:((m:Int) != 0)=true:=by rw[bne_iff_ne];omega
  rw[this];simp[h]

theorem Xe(x:Int)(h0:0<=x)(h:x<1000000):IntKind.i64.wrap x=x:=by
 simp[IntKind.wrap,IntKind.bits,IntKind.signed];omega

theorem JfD(E:Nat->Addr)(b:Nat)(n k:Nat)(w:World)(hE:Env E w)(hk:k<=8)(hbig:n/2 ^ (8*k) ≠ 0):
  Calls prog 378 #[.pointer (some ⟨b,0,none⟩),.int .u64 (n:Int),.int .i64 (k:Int)] w λe w'=>e=.returned (.tuple #[.int .u64 0,eV E 7])/\∃j,w'=w.drewN j:=by
 have hf:=hE.form;clear hE;have ht:((n:Int)/2 ^ (8*k) != 0)=true:=by rw[JlA];simp[hbig]
 clear hbig;have hki:(k:Int)<=8:=by omega
 go_enter func378,ntmps378;go_wp2;go_region;go_wp2;go_ret2;exact⟨rfl,1,rfl⟩

theorem JfE(b:Nat)(g:Option Nat)(wj:Int)(err:Value)(done:List UInt8)(n k:Nat)(w:World)(hp:Jc w b g wj err (.wr done))(hk:k<=8)(hsm:n/2 ^ (8*k)=0)(hm:done.length<=10000000000000):
  Calls prog 378 #[.pointer (some ⟨b,0,none⟩),.int .u64 (n:Int),.int .i64 (k:Int)] w λe w'=>e=.returned (.tuple #[.int .u64 (n:Int),.nilIface])/\∃g',Jc w' b g' wj err (.wr (done++beL n k k))/\Jm w g g'/\Tch (λk=>k=b\/some k=g) w w':=by
 obtain⟨i0,hi,hz0,hz1,hz2⟩:=info_parts JcL;have ht:((n:Int)/2 ^ (8*k) != 0)=false:=by rw[JlA];simp[hsm]
 have hki:(k:Int)<=8:=by omega
 go_enter func378,ntmps378;go_wp2;go_loopw [8] (λi wr=>∃j:Nat,j<=k/\i=.int .i64 ((k:Int)-1-(j:Int))/\∃g',Jc wr b g' wj err (.wr (done++beL n k j))/\Jm w g g'/\Tch (λk=>k=b\/some k=g) w wr) (λi _=>(intOf i+1).toNat)
 case atStart=>exact⟨0,by omega,congrArg (Value.int .i64) (by omega),g,by simpa [beL]using hp,.inl rfl,Te _ _⟩
 case round=>
  obtain⟨j,hj,rfl,g',hp,hmv,htc⟩:=hrel;have hlt:=hp.lt
  by_cases hjk:j<k
  ·obtain⟨v,(HV:Hid _),hbs,hrow⟩:=hp;obtain⟨-, -, -,c3⟩:=rows hrow;have Hrow:Hid _:=hrow;have Hbl:Hid ((bc (done++beL n k j)).length=done.length+j):=(by rw[Yt,Qe,Jf]:(bc (done++beL n k j)).length=done.length+j)
   have HMV:Hid (Jm w g g'):=hmv;have HTC:Hid (Tch (λk=>k=b\/some k=g) w wr):=htc;obtain⟨m,hm',hmk⟩:∃m:Nat,(k:Int)-1-(j:Int)=(m:Int)/\k-1-j=m:=⟨k-1-j,by omega,rfl⟩
   have HM:Hid ((k:Int)-1-(j:Int)=(m:Int)/\k-1-j=m):=⟨hm',hmk⟩
   have hm7:m<=7:=(by omega);rw[hm'];have hw8:IntKind.i64.wrap (8*(m:Int))=8*(m:Int):=Xe _ (by omega) (by omega);have hsh:Op.shift .shr .u64 (n:Int) .i64 (8*(m:Int))=pure (.int .u64 ((n:Int)/2 ^ (8*m))):=by
    rw[shift_shr_u64 _ _ _ (by omega) (by omega)]
    congr 3
   go_wp2;go_region_law (refine JdI rfl _ _ 52 52 5 rfl i0 _ underlying52 hi hz0 hz1 hz2 rfl rfl ((hbs.drew).alloc _) _ 1 [_] rfl (Src.ofSlice _ underlying52 _ 1 1 _ rfl (cell_one_new _ _ _) (by simp[Value.oneCell'])) (by rw[Hbl.out];omega) (by simp;omega) ?_;intro v1 w1 hbs1 (Hg1:Hid _) (HM1:Hid _);obtain⟨hc1,hf1⟩:=JjE hlt Hrow hbs Hg1.out;obtain⟨a1,m1,c1,hv1⟩:=hbs1.shape3;subst hv1)
   all_goals
    go_wp2;have e2:[Value.int .u8 (IntKind.u8.wrap ((n:Int)/2 ^ (8*(m:Int)).toNat))]=bc [UInt8.ofNat (n/2 ^ (8*m))]:=by rw[IntKind.wrap_u8',show (8*(m:Int)).toNat=8*m by omega];simp[bc]
    rw[e2]at hbs1;obtain⟨p1,p2,p3⟩:=JjD hlt Hrow hbs hbs1 Hg1 HM1 HV.o;have e3:done++beL n k (j+1)=done++beL n k j++[UInt8.ofNat (n/2 ^ (8*m))]:=(by rw[<-HM.o.2,Qs];rfl);go_roundw
    case rel=>exact⟨j+1,by omega,congrArg (Value.int .i64) (by have:=HM.o.1;omega),_,by rw[e3];exact p1,HMV.trans p2 HTC.size,Yp HTC p3 HMV⟩
    case measure=>simp only[intOf];omega
  ·have HJ:Hid (j=k):=(by omega:j=k)
   have hlt0:¬(0:Int)<=(k:Int)-1-(j:Int):=(by omega);go_wp2;go_ret2;exact⟨rfl,g',by have:=HJ.o;subst this;exact hp,hmv,htc⟩

theorem JaB(a:Addr)(w:World):(method 641 170 (.pointer (some a)) "trove/wire.number").run prog w=.ok (382,.pointer (some a)) w:=by kernel_rfl
theorem Jby(a:Addr)(w:World):(method 641 170 (.pointer (some a)) "trove/wire.text").run prog w=.ok (385,.pointer (some a)) w:=by kernel_rfl
theorem JaC(a:Addr)(w:World):(method 641 153 (.pointer (some a)) "trove/wire.number").run prog w=.ok (378,.pointer (some a)) w:=by kernel_rfl
theorem Jbz(a:Addr)(w:World):(method 641 153 (.pointer (some a)) "trove/wire.text").run prog w=.ok (381,.pointer (some a)) w:=by kernel_rfl
theorem XS{e':Value}{n:Nat}(hp:Jc w b g wj e p):
  (w.drewN n).cell? ⟨b,2,none⟩=some e/\(w.drewN n).frozen? ⟨b,2,none⟩=false/\Jc ((w.drewN n).setCell ⟨b,2,none⟩ e') b g wj e' p/\Tch (λk=>k=b) w ((w.drewN n).setCell ⟨b,2,none⟩ e'):=by
 cases p using PS.on with
 | rd pre rest=>
  have hrow:=hp.2;have h1:=Qj (w.drewN n) b 2 _ _ (0,0) e' hrow;refine⟨Ja hrow,Qg _ _ _ _ _ hrow,?_,?_⟩
  ·exact⟨hp.1,by rw[h1,Qi (w.drewN n) _ _ _ _ _ hrow];rfl⟩
  ·rw[h1];exact(Td _ w n).trans (Ts _ _ _) (λj h=>.inl h)
 | wr done=>
  have hlt:=hp.lt;obtain⟨v,hv,hbs,hrow⟩:=hp;have h1:=Qj (w.drewN n) b 2 _ _ (0,0) e' hrow;have ht:Tch (λk=>k=b) w ((w.drewN n).setCell ⟨b,2,none⟩ e'):=by rw[h1];exact(Td _ w n).trans (Ts _ _ _) (λj h=>.inl h)
  refine⟨Ja hrow,Qg _ _ _ _ _ hrow,⟨v,hv,?_,by rw[h1,Qi (w.drewN n) _ _ _ _ _ hrow];rfl⟩,ht⟩;exact hbs.grown (row:=some b) ⟨ht.os,ht.tape,ht.output,ht.size,λk hk hn=>ht.block k hk (λe=>hn (by rw[e]))⟩ (λk e=>by cases e;exact .inl (by omega))

theorem Jfn(b:Nat)(wj:Int)(x:Int)(pre rest:List UInt8)(n:Nat)(w:World)(hp:Jc w b none wj .nilIface (.rd pre rest))(hb:pre.length+rest.length<=10000000000000)(hn:n<=rest.length)(h8:n<=8):
  Calls prog 138 #[.pointer (some ⟨b,0,none⟩),.int .u64 x,.int .i64 (n:Int)] w λe w'=>e=.returned (.int .u64 (numL (rest.take n):Int))/\Jc w' b none wj .nilIface (.rd (pre++rest.take n) (rest.drop n))/\Tch (λk=>k=b) w w':=by
 have hrow:=hp.2;obtain⟨c0, -,c2⟩:=rows hrow;have hm:=JaB ⟨b,0,none⟩;go_enter func138,ntmps138;go_wp2_with fail;refine(Jfr b wj .nilIface _ pre rest n _ hp hb hn h8).mono ?_;rintro _ w1⟨rfl,hp1,ht⟩;obtain⟨d2,f2,q1,q2⟩:=XS (n:=0) (e':=.nilIface) hp1;rw[World.drewN_zero]at d2 f2 q1 q2;have Q1:Hid (Jc _ _ _ _ _ _):=q1;have Q2:Hid (Tch _ _ _):=q2;have HT:Hid (Tch _ _ _):=ht;go_wp2;go_ret;exact⟨rfl,Q1.out,HT.o.trans Q2.out (λj h=>.inl h)⟩
theorem Jfm(E:Nat->Addr)(b:Nat)(wj:Int)(x:Int)(pre rest:List UInt8)(n:Nat)(w:World)(hE:Env E w)(hp:Jc w b none wj .nilIface (.rd pre rest))(hb:pre.length+rest.length<=10000000000000)(hn:rest.length<n):
  Calls prog 138 #[.pointer (some ⟨b,0,none⟩),.int .u64 x,.int .i64 (n:Int)] w λe w'=>e=.returned (.int .u64 0)/\Jc w' b none wj (eV E 7) (.rd pre rest)/\Tch (λk=>k=b) w w':=by
 have hrow:=hp.2;obtain⟨c0, -,c2⟩:=rows hrow;have hm:=JaB ⟨b,0,none⟩;go_enter func138,ntmps138;go_wp2_with fail;refine(Jfq E b wj .nilIface _ pre rest n _ hE hp hb hn).mono ?_;rintro _ w1⟨rfl,j,rfl⟩;obtain⟨d2,f2,q1,q2⟩:=XS (n:=j) (e':=eV E 7) hp;have Q1:Hid (Jc _ _ _ _ _ _):=q1;have Q2:Hid (Tch _ _ _):=q2;go_wp2;go_ret;exact⟨rfl,Q1.out,Q2.out⟩
theorem Jfo(E:Nat->Addr)(b:Nat)(wj:Int)(x:Nat)(g:Option Nat)(done:List UInt8)(n:Nat)(w:World)(hE:Env E w)(hp:Jc w b g wj .nilIface (.wr done))(h8:n<=8)(hn:x/2 ^ (8*n) ≠ 0):
  Calls prog 138 #[.pointer (some ⟨b,0,none⟩),.int .u64 (x:Int),.int .i64 (n:Int)] w λe w'=>e=.returned (.int .u64 0)/\Jc w' b g wj (eV E 7) (.wr done)/\Tch (λk=>k=b) w w':=by
 have hrow:=hp.choose_spec.2.2;obtain⟨c0, -,c2, -⟩:=rows hrow;have hm:=JaC ⟨b,0,none⟩;go_enter func138,ntmps138;go_wp2_with fail;refine(JfD E b x n _ hE h8 hn).mono ?_;rintro _ w1⟨rfl,j,rfl⟩;obtain⟨d2,f2,q1,q2⟩:=XS (n:=j) (e':=eV E 7) hp;have Q1:Hid _:=q1;have Q2:Hid _:=q2;go_wp2;go_ret;exact⟨rfl,Q1.out,Q2.out⟩
theorem JhV(E:Nat->Addr)(b:Nat)(wj:Int)(x:Value)(pre rest:List UInt8)(n:Nat)(w:World)(hE:Env E w)(hp:Jc w b none wj .nilIface (.rd pre rest))(hb:pre.length+rest.length<=10000000000000)(hn:rest.length<n):
  Calls prog 209 #[.pointer (some ⟨b,0,none⟩),x,.int .i64 (n:Int)] w λe w'=>e=.returned (.string ⟨#[]⟩)/\Jc w' b none wj (eV E 7) (.rd pre rest)/\Tch (λk=>k=b) w w':=by
 have hrow:=hp.2;obtain⟨c0, -,c2⟩:=rows hrow;have hm:=Jby ⟨b,0,none⟩;go_enter func209,ntmps209;go_wp2_with fail;refine(Jdo E b wj .nilIface _ pre rest n _ hE hp hb hn).mono ?_;rintro _ w1⟨rfl,j,rfl⟩;obtain⟨d2,f2,q1,q2⟩:=XS (n:=j) (e':=eV E 7) hp;have Q1:Hid (Jc _ _ _ _ _ _):=q1;have Q2:Hid (Tch _ _ _):=q2;go_wp2;go_ret;exact⟨rfl,Q1.out,Q2.out⟩
theorem JhX(E:Nat->Addr)(b:Nat)(wj:Int)(s:BA)(g:Option Nat)(done:List UInt8)(n:Nat)(w:World)(hE:Env E w)(hp:Jc w b g wj .nilIface (.wr done))(hn:s.size ≠ n):
  Calls prog 209 #[.pointer (some ⟨b,0,none⟩),.string s,.int .i64 (n:Int)] w λe w'=>e=.returned (.string ⟨#[]⟩)/\Jc w' b g wj (eV E 7) (.wr done)/\Tch (λk=>k=b) w w':=by
 have hrow:=hp.choose_spec.2.2;obtain⟨c0, -,c2, -⟩:=rows hrow;have hm:=Jbz ⟨b,0,none⟩;go_enter func209,ntmps209;go_wp2_with fail;refine(Jh4 E b s n _ hE hn).mono ?_;rintro _ w1⟨rfl,j,rfl⟩;obtain⟨d2,f2,q1,q2⟩:=XS (n:=j) (e':=eV E 7) hp;have Q1:Hid _:=q1;have Q2:Hid _:=q2;go_wp2;go_ret;exact⟨rfl,Q1,Q2⟩
theorem JhW(b:Nat)(wj:Int)(x:Value)(pre rest:List UInt8)(n:Nat)(w:World)(hp:Jc w b none wj .nilIface (.rd pre rest))(hb:pre.length+rest.length<=10000000000000)(hn:n<=rest.length):
  Calls prog 209 #[.pointer (some ⟨b,0,none⟩),x,.int .i64 (n:Int)] w λe w'=>e=.returned (.string ⟨(rest.take n).toArray⟩)/\Jc w' b none wj .nilIface (.rd (pre++rest.take n) (rest.drop n))/\Tch (λk=>k=b) w w':=by
 have hrow:=hp.2;obtain⟨c0, -,c2⟩:=rows hrow;have hm:=Jby ⟨b,0,none⟩;go_enter func209,ntmps209;go_wp2_with fail;refine(Jdp b wj .nilIface _ pre rest n _ hp hb hn).mono ?_;rintro _ w1⟨rfl,hp1,ht⟩;obtain⟨d2,f2,q1,q2⟩:=XS (n:=0) (e':=.nilIface) hp1;rw[World.drewN_zero]at d2 f2 q1 q2;have Q1:Hid (Jc _ _ _ _ _ _):=q1;have Q2:Hid (Tch _ _ _):=q2;have HT:Hid (Tch _ _ _):=ht;go_wp2;go_ret;exact⟨rfl,Q1.out,HT.o.trans Q2.out (λj h=>.inl h)⟩
theorem Jfp(b:Nat)(g:Option Nat)(wj:Int)(x:Nat)(done:List UInt8)(n:Nat)(w:World)(hp:Jc w b g wj .nilIface (.wr done))(h8:n<=8)(hn:x/2 ^ (8*n)=0)(hd:done.length<=10000000000000):
  Calls prog 138 #[.pointer (some ⟨b,0,none⟩),.int .u64 (x:Int),.int .i64 (n:Int)] w λe w'=>e=.returned (.int .u64 (x:Int))/\∃g',Jc w' b g' wj .nilIface (.wr (done++beL x n n))/\Jm w g g'/\Tch (λk=>k=b\/some k=g) w w':=by
 have hrow:=hp.choose_spec.2.2;obtain⟨c0, -,c2, -⟩:=rows hrow;have hm:=JaC ⟨b,0,none⟩;go_enter func138,ntmps138;go_wp2_with fail;refine(JfE b g wj .nilIface done x n _ hp h8 hn hd).mono ?_;rintro _ w1⟨rfl,g1,hp1,hmv,ht⟩;obtain⟨d2,f2,q1,q2⟩:=XS (n:=0) (e':=.nilIface) hp1;rw[World.drewN_zero]at d2 f2 q1 q2;have Q1:Hid _:=q1;have Q2:Hid _:=q2;have HM:Hid _:=hmv;have HT:Hid _:=ht;go_wp2;go_ret;exact⟨rfl,g1,Q1.out,HM.o,HT.o.trans Q2.out (λj h=>.inl (.inl h))⟩
theorem JhY(b:Nat)(g:Option Nat)(wj:Int)(s:BA)(done:List UInt8)(n:Nat)(w:World)(hp:Jc w b g wj .nilIface (.wr done))(hn:s.size=n)(hd:done.length+n<=10000000000000):
  Calls prog 209 #[.pointer (some ⟨b,0,none⟩),.string s,.int .i64 (n:Int)] w λe w'=>e=.returned (.string s)/\∃g',Jc w' b g' wj .nilIface (.wr (done++s.data.toList))/\Jm w g g'/\Tch (λk=>k=b\/some k=g) w w':=by
 have hrow:=hp.choose_spec.2.2;obtain⟨c0, -,c2, -⟩:=rows hrow;have hm:=Jbz ⟨b,0,none⟩;go_enter func209,ntmps209;go_wp2_with fail;refine(Jh5 b g wj .nilIface done s n _ hp hn hd).mono ?_;rintro _ w1⟨rfl,g1,hp1,hmv,ht⟩;obtain⟨d2,f2,q1,q2⟩:=XS (n:=0) (e':=.nilIface) hp1;rw[World.drewN_zero]at d2 f2 q1 q2;have Q1:Hid _:=q1;have Q2:Hid _:=q2;have HM:Hid _:=hmv;have HT:Hid _:=ht;go_wp2;go_ret;exact⟨rfl,g1,Q1.out,HM.o,HT.o.trans Q2.out (λj h=>.inl (.inl h))⟩

def PS.num(x k:Nat):PS->Option (Nat×PS)
 | ⟨.inl (pre,rest)⟩=>if k<=rest.length then some (numL (rest.take k),.rd (pre++rest.take k) (rest.drop k)) else none
 | ⟨.inr done⟩=>if x/2 ^ (8*k)=0 then some (x,.wr (done++beL x k k)) else none
def PS.txt(s:List UInt8)(k:Nat):PS->Option (List UInt8×PS)
 | ⟨.inl (pre,rest)⟩=>if k<=rest.length then some (rest.take k,.rd (pre++rest.take k) (rest.drop k)) else none
 | ⟨.inr done⟩=>if s.length=k then some (s,.wr (done++s)) else none
def PS.len:PS->Nat
 | ⟨.inl (pre,rest)⟩=>pre.length+rest.length
 | ⟨.inr done⟩=>done.length
def JY(w w':World)(b:Nat)(g:Option Nat)(wj:Int)(p':PS):Prop:=
 ∃g',Jc w' b g' wj .nilIface p'/\Jm w g g'/\Tch (λk=>k=b\/some k=g) w w'
theorem JY.trans(hm:Jm w g g1)(h:Tch (λk=>k=b\/some k=g) w w1)(k:JY w1 w2 b g1 wj p2):JY w w2 b g wj p2:=by
 obtain⟨g2,h1,h2,h3⟩:=k;exact⟨g2,h1,hm.trans h2 h.size,Yp h h3 hm⟩
theorem Xs(b:Nat)(g:Option Nat)(wj:Int)(x n m:Nat)(p p':PS)(w:World)(hp:Jc w b g wj .nilIface p)(h8:n<=8)(hd:p.len<=10000000000000)(h:p.num x n=some (m,p')):
  Calls prog 138 #[.pointer (some ⟨b,0,none⟩),.int .u64 (x:Int),.int .i64 (n:Int)] w λe w'=>e=.returned (.int .u64 (m:Int))/\JY w w' b g wj p':=by
 cases p using PS.on with
 | rd pre rest=>
  simp only[PS.num]at h
  split at h
  ·cases h
   obtain rfl:=hp.1;exact(Jfn b wj x pre rest n w hp hd ‹_› h8).mono λe w' ⟨h1,h2,h3⟩=>⟨h1,none,h2,.inl rfl,h3.mono (λj hj=>.inl (.inl hj))⟩
  ·cases h
 | wr done=>
  simp only[PS.num]at h
  split at h
  ·cases h
   exact Jfp b g wj x done n w hp h8 ‹_› hd
  ·cases h
theorem YU(E:Nat->Addr)(b:Nat)(g:Option Nat)(wj:Int)(x n:Nat)(p:PS)(w:World)(hE:Env E w)(hp:Jc w b g wj .nilIface p)(h8:n<=8)(hd:p.len<=10000000000000)(h:p.num x n=none):
  Calls prog 138 #[.pointer (some ⟨b,0,none⟩),.int .u64 (x:Int),.int .i64 (n:Int)] w λe w'=>e=.returned (.int .u64 0)/\Jc w' b g wj (eV E 7) p/\Tch (λk=>k=b) w w':=by
 cases p using PS.on with
 | rd pre rest=>
  simp only[PS.num]at h
  split at h
  ·cases h
  ·obtain rfl:=hp.1;exact Jfm E b wj x pre rest n w hE hp hd (by omega)
 | wr done=>
  simp only[PS.num]at h
  split at h
  ·cases h
  ·exact Jfo E b wj x g done n w hE hp h8 ‹_›
theorem Zk(b:Nat)(g:Option Nat)(wj:Int)(s:BA)(n:Nat)(m:List UInt8)(p p':PS)(w:World)(hp:Jc w b g wj .nilIface p)(hd:p.len+n<=10000000000000)(h:p.txt s.data.toList n=some (m,p')):
  Calls prog 209 #[.pointer (some ⟨b,0,none⟩),.string s,.int .i64 (n:Int)] w λe w'=>e=.returned (.string ⟨m.toArray⟩)/\JY w w' b g wj p':=by
 cases p using PS.on with
 | rd pre rest=>
  simp only[PS.txt]at h
  split at h
  ·cases h
   obtain rfl:=hp.1;exact(JhW b wj _ pre rest n w hp (by simp only[PS.len]at hd;omega) ‹_›).mono λe w' ⟨h1,h2,h3⟩=>⟨h1,none,h2,.inl rfl,h3.mono (λj hj=>.inl (.inl hj))⟩
  ·cases h
 | wr done=>
  simp only[PS.txt]at h
  split at h
  ·cases h
   rename_i hl;exact(JhY b g wj s done n w hp (by simpa using hl) hd).mono λe w' ⟨h1,h2⟩=>⟨by rw[h1],h2⟩
  ·cases h
theorem JeJ(E:Nat->Addr)(b:Nat)(g:Option Nat)(wj:Int)(s:BA)(n:Nat)(p:PS)(w:World)(hE:Env E w)(hp:Jc w b g wj .nilIface p)(hd:p.len<=10000000000000)(h:p.txt s.data.toList n=none):
  Calls prog 209 #[.pointer (some ⟨b,0,none⟩),.string s,.int .i64 (n:Int)] w λe w'=>e=.returned (.string ⟨#[]⟩)/\Jc w' b g wj (eV E 7) p/\Tch (λk=>k=b) w w':=by
 cases p using PS.on with
 | rd pre rest=>
  simp only[PS.txt]at h
  split at h
  ·cases h
  ·obtain rfl:=hp.1;exact JhV E b wj _ pre rest n w hE hp hd (by omega)
 | wr done=>
  simp only[PS.txt]at h
  split at h
  ·cases h
  ·rename_i hl;exact JhX E b wj s g done n w hE hp (by simpa using hl)
theorem Jc.errCell(hp:Jc w b g wj e p):w.cell? ⟨b,2,none⟩=some e:=(XS (n:=0) (e':=e) hp).1
theorem Jag(b:Nat)(g:Option Nat)(wj:Int)(x:Value)(n:Value)(p:PS)(t:TypeId)(v:Value)(w:World)(hp:Jc w b g wj (.iface t v) p):
  Calls prog 138 #[.pointer (some ⟨b,0,none⟩),x,n] w λe w'=>e=.returned (.int .u64 0)/\w=w':=by
 have c2:=hp.errCell;clear hp;go_enter func138,ntmps138;go_wp2;go_ret;exact⟨rfl,rfl⟩
theorem Jg1(b:Nat)(g:Option Nat)(wj:Int)(x:Value)(n:Value)(p:PS)(t:TypeId)(v:Value)(w:World)(hp:Jc w b g wj (.iface t v) p):
  Calls prog 209 #[.pointer (some ⟨b,0,none⟩),x,n] w λe w'=>e=.returned (.string ⟨#[]⟩)/\w=w':=by
 have c2:=hp.errCell;clear hp;go_enter func209,ntmps209;go_wp2;go_ret;exact⟨rfl,rfl⟩
theorem Jaf(x k m:Nat)(p p1:PS)(h:p.num x k=some (m,p1)):p1.len<=p.len+k:=by
 cases p using PS.on<;>simp only[PS.num]at h<;>split at h<;>cases h<;>simp[PS.len,Jf]<;>omega
theorem JiD(s t:List UInt8)(k:Nat)(p p1:PS)(h:p.txt s k=some (t,p1)):p1.len<=p.len+k:=by
 cases p using PS.on<;>simp only[PS.txt]at h<;>split at h<;>cases h<;>simp[PS.len]<;>omega

def PS.out(a o:Nat)(p:PS):Option ((Nat×Nat)×PS):=
 match p.num a 8 with
 | none=>none
 | some (a',p1)=>match p1.num o 1 with
  | none=>none
  | some (o',p2)=>some ((a',o'),p2)
def JE(n:Int):Nat:=(n % 18446744073709551616).toNat
def PS.coin(wj:Nat)(c:BA×Int)(p:PS):Option ((BA×Int)×PS):=
 match p.txt c.1.data.toList wj with
 | none=>none
 | some (t,p1)=>match p1.num (JE c.2) 1 with
  | none=>none
  | some (m,p2)=>if m<3 then some ((⟨t.toArray⟩,(m:Int)),p2) else none
def PS.coins(wj:Nat):List (BA×Int)->PS->Option (List (BA×Int)×PS)
 | [],p=>some ([],p)
 | x::r,p=>match p.coin wj x with
  | none=>none
  | some (y,p1)=>match PS.coins wj r p1 with
   | none=>none
   | some (ys,p2)=>some (y::ys,p2)
def PS.outs:List (Nat×Nat)->PS->Option (List (Nat×Nat)×PS)
 | [],p=>some ([],p)
 | x::r,p=>match p.out x.1 x.2 with
  | none=>none
  | some (y,p1)=>match PS.outs r p1 with
   | none=>none
   | some (ys,p2)=>some (y::ys,p2)
def YZ(l:List (BA×Int))(cnt:Nat):List (BA×Int):=if l=[] then List.replicate cnt (⟨#[]⟩,0) else l
def Za(l:List (Nat×Nat))(cnt:Nat):List (Nat×Nat):=if l=[] then List.replicate cnt (0,0) else l
def PS.listC(wj least most:Nat)(l:List (BA×Int))(p:PS):Option (List (BA×Int)×PS):=
 match p.num l.length 1 with
 | none=>none
 | some (cnt,p1)=>if cnt<least\/most<cnt then none else PS.coins wj (YZ l cnt) p1
def PS.listO(least most:Nat)(l:List (Nat×Nat))(p:PS):Option (List (Nat×Nat)×PS):=
 match p.num l.length 1 with
 | none=>none
 | some (cnt,p1)=>if cnt<least\/most<cnt then none else PS.outs (Za l cnt) p1
abbrev TxL:=List (BA×Int)×List (Nat×Nat)
def PS.tx(wj:Nat)(t:TxL)(p:PS):Option (TxL×PS):=
 match p.listC wj 1 3 t.1 with
 | none=>none
 | some (ys,p1)=>match p1.listO 0 3 t.2 with
  | none=>none
  | some (zs,p2)=>some ((ys,zs),p2)
def PS.txs(wj:Nat):List TxL->PS->Option (List TxL×PS)
 | [],p=>some ([],p)
 | x::r,p=>match p.tx wj x with
  | none=>none
  | some (y,p1)=>match PS.txs wj r p1 with
   | none=>none
   | some (ys,p2)=>some (y::ys,p2)
def Jal(ts:List TxL)(cnt:Nat):List TxL:=if ts=[] then List.replicate cnt ([],[]) else ts
def PS.body(wj:Nat)(ts:List TxL)(p:PS):Option (List TxL×PS):=
 match p.num ts.length 1 with
 | none=>none
 | some (cnt,p1)=>if 3<cnt then none else PS.txs wj (Jal ts cnt) p1
def PS.hdr(wj:Nat)(h:Nat×BA×BA×BA)(p:PS):Option ((Nat×BA×BA×BA)×PS):=
 match p.num h.1 4 with
 | none=>none
 | some (n,p1)=>match p1.txt h.2.1.data.toList wj with
  | none=>none
  | some (t1,p2)=>match p2.txt h.2.2.1.data.toList wj with
   | none=>none
   | some (t2,p3)=>match p3.txt h.2.2.2.data.toList wj with
    | none=>none
    | some (t3,p4)=>some ((n,⟨t1.toArray⟩,⟨t2.toArray⟩,⟨t3.toArray⟩),p4)
def JP(l:List (Nat×Nat))(k:Nat):Nat:=((l.take k).map (·.1)).sum
def XF(l1 l2:List (Nat×Nat)):Prop:=18446744073709551616<=JP l1 l1.length\/18446744073709551616<=JP l2 l2.length\/JP l1 l1.length<JP l2 l2.length

def Ja9(E:Nat->Addr)(w w':World)(b:Nat)(g:Option Nat)(wj:Int):Prop:=
 ∃g' p',Jc w' b g' wj (eV E 7) p'/\Jm w g g'/\Tch (λk=>k=b\/some k=g) w w'
theorem Tch.allocs(S:Nat->Prop)(w:World)(o o':Obj):Tch S w ((w.alloc o).alloc o'):=(Ta S w o).trans (Ta S _ o') (λ_ h=>.inl h)
theorem Jc.allocs(h:Jc w b g wj err p)(o o':Obj):Jc ((w.alloc o).alloc o') b g wj err p:=
 h.tch (Tch.allocs NoB w o o') (λh=>h) (λ_ _ h=>h)
theorem Env.allocs(h:Env E w)(o o':Obj):Env E ((w.alloc o).alloc o'):=h.tch (Tch.allocs NoB w o o') noE
theorem set2(w:World)(g:Nat)(t:TypeId)(a b v0 v1:Value)(h:w.heap[g]? =some (.cells #[a,b] t (0,0))):
  (w.setCell ⟨g,0,none⟩ v0).setCell ⟨g,1,none⟩ v1=w.setRow g #[v0,v1]:=by
 rw[Qj w g 0 _ t (0,0) v0 h,Qj _ g 1 _ t (0,0) v1 (Qi _ _ _ _ _ _ h),QI];refine congrArg (w.setRow g) ?_;simp
theorem JY.fresh(_hp:Jc w b g wj err p)(o o':Obj)(hm:Jm ((w.alloc o).alloc o') g g2)(ht:Tch (λk=>k=b\/some k=g) ((w.alloc o).alloc o') w2)
 (hp2:Jc w3 b g2 wj .nilIface p2) (h3:Tch (λj=>j=k) w2 w3) (hk:w.heap.size<=k):JY w w3 b g wj p2:=by
 refine⟨g2,hp2,?_,((Tch.allocs _ w o o').trans ht (λ_ h=>.inl h)).trans h3 (λj hj=>by subst hj;exact .inr hk)⟩
 rcases hm with hm|⟨i,hi,hle⟩
 ·exact .inl hm
 ·exact .inr ⟨i,hi,by simp at hle;omega⟩
theorem Ja9.fresh(_hp:Jc w b g wj err p)(o o':Obj)(hm:Jm ((w.alloc o).alloc o') g g2)(ht:Tch (λk=>k=b\/some k=g) ((w.alloc o).alloc o') w2)
 (hp2:Jc w3 b g2 wj (eV E 7) p2) (h3:Tch (λj=>j=k) w2 w3) (hk:w.heap.size<=k):Ja9 E w w3 b g wj:=by
 refine⟨g2,p2,hp2,?_,((Tch.allocs _ w o o').trans ht (λ_ h=>.inl h)).trans h3 (λj hj=>by subst hj;exact .inr hk)⟩
 rcases hm with hm|⟨i,hi,hle⟩
 ·exact .inl hm
 ·exact .inr ⟨i,hi,by simp at hle;omega⟩
theorem Yk(h:Jc w b g wj err p)(k:Nat)(hk:w.heap.size<=k):¬(k=b\/some k=g):=by
 have h1:=h.lt;rintro(rfl|e)
 ·omega
 ·have:=(h.own k e.symm).2;omega
theorem JaS(h12:18<=b)(h:Jc w b g wj err p):∀j,(j=b\/some j=g)->18<=j:=by
 rintro j (rfl|e)
 ·exact h12
 ·have:=(h.own j e.symm).1;omega
theorem Jb8{g':Option Nat}(h:Jc w b g wj err p)(o o':Obj)(hm:Jm ((w.alloc o).alloc o') g g')(k:Nat)(hk:w.heap.size<=k)(hk2:k<w.heap.size+2):¬(k=b\/some k=g'):=by
 rcases hm with rfl|⟨i,rfl,hi⟩
 ·exact Yk h k hk
 ·have h1:=h.lt;rintro(rfl|e)
  ·omega
  ·cases e;simp at hi;omega

theorem JbT(x:Int)(h0:0<=x)(h:x<256):IntKind.u8.wrap x=x:=by
 simp[IntKind.wrap,IntKind.bits,IntKind.signed];omega

theorem Jln(b:Nat)(g:Option Nat)(wj:Int)(a o a' o':Nat)(p p1 p2:PS)(w:World)(hp:Jc w b g wj .nilIface p)(hd:p.len<=90000000)(hd1:p1.len<=90000000)(ho:o<256)(h1:p.num a 8=some (a',p1))(h2:p1.num o 1=some (o',p2))(ho':o'<256):
  Calls prog 205 #[.pointer (some ⟨b,0,none⟩),.agg #[.int .u64 (a:Int),.int .u8 (o:Int)]] w λe w'=>e=.returned (.agg #[.int .u64 (a':Int),.int .u8 (o':Int)])/\JY w w' b g wj p2:=by
 have hlt:=hp.lt;go_enter func205,ntmps205;go_wp2_with fail;refine(Xs b g wj a 8 a' p p1 _ (hp.allocs _ _) (by omega) (by omega) h1).mono ?_;rintro _ w1⟨rfl,g1,hp1,hm1,ht1⟩;have cB:=(ht1.cell (p:=⟨w.heap.size,1,none⟩) (by simp;omega) (Yk hp _ (Ql _))).trans (Ja (heap_alloc2_old _ _ _));have rR:=(ht1.block _ (by simp) (Yk hp _ (by omega))).trans (heap_alloc2_new _ _ _);have hw:IntKind.u64.wrap (o:Int)=(o:Int):=JI _ (by omega) (by omega);have hw2:IntKind.u8.wrap (o':Int)=(o':Int):=JbT _ (by omega) (by omega);have RR:Hid _:=rR;have HM1:Hid (Jm _ _ _):=hm1;have HT1:Hid (Tch _ _ _):=ht1;have HP:Hid (Jc _ _ _ _ _ _):=hp;go_wp2_with fail;refine(Xs b g1 wj o 1 o' p1 p2 _ hp1 (by omega) (by omega) h2).mono ?_;rintro _ w2⟨rfl,g2,hp2,hm2,ht2⟩;have rR2:=(ht2.block _ (by have:=HT1.o.size;simp at this;omega) (Jb8 HP _ _ HM1 _ (by omega) (by omega))).trans RR.out;obtain⟨e0,e1⟩:=rows rR2;have fR:∀j,w2.frozen? ⟨w.heap.size+1,j,none⟩=false:=λj=>Qg _ _ _ _ _ rR2;have RR2:Hid _:=rR2;go_wp2;rw[set2 _ _ _ _ _ _ _ RR2.out];refine QJ (v:=.agg #[.int .u64 (a':Int),.int .u8 (o':Int)]) (Qq results205 _ _ (w.heap.size+1) _ _ (0,0) _ rfl (Qi w2 _ _ _ _ _ RR2) underlying80 rfl (by kernel_rfl)) rfl ⟨rfl,?_⟩;have hn2:¬(w.heap.size+1=b\/some (w.heap.size+1)=g2):=by have h3:=HM1.o.trans hm2 HT1.o.size;exact Jb8 HP _ _ h3 _ (by omega) (by omega)
 refine JY.fresh HP.o _ _ (HM1.o.trans hm2 HT1.o.size) (Yp HT1.o ht2 HM1.o) ?_ (Ts w2 (w.heap.size+1) _) (by omega);exact hp2.tch (Ts w2 (w.heap.size+1) _) (λe=>hn2 (.inl e.symm)) (λj hj e=>hn2 (.inr (by rw[hj,e])))

theorem Jjz(E:Nat->Addr)(b:Nat)(g:Option Nat)(wj:Int)(a o:Nat)(p:PS)(w:World)(hE:Env E w)(hp:Jc w b g wj .nilIface p)(hd:p.len<=90000000)(h1:p.num a 8=none):
  Calls prog 205 #[.pointer (some ⟨b,0,none⟩),.agg #[.int .u64 (a:Int),.int .u8 (o:Int)]] w λe w'=>∃x y:Int,e=.returned (.agg #[.int .u64 x,.int .u8 y])/\Ja9 E w w' b g wj:=by
 have hlt:=hp.lt;go_enter func205,ntmps205;go_wp2_with fail;refine(YU E b g wj a 8 p _ (hE.allocs _ _) (hp.allocs _ _) (by omega) (by omega) h1).mono ?_;rintro _ w2⟨rfl,hp1,(HT1:Hid _)⟩;have hb1:w.heap.size ≠ b:=by omega
 have hb2:w.heap.size+1 ≠ b:=by omega
 have cB:=(HT1.cell (p:=⟨w.heap.size,1,none⟩) (by simp;omega) hb1).trans (Ja (heap_alloc2_old _ _ _));have rR2:=(HT1.block _ (by simp) hb2).trans (heap_alloc2_new _ _ _);obtain⟨e0,e1⟩:=rows rR2;have fR:∀j,w2.frozen? ⟨w.heap.size+1,j,none⟩=false:=λj=>Qg _ _ _ _ _ rR2;have RR2:Hid _:=rR2;have HP:Hid (Jc _ _ _ _ _ _):=hp;go_wp2_with fail;refine(Jag b g wj _ _ p _ _ _ hp1).mono ?_;rintro _ _⟨rfl,rfl⟩;go_wp2;rw[set2 _ _ _ _ _ _ _ RR2.out];refine QJ (v:=.agg #[.int .u64 0,.int .u8 0]) (Qq results205 _ _ (w.heap.size+1) _ _ (0,0) _ rfl (Qi w2 _ _ _ _ _ RR2) underlying80 rfl (by kernel_rfl)) rfl ⟨0,0,rfl,?_⟩;refine Ja9.fresh (p2:=p) HP _ _ (.inl rfl) (HT1.mono (λj h=>.inl (.inl h))) ?_ (Ts w2 (w.heap.size+1) _) (by omega);exact hp1.tch (Ts w2 (w.heap.size+1) _) (λe=>hb2 e.symm) (λj hj e=>by subst e;have:=(HP.o.own _ hj).2;omega)

theorem JjA(E:Nat->Addr)(b:Nat)(hb12:18<=b)(g:Option Nat)(wj:Int)(a o a':Nat)(p p1:PS)(w:World)(hE:Env E w)(hp:Jc w b g wj .nilIface p)(hd:p.len<=90000000)(ho:o<256)(h1:p.num a 8=some (a',p1))(h2:p1.num o 1=none):
  Calls prog 205 #[.pointer (some ⟨b,0,none⟩),.agg #[.int .u64 (a:Int),.int .u8 (o:Int)]] w λe w'=>∃x y:Int,e=.returned (.agg #[.int .u64 x,.int .u8 y])/\Ja9 E w w' b g wj:=by
 have hlt:=hp.lt;go_enter func205,ntmps205;go_wp2_with fail;refine(Xs b g wj a 8 a' p p1 _ (hp.allocs _ _) (by omega) (by omega) h1).mono ?_;rintro _ w1⟨rfl,g1,hp1,(HM1:Hid _),(HT1:Hid _)⟩;have cB:=(HT1.cell (p:=⟨w.heap.size,1,none⟩) (by simp;omega) (Yk hp _ (Ql _))).trans (Ja (heap_alloc2_old _ _ _));have rR:=(HT1.block _ (by simp) (Yk hp _ (by omega))).trans (heap_alloc2_new _ _ _);have hw:IntKind.u64.wrap (o:Int)=(o:Int):=JI _ (by omega) (by omega);have RR:Hid _:=rR;have HP:Hid _:=hp;have hE1:=(hE.allocs _ _).tch HT1 (JaS hb12 hp);go_wp2_with fail;refine(YU E b g1 wj o 1 p1 _ hE1 hp1 (by omega) (by have:=Jaf _ _ _ _ _ h1;omega) h2).mono ?_;rintro _ w2⟨rfl,hp2,ht2⟩;have hb2:w.heap.size+1 ≠ b:=by omega
 have rR2:=(ht2.block _ (by have:=HT1.o.size;simp at this;omega) hb2).trans RR.out;obtain⟨e0,e1⟩:=rows rR2;have fR:∀j,w2.frozen? ⟨w.heap.size+1,j,none⟩=false:=λj=>Qg _ _ _ _ _ rR2;have RR2:Hid _:=rR2;go_wp2;rw[set2 _ _ _ _ _ _ _ RR2.out];refine QJ (v:=.agg #[.int .u64 (a':Int),.int .u8 0]) (Qq results205 _ _ (w.heap.size+1) _ _ (0,0) _ rfl (Qi w2 _ _ _ _ _ RR2) underlying80 rfl (by kernel_rfl)) rfl ⟨(a':Int),0,rfl,?_⟩;have hn2:¬(w.heap.size+1=b\/some (w.heap.size+1)=g1):=Jb8 HP _ _ HM1 _ (by omega) (by omega);refine Ja9.fresh (p2:=p1) HP _ _ HM1 (HT1.trans ht2 (λj h=>.inl (.inl h))) ?_ (Ts w2 (w.heap.size+1) _) (by omega);exact hp2.tch (Ts w2 (w.heap.size+1) _) (λe=>hn2 (.inl e.symm)) (λj hj e=>hn2 (.inr (by rw[hj,e])))

def ErrN(E:Nat->Addr)(g:Nat)(w:World):Value->Nat->Prop
 | v,0=>v=eV E g
 | v,n+1=>∃p s u,w.heap[p]? =some (.cells #[.string s,u] 237)/\ErrN E g w u n/\v=.iface 235 (.pointer (some ⟨p,0,none⟩))
theorem ErrN.wrap{g:Nat}(p:Nat)(s:BA)(v:Value)(n:Nat)(hp:w.heap[p]? =some (.cells #[.string s,v] 237))(h:ErrN E g w v n):ErrN E g w (.iface 235 (.pointer (some ⟨p,0,none⟩))) (n+1):=⟨p,s,v,hp,h,rfl⟩
theorem ErrN.ri{g:Nat}{motive:∀v n,ErrN E g w v n->Prop}(base:motive (eV E g) 0 rfl)(wrap:∀p s v n hp h,motive v n h->motive _ _ (.wrap p s v n hp h)):∀{v n} (h:ErrN E g w v n),motive v n h
 | _,0,rfl=>base
 | _,n+1,⟨p,s,u,hp,hu,rfl⟩=>wrap p s u n hp hu (ErrN.ri base wrap hu)
structure Jp(E:Nat->Addr)(g:Nat)(w:World)(v:Value):Prop where
 of ::
 len:∃n,ErrN E g w v n
theorem Jp.base{g:Nat} :Jp E g w (eV E g):=⟨0,rfl⟩
theorem Jp.wrap{g:Nat}(p:Nat)(s:BA)(v:Value)(hp:w.heap[p]? =some (.cells #[.string s,v] 237)):Jp E g w v->Jp E g w (.iface 235 (.pointer (some ⟨p,0,none⟩)))
 | ⟨n,h⟩=>⟨n+1,.wrap p s v n hp h⟩
theorem Jp.tch{g:Nat}{S:Nat->Prop}(h:Jp E g w v)(k:Tch S w w')(hs:∀p s u,w.heap[p]? =some (.cells #[.string s,u] 237)->¬S p):Jp E g w' v:=by
 obtain⟨n,h⟩:=h
 induction h using ErrN.ri with
 | base=>exact .base
 | wrap p s u n hp _ ih=>exact .wrap p s u ((k.block p (Jb hp) (hs p s u hp)).trans hp) ih
theorem Jp.later{g:Nat}(h:Jp E g w v)(k:Below w.heap.size w w'):Jp E g w' v:=
 h.tch (Tch.of_below k) (λp _ _ hp hj=>by have:=(Jb hp);omega)
theorem Jp.iface{g:Nat}(h:Jp E g w v):∃t u,v=.iface t u:=by
 obtain⟨n,h⟩:=h
 cases h using ErrN.ri<;>exact⟨_,_,rfl⟩

theorem Xl(s:BA)(t:TypeId)(v:Value)(w:World):Calls prog 80 #[.string s,.iface t v] w λe w'=>e=.returned (.iface 235 (.pointer (some ⟨w.heap.size,0,none⟩)))/\w'=w.alloc (.cells #[.string s,.iface t v] 237):=by
 go_enter func80,ntmps80;go_wp2;go_ret;exact⟨rfl,rfl⟩
theorem Jho(i:Nat)(hi:i<10)(w:World):Calls prog 101 #[.int .i64 (i:Int)] w λe w'=>(∃s:BA,s.size<=10/\e=.returned (.string s))/\w=w':=by
 have h0:(0:Int)<=(i:Int):=by omega
 have h1:(i:Int)<100:=by omega
 have h2:(i:Int)<10:=by omega
 go_enter func101,ntmps101;go_wp2;go_ret;refine⟨⟨_,?_,rfl⟩,rfl⟩;rw[ByteArray.size_extract];omega
