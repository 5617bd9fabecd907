import Derived.Stop.Asserts
import Derived.RowKitTokens
import Derived.Test.YtighkdnooglfjaaGreatDoorLcSt
namespace Go.Proofs.YtighkdnooglfjaaGreatDoor
open Tryz
set_option maxRecDepth 100000
open Go.RowKit Go.Extern.Stop Go.Stop Go.Extern

variable {a b:BA}{c:BA×Int}{l:List (Value×Value)}{seen:List Nat}{p r:Nat}{E:Nat->Addr}{S:Nat->Prop}{k:TypeId}{v:Value}{w w':World}
def Jnd:Array Value->Sem Value:=Extern.ReflectliteType.method λt=>do Extern.Rtype.noPackHeld "Comparable" t;pure (.bool (<-typeInfo t).comparable)
theorem Jk2(v:Value)(w:World):(Extern.ReflectliteType.typeOf #[.iface 509 v]).run prog w=.ok (.iface 338 (.agg #[.pointer (some ⟨18,509,none⟩)])) w:=by kernel_rfl
theorem Je3(w:World):(Jnd #[.agg #[.pointer (some ⟨18,509,none⟩)]]).run prog w=.ok (.bool true) w:=by kernel_rfl
theorem Jbc(v:Value)(w:World):(Go.method 641 338 v "Comparable").run prog w=.ok (392,v) w:=by kernel_rfl
theorem Jny:(prog.info? 509).map (·.comparable)=some true:=by kernel_rfl
theorem Jnz:(prog.info? 531).map (·.size)=some 1:=by kernel_rfl
theorem Joj(v:Value)(xT:TypeId)(w:World):(Instr.typeAssert (.iface 509 v) xT 340 true).run prog w=.ok (.tuple #[.nilIface,.bool false]) w:=run_typeAssert_lacksB underlying340 (by kernel_rfl) (by kernel_rfl) v xT w
theorem Jjt(v:Value)(xT:TypeId)(w:World):(Instr.typeAssert (.iface 509 v) xT 343 true).run prog w=.ok (.tuple #[.nilIface,.bool false]) w:=run_typeAssert_lacksB underlying343 (by kernel_rfl) (by kernel_rfl) v xT w
theorem Jhy(v:Value)(xT:TypeId)(w:World):(Instr.typeAssert (.iface 509 v) xT 344 true).run prog w=.ok (.tuple #[.nilIface,.bool false]) w:=run_typeAssert_lacksB underlying344 (by kernel_rfl) (by kernel_rfl) v xT w
theorem Jok(v:Value)(xT:TypeId)(w:World):(Instr.typeAssert (.iface 235 v) xT 340 true).run prog w=.ok (.tuple #[.nilIface,.bool false]) w:=run_typeAssert_lacksB underlying340 (by kernel_rfl) (by kernel_rfl) v xT w
theorem Jhm(v:Value)(xT:TypeId)(w:World):(Instr.typeAssert (.iface 235 v) xT 343 true).run prog w=.ok (.tuple #[.iface 235 v,.bool true]) w:=run_typeAssert_hasB underlying343 (by kernel_rfl) v xT w
theorem Jfh(v:Value)(w:World):(Go.method 641 235 v "Unwrap").run prog w=.ok (387,v) w:=by kernel_rfl

def Ss:List Nat:=[0,1,2,3,4,5,6,7]
structure Sent(E:Nat->Addr)(w:World):Prop where
 row:∀g∈Ss,∃ca ta,w.heap[(E g).block]? =some (.cells ca ta (0,0))
 inj:∀g∈Ss,∀h∈Ss,E g=E h->g=h
theorem Sent.tch(h:Sent E w)(k:Tch S w w')(hs:∀g∈Ss,¬S (E g).block):Sent E w':=
 ⟨λg hg=>by obtain⟨ca,ta,hr⟩:=h.row g hg;exact⟨ca,ta,(k.block _ (Jb hr) (hs g hg)).trans hr⟩,h.inj⟩
theorem ErrN.unique{g:Nat} :∀{n m:Nat} {v:Value},ErrN E g w v n->ErrN E g w v m->n=m
 | 0,0,_,_,_=>rfl
 | 0,m+1,_,h,k=>by obtain⟨p,s,u,_,_,rfl⟩:=k;simp[ErrN]at h
 | n+1,0,_,h,k=>by obtain⟨p,s,u,_,_,rfl⟩:=h;simp[ErrN]at k
 | n+1,m+1,_,h,k=>by
  obtain⟨p,s,u,hp,hu,rfl⟩:=h;obtain⟨p2,s2,u2,hp2,hu2,e⟩:=k;simp only[Value.iface.injEq,Value.pointer.injEq,Qh,Addr.mk.injEq,and_true,true_and]at e;rw[<-e,hp]at hp2;simp only[Qh,Obj.cells.injEq,and_true]at hp2;have:u=u2:=by have:=congrArg (λa=>a[1]?) hp2;simpa using this
  subst this;rw[ErrN.unique hu hu2]
theorem Jnw(E:Nat->Addr)(g:Nat)(w:World):∃f:Value->Nat,∀v n,ErrN E g w v n->f v=n:=by
 classical
 refine⟨λv=>if h:∃n,ErrN E g w v n then h.choose else 0,λv n h=>?_⟩;simp only;rw[dif_pos ⟨n,h⟩];exact ErrN.unique (Exists.choose_spec ⟨n,h⟩) h

theorem JnA(g t:Nat)(hg:g∈Ss)(ht:t∈Ss)(hS:Sent E w)(v:Value)(n:Nat)(hv:ErrN E g w v n):
  Calls prog 132 #[v,eV E t,.bool true] w λe w'=>e=.returned (.bool (g == t))/\w'=w:=by
 obtain⟨i,hi,hcmp⟩:=Option.map_eq_some_iff.1 Jny;obtain⟨j,hj,hjs⟩:=Option.map_eq_some_iff.1 Jnz;obtain⟨ca,ta,ha⟩:=hS.row g hg;obtain⟨cb,tb,hb⟩:=hS.row t ht;have HI:Hid (E g=E t->g=t):=hS.inj g hg t ht;clear hS hg ht;obtain⟨f,(HF:Hid _)⟩:=Jnw E g w;have nE:=Joj;have uE:=Jjt;have vE:=Jhy;have nW:=Jok;have uW:=Jhm;have mU:=Jfh;go_enter func132,ntmps132;go_wp2;go_loopw [0] (λE' wl=>wl=w/\∃m,ErrN E g w E' m) (λE' _=>f E')
 case atStart=>exact⟨rfl,n,hv⟩
 case round=>
  obtain⟨rfl,m,hm⟩:=hrel
  cases hm using ErrN.ri with
  | base=>
   by_cases hab:g=t
   ·subst hab;have heq:=run_eql_iface_ptr_same (P:=prog) wr (E g) underlying92 underlying509 hi hcmp hj;go_wp2;go_ret;exact⟨by simp,rfl⟩
   ·have hne:E g ≠ E t:=λe=>hab (HI.o e);have heq:=run_eql_iface_ptr_other (P:=prog) wr underlying92 underlying509 hi hcmp hj (by rw[hjs];decide) hne ha hb;go_wp2;go_ret;exact⟨by rw[beq_eq_false_iff_ne.2 hab];rfl,rfl⟩
  | wrap p s u m1 hp h1 ih=>
   clear ih;have hty:=run_eql_iface_types (P:=prog) 235 509 (.pointer (some ⟨p,0,none⟩)) (.pointer (some (E t))) underlying92 (by decide) wr;have hlen:=HF.o _ _ h1;have hlen0:=HF.o _ _ (ErrN.wrap p s u m1 hp h1);have c1:wr.cell? ⟨p,1,none⟩=some u:=Ja hp;have hne:∃a b,u=.iface a b:=(by cases h1 using ErrN.ri<;>exact⟨_,_,rfl⟩);obtain⟨u1,v1,rfl⟩:=hne;have HC:Hid (ErrN E g wr (.iface u1 v1) m1):=h1;clear h1;go_wp2;go_roundw
   case rel=>exact⟨trivial,m1,HC.o⟩
   case measure=>show f (.iface u1 v1)<_;rw[hlen,hlen0];omega

theorem Jnj(g t:Nat)(hg:g∈Ss)(ht:t∈Ss)(hS:Sent E w)(v:Value)(hv:Jp E g w v):
  Calls prog 75 #[v,eV E t] w λe w'=>e=.returned (.bool (g == t))/\w'=w:=by
 have h10:= @run_callFunc_extern prog 131 _ Extern.ReflectliteType.typeOf func131 (by kernel_rfl) (by kernel_rfl) (by kernel_rfl) (by kernel_rfl);have h30:= @run_callFunc_extern prog 392 _ Jnd func392 (by kernel_rfl) (by kernel_rfl) (by kernel_rfl) (by kernel_rfl);have tT:=Jk2;have cT:=Je3;have mR:=Jbc;obtain⟨a,b,rfl⟩:=hv.iface;obtain⟨n,hn⟩:=hv.len;have hcon:=JnA g t hg ht hS (.iface a b) n hn;clear hv hn hS hg ht;go_enter func75,ntmps75;go_wp2_with (first|(go_at_call 132;refine hcon.mono ?_;rintro e w'⟨rfl,rfl⟩)|go_in);go_ret;exact⟨rfl,rfl⟩
set_option maxHeartbeats 1000000
open Go.RowKit

def JkJ(g:Nat):Int:=if g=0 then 2 else if g=1 then 3 else if g=2 then 4 else if g=3 then 5 else if g=4 then 6 else if g=5 then 7 else if g=6 then 8 else 1
theorem ZN(w:World):Calls prog 42 #[.nilIface] w λe w'=>e=.returned (.int .i64 0)/\w'=w:=by
 go_enter func42,ntmps42;go_wp2;go_ret;exact⟨rfl,rfl⟩
theorem Ji0(g:Nat)(hg:g∈Ss)(hE:Env E w)(hS:Sent E w)(v:Value)(hv:Jp E g w v):
  Calls prog 42 #[v] w λe w'=>e=.returned (.int .i64 (JkJ g))/\w'=w:=by
 have HI:Hid (∀t∈Ss,_):=λt ht=>Jnj g t hg ht hS v hv;obtain⟨a,b,rfl⟩:=hv.iface;have c0:=hE.tip;have c1:=hE.input;have c2:=hE.exist;have c3:=hE.sum;have c4:=hE.root;have c5:=hE.range;have c6:=hE.form;have c7:=hE.torn;have hg':g=0\/g=1\/g=2\/g=3\/g=4\/g=5\/g=6\/g=7:=by simpa [Ss]using hg
 rcases hg' with rfl|rfl|rfl|rfl|rfl|rfl|rfl|rfl
 all_goals go_enter func42,ntmps42;go_wp2_with (go_at_call 75;refine(HI _ (by decide)).mono ?_;rintro _ _⟨rfl,rfl⟩);go_ret;exact⟨rfl,rfl⟩

theorem Tch.box(w:World)(o:Obj):Tch NoB w (w.alloc o).drew:=(Ta _ w o).trans (Td _ (w.alloc o) 1) (λ_ h=>.inl h)
theorem Tch.box2(w:World)(o o':Obj):Tch NoB w ((w.alloc o).alloc o').drew:=((Ta _ w o).trans (Ta _ (w.alloc o) o') (λ_ h=>.inl h)).trans (Td _ ((w.alloc o).alloc o') 1) (λ_ h=>.inl h)
theorem Bs.tchOwn{base:Nat}{xs:List Value}(h:Bs base w v xs)(hg:w.grownBy w' v.ownBlock){W:World}(hW:W.heap.size<=base)(k:Tch NoB W w):Tch NoB W w':=
 k.trans (Tg hg) (λj hj=>by
  have:=(h.own j hj.symm).1;exact .inr (by omega))
theorem Jeo(n k:Nat)(w:World)(hk:k<=8):
  Calls prog 49 #[.int .u64 (n:Int),.int .i64 (k:Int)] w λe w'=>e=.returned (.string ⟨(beL n k k).toArray⟩)/\Tch NoB w w':=by
 obtain⟨i0,hi,hz0,hz1,hz2⟩:=info_parts JcL;have hki:(k:Int)<=8:=by omega
 go_enter func49,ntmps49;go_wp2;go_loopw [5,6] (λv i wr=>∃j:Nat,j<=k/\i=.int .i64 ((k:Int)-1-(j:Int))/\Hid (Bs w.heap.size wr v (bc (beL n k j)))/\Hid (Tch NoB w wr)) (λ_ i _=>(intOf i+1).toNat)
 case atStart=>exact⟨0,by omega,congrArg (Value.int .i64) (by omega),Bs.nil _ _,Te _ _⟩
 case round=>
  obtain⟨j,hj,rfl,hbs,htc⟩:=hrel
  by_cases hjk:j<k
  ·obtain⟨m,hm',hmk⟩:∃m:Nat,(k:Int)-1-(j:Int)=(m:Int)/\k-1-j=m:=⟨k-1-j,by omega,rfl⟩
   have HM:Hid ((k:Int)-1-(j:Int)=(m:Int)/\k-1-j=m):=⟨hm',hmk⟩
   have hm7:m<=7:=(by omega);have HJ:Hid (j<k):=hjk;rw[hm'];clear hm' hmk hjk;have hw8:IntKind.i64.wrap (8*(m:Int))=8*(m:Int):=Xe _ (by omega) (by omega);have hsh:Op.shift .shr .u64 (n:Int) .i64 (8*(m:Int))=pure (.int .u64 ((n:Int)/2 ^ (8*m))):=by
    rw[shift_shr_u64 _ _ _ (by omega) (by omega)]
    congr 3
   have Hbl:Hid ((bc (beL n k j)).length=j):=(by rw[Yt,Jf]:(bc (beL n k j)).length=j)
   obtain⟨a0,m0,c0,hv0⟩:=hbs.out.shape3;subst hv0;go_wp2_with (at_builtin;refine XL rfl _ _ 52 52 5 rfl i0 _ underlying52 hi hz0 hz1 hz2 rfl rfl (hbs.out.alloc _) _ 1 [_] rfl (Src.ofSlice _ underlying52 _ 1 1 _ rfl (cell_one_new _ _ _) (by simp[Value.oneCell'])) (by rw[Hbl.out];omega) (by have:=htc.out.size;simp;omega) ?_;intro v1 w1 hbs1 hg1 hmv1;have HB1:Hid _:=hbs1;have Hg1:Hid _:=hg1;clear hmv1 hbs1 hg1);have e2:[Value.int .u8 (IntKind.u8.wrap ((n:Int)/2 ^ (8*(m:Int)).toNat))]=bc [UInt8.ofNat (n/2 ^ (8*m))]:=(by rw[IntKind.wrap_u8',show (8*(m:Int)).toNat=8*m by omega];simp[bc]);have e3:bc (beL n k (j+1))=bc (beL n k j)++bc [UInt8.ofNat (n/2 ^ (8*m))]:=(by rw[<-HM.o.2,<-ZL];rfl);have hjk:=HJ.o;go_roundw
   case rel=>
    refine⟨j+1,by omega,?_,?_,?_⟩
    ·exact congrArg (Value.int .i64) (by have:=HM.o.1;omega)
    ·rw[e3,<-e2];exact HB1
    ·exact Bs.tchOwn (hbs.out.alloc _) Hg1.out (Ql _) (htc.out.trans (Ta NoB _ _) noE)
   case measure=>simp only[intOf];omega
  ·obtain rfl:j=k:=(by omega);have hneg:¬(0:Int)<=(j:Int)-1-(j:Int):=(by omega);have hcv:=Ya (P:=prog) (l:=beL n j j) hbs.out 52 9 5 underlying52 underlying5 underlying9;obtain⟨a0,m0,c0,hv0⟩:=hbs.out.shape3;subst hv0;go_wp2;go_ret;exact⟨rfl,htc.out⟩
theorem JcM(h:a.data.toList=b.data.toList):a=b:=by
 cases a;cases b;simp only at h;rw[Array.toList_inj]at h;rw[h]
theorem Jbw(b:Nat)(w:World)(k:Nat)(hb:b<256)(hc:w.cell? ⟨k,0,none⟩=some (.int .u8 (b:Int))):(convert 52 9 (.slice (some ⟨k,0,none⟩) 1 1)).run prog w=.ok (.string ⟨#[UInt8.ofNat b]⟩) w:=by
 have:=run_convert_bytes_back (P:=prog) w 52 9 5 ⟨k,0,none⟩ 1 [UInt8.ofNat b] underlying52 underlying5 underlying9 (λj hj=>by
  obtain rfl:j=0:=by simpa using hj
  rw[Addr.add_lit,Nat.zero_add,hc];simp[Nat.mod_eq_of_lt hb])
 exact this
theorem Jhp(b:Nat)(w:World)(hb:b<256):(convert 52 9 (.slice (some ⟨w.heap.size,0,none⟩) 1 1)).run prog (w.alloc (.cells #[.int .u8 (b:Int)] 5))=.ok (.string ⟨#[UInt8.ofNat b]⟩) (w.alloc (.cells #[.int .u8 (b:Int)] 5)):=by
 have:=run_convert_bytes_back (P:=prog) (w.alloc (.cells #[.int .u8 (b:Int)] 5)) 52 9 5 ⟨w.heap.size,0,none⟩ 1 [UInt8.ofNat b] underlying52 underlying5 underlying9 (λj hj=>by
  obtain rfl:j=0:=by simpa using hj
  rw[Addr.add_lit,Nat.zero_add,Ja (Qf _ _)];simp[Nat.mod_eq_of_lt hb])
 exact this
theorem Jb4(a o:Nat)(w:World)(ho:o<256):
  Calls prog 38 #[.agg #[.int .u64 (a:Int),.int .u8 (o:Int)]] w λe w'=>e=.returned (.string ⟨(outB (a,o)).toArray⟩)/\Tch NoB w w':=by
 have HO:Hid (o<256):=ho;have hin:=λW=>Jeo a 8 W (by omega);have hby:=λW=>Jhp o W ho;have hadd:∀W,(Op.stringOp .add (⟨(beL a 8 8).toArray⟩:BA) ⟨#[UInt8.ofNat o]⟩).run prog W=.ok (.string ⟨(outB (a,o)).toArray⟩) W:=λW=>by
  have:=run_string_add_sum (P:=prog) W (⟨(beL a 8 8).toArray⟩:BA) ⟨#[UInt8.ofNat o]⟩ (by show (beL a 8 8).toArray.size+1<=_;simp[Jf]);rw[this];exact congrArg (λx=>Result.ok (Value.string x) W) (JcM (by simp[outB,beL]))
 have hb2:=Jbw o ((w.alloc (.cells #[.int .u64 (a:Int),.int .u8 (o:Int)] 80)).alloc (.cells #[.int .u8 (o:Int)] 5)).drew (w.heap.size+1) ho (Ja (heap_alloc2_new _ _ _));have HIN:Hid _:=hin;clear hin ho;go_enter func38,ntmps38;go_wp2;go_region_with (go_at_call 49;refine(HIN.o _).mono ?_;rintro _ w1⟨rfl,ht1⟩;have r1:w1.heap[w.heap.size]? =some (.cells #[.int .u64 (a:Int),.int .u8 (o:Int)] 80):=(ht1.block _ (by first|(simp;done)|(simp;omega)) (λh=>h)).trans (by first|exact Qf _ _|exact heap_alloc2_old _ _ _);have c1:w1.cell? ⟨w.heap.size,1,none⟩=some (.int .u8 (o:Int)):=Ja r1;(try (have q1:w1.heap[w.heap.size+1]? =some (.cells #[.int .u8 (o:Int)] 5):=(ht1.block _ (by simp) (λh=>h)).trans (heap_alloc2_new _ _ _);have q2:=Jbw o w1 (w.heap.size+1) HO.o (Ja q1)));have HT1:Hid _:=ht1;clear ht1 r1)
 all_goals
  go_wp2;go_ret;refine⟨rfl,?_⟩
  first
   | exact(Tch.box w _).trans HT1.o noE
   | exact(Tch.box2 w _ _).trans HT1.o noE
   | exact((Tch.box w _).trans HT1.o noE).trans (Ta NoB w1 _) noE
theorem ZQ(c:BA×Int)(w:World)(h0:0<=c.2)(h3:c.2<256)(hz:c.1.size<=1000000):
  Calls prog 54 #[.agg #[.string c.1,.int .i64 c.2]] w λe w'=>e=.returned (.string ⟨(Je c).toArray⟩)/\Tch NoB w w':=by
 obtain⟨s,n⟩:=c;simp only at h0 h3 hz;obtain⟨m,rfl⟩:=Int.eq_ofNat_of_zero_le h0;have hm:m<256:=by omega
 have hwr:IntKind.u8.wrap (m:Int)=(m:Int):=by simp[IntKind.wrap,IntKind.bits,IntKind.signed];omega
 have hby:=Jbw m ((w.alloc (.cells #[.string s,.int .i64 (m:Int)] 49)).alloc (.cells #[.int .u8 (m:Int)] 5)) (w.heap.size+1) hm (Ja (heap_alloc2_new _ _ _));have hadd:∀W,(Op.stringOp .add s ⟨#[UInt8.ofNat m]⟩).run prog W=.ok (.string ⟨(Je (s,(m:Int))).toArray⟩) W:=λW=>by
  have:=run_string_add_sum (P:=prog) W s ⟨#[UInt8.ofNat m]⟩ (by show s.size+1<=_;omega);rw[this];have hx:JE (m:Int)=m:=by have:=Yv (m:Int) h0 (by omega);omega
  exact congrArg (λx=>Result.ok (Value.string x) W) (JcM (by simp[Je,hx,beL]))
 clear h0 h3 hz;go_enter func54,ntmps54;go_wp2;go_ret;exact⟨rfl,(Ta NoB w _).trans (Ta NoB _ _) (λ_ h=>.inl h)⟩

theorem Ji8(wj:Nat)(l:List (BA×Int))(h:∀x∈l,Jk wj x):(l.flatMap Je).length=l.length*(wj+1):=by
 induction l with
 | nil=>simp
 | cons x r ih=>rw[QG,Qe,Yu (h x QM),ih (λy hy=>h y (QP _ hy)),Qp,Nat.succ_mul];omega
theorem JaE(o:Nat×Nat):(outB o).length=9:=by simp[outB,Jf]
theorem Jek(l:List (Nat×Nat)):(l.flatMap outB).length=l.length*9:=by
 induction l with
 | nil=>simp
 | cons x r ih=>rw[QG,Qe,JaE,ih,Qp,Nat.succ_mul];omega
def txA1(t:TxL)(i:Nat):List UInt8:=beL t.1.length 1 1++(t.1.take i).flatMap Je
def txA2(t:TxL)(i:Nat):List UInt8:=txA1 t t.1.length++(beL t.2.length 1 1++(t.2.take i).flatMap outB)
theorem Jj5(t:TxL)(i:Nat)(h:i<t.1.length):txA1 t (i+1)=txA1 t i++Je t.1[i]:=by
 unfold txA1;rw[QQ h];simp only[List.flatMap_append,QG,List.flatMap_nil,QC,Qs]
theorem Jj6(t:TxL)(i:Nat)(h:i<t.2.length):txA2 t (i+1)=txA2 t i++outB t.2[i]:=by
 unfold txA2;rw[QQ h];simp only[List.flatMap_append,QG,List.flatMap_nil,QC,Qs]
theorem JdL(t:TxL):txA2 t t.2.length=txB t:=by
 unfold txA2 txA1 txB Jfa XE;rw[List.take_length,List.take_length]
theorem JdK(wj:Nat)(t:TxL)(h:TxOk wj t)(hw:wj<=32)(i:Nat):(txA1 t i).length<=100:=by
 unfold txA1;rw[Qe,Jf,Ji8 wj _ (λx hx=>h.coins x (List.mem_of_mem_take hx)),QB];have:=h.ins;have:min i t.1.length<=3:=by omega
 have:min i t.1.length*(wj+1)<=3*(32+1):=Nat.mul_le_mul this (by omega);omega
theorem JdM(wj:Nat)(t:TxL)(h:TxOk wj t)(hw:wj<=32)(i:Nat):(txA2 t i).length<=200:=by
 unfold txA2;rw[Qe,Qe,Jf,Jek,QB];have:=JdK wj t h hw t.1.length;have:=h.made;omega
theorem YP(a b:List UInt8)(h:a.length+b.length<=1000000000)(W:World):(Op.stringOp .add (⟨a.toArray⟩:BA) ⟨b.toArray⟩).run prog W=.ok (.string ⟨(a++b).toArray⟩) W:=by
 rw[run_string_add_sum (P:=prog) W (⟨a.toArray⟩:BA) ⟨b.toArray⟩ (by show a.toArray.size+b.toArray.size<=_;simp;omega)];exact congrArg (λx=>Result.ok (Value.string x) W) (JcM (by simp))
theorem beL1(n:Nat):beL n 1 1=[UInt8.ofNat n]:=by simp[beL]
theorem Jk5(wj:Nat)(hw:wj<=32)(B:Nat)(v1 v2:Value)(t:TxL)(hk:TxOk wj t)(w:World)(h1:JD B w v1 t.1)(h2:Jq B w v2 t.2):
  Calls prog 76 #[.agg #[v1,v2]] w λe w'=>e=.returned (.string ⟨(txB t).toArray⟩)/\Tch NoB w w':=by
 obtain⟨a1,c1,rfl⟩:=h1.shape;obtain⟨a2,c2,rfl⟩:=h2.shape;have l1:=hk.ins;have l2:=hk.made;have HK:Hid _:=hk;have H1:Hid _:=h1;have H2:Hid _:=h2;clear hk h1 h2;have hw1:IntKind.u8.wrap (t.1.length:Int)=(t.1.length:Int):=by simp[IntKind.wrap,IntKind.bits,IntKind.signed];omega
 have hw2:IntKind.u8.wrap (t.2.length:Int)=(t.2.length:Int):=by simp[IntKind.wrap,IntKind.bits,IntKind.signed];omega
 have hby:=Jbw t.1.length ((w.alloc (.cells #[.slice a1 t.1.length c1,.slice a2 t.2.length c2] 98)).alloc (.cells #[.int .u8 (t.1.length:Int)] 5)) (w.heap.size+1) (by omega) (Ja (heap_alloc2_new _ _ _));have T2:Hid (Tch NoB w ((w.alloc (.cells #[.slice a1 t.1.length c1,.slice a2 t.2.length c2] 98)).alloc (.cells #[.int .u8 (t.1.length:Int)] 5))):=(Ta NoB w _).trans (Ta NoB _ _) (λ_ h=>.inl h);have R2:Hid (((w.alloc (.cells #[.slice a1 t.1.length c1,.slice a2 t.2.length c2] 98)).alloc (.cells #[.int .u8 (t.1.length:Int)] 5)).heap[w.heap.size]? =some (.cells #[.slice a1 t.1.length c1,.slice a2 t.2.length c2] 98)):=heap_alloc2_old _ _ _;go_enter func76,ntmps76;go_wp2;go_loopw [3,4] (λs i wr=>∃k:Nat,k<=t.1.length/\i=.int .i64 k/\s=.string ⟨(txA1 t k).toArray⟩/\Hid (Tch NoB w wr)/\Hid (wr.heap[w.heap.size]? =some (.cells #[.slice a1 t.1.length c1,.slice a2 t.2.length c2] 98))) (λ_ i _=>t.1.length-(intOf i).toNat)
 case atStart=>exact⟨0,by omega,rfl,by rw[txA1,beL1];simp,T2.out,R2.o⟩
 case round=>
  clear hby T2 R2;obtain⟨k,hk,rfl,rfl,hT,hR⟩:=hrel;have d0:wr.cell? ⟨w.heap.size,0,none⟩=some (.slice a1 t.1.length c1):=Ja hR.out
  by_cases hlt:k<t.1.length
  ·rcases H1.o with⟨e,e2⟩|⟨gi,oi,cc,e,_,hgi,hcell⟩
   ·rw[e2]at hlt;simp at hlt
   simp only[Qy,true_and]at e;obtain⟨rfl,rfl⟩:=e;obtain⟨f0,f1⟩:=hcell k hlt;have hck:=HK.o.coins _ (Qx hlt);have q0:=(hT.out.cell (p:=⟨gi,oi+k*2,none⟩) hgi (λh=>h)).trans f0;have q1:=(hT.out.cell (p:=⟨gi,oi+k*2+1,none⟩) hgi (λh=>h)).trans f1;have hlti:(k:Int)<(t.1.length:Int):=(by omega);have hcb:=Yu hck;have hadd:=YP (txA1 t k) (Je t.1[k]) (by have:=JdK wj t HK.o hw k;omega);rw[<-Jj5 t k hlt]at hadd;have HKT:Hid (Calls _ _ _ wr _):=ZQ t.1[k] wr hck.2.1 (by have:=hck.2.2;omega) (by rw[hck.1];omega);clear hcell f0 f1 hck hcb;generalize t.1[k]=c at *;generalize hX1:txA1 t (k+1)=X1 at *;generalize txA1 t k=X0 at *;have HX1:Hid (_=X1):=hX1;clear hX1;generalize Je c=cb at *;go_wp2_with (go_at_call 54;refine HKT.o.mono ?_;rintro _ w1⟨rfl,ht1⟩;have HT1:Hid _:=ht1;clear ht1);go_roundw
   case rel=>exact⟨k+1,by omega,by go_num,by rw[HX1.o],hT.out.trans HT1.o noE,(HT1.o.block _ (Jb hR.out) (λh=>h)).trans hR.out⟩
   case measure=>simp[intOf];omega
  ·have HK1:Hid (k=t.1.length):=(by omega:k=t.1.length)
   have hge:¬(k:Int)<(t.1.length:Int):=(by omega);have d1:wr.cell? ⟨w.heap.size,1,none⟩=some (.slice a2 t.2.length c2):=Ja hR.out;have hby:=Jhp t.2.length wr (by omega);have hadd0:=YP (txA1 t k) [UInt8.ofNat t.2.length] (by have:=JdK wj t HK.o hw k;simp;omega);have HX:Hid (txA1 t k++[UInt8.ofNat t.2.length]=txA2 t 0):=(by rw[HK1.o,txA2,beL1];simp:txA1 t k++[UInt8.ofNat t.2.length]=txA2 t 0)
   have TB:Hid (Tch NoB w (wr.alloc (.cells #[.int .u8 (t.2.length:Int)] 5))):=hT.out.trans (Ta NoB wr _) noE;have RB:Hid ((wr.alloc (.cells #[.int .u8 (t.2.length:Int)] 5)).heap[w.heap.size]? =some (.cells #[.slice a1 t.1.length c1,.slice a2 t.2.length c2] 98)):=(Below.heap_alloc wr _ _ (Jb hR.out)).trans hR.out;generalize txA1 t k++[UInt8.ofNat t.2.length]=X at *;generalize txA1 t k=X0 at *;go_wp2;clear hby hadd0 d0 d1 hge hR hT;go_loopw [3,5] (λs i wr=>∃k:Nat,k<=t.2.length/\i=.int .i64 k/\s=.string ⟨(txA2 t k).toArray⟩/\Hid (Tch NoB w wr)/\Hid (wr.heap[w.heap.size]? =some (.cells #[.slice a1 t.1.length c1,.slice a2 t.2.length c2] 98))) (λ_ i _=>t.2.length-(intOf i).toNat)
   case atStart=>exact⟨0,by omega,rfl,by rw[HX.o],TB.out,RB.out⟩
   case round=>
    clear HX TB RB HK1 hk hlt;obtain⟨k,hk,rfl,rfl,hT,hR⟩:=hrel;rename_i wq _;have d1:wr.cell? ⟨w.heap.size,1,none⟩=some (.slice a2 t.2.length c2):=Ja hR.out
    by_cases hlt:k<t.2.length
    ·rcases H2.o with⟨e,e2⟩|⟨gi,oi,cc,e,_,hgi,hcell⟩
     ·rw[e2]at hlt;simp at hlt
     simp only[Qy,true_and]at e;obtain⟨rfl,rfl⟩:=e;obtain⟨f0,f1⟩:=hcell k hlt;have hok:=HK.o.outs _ (Qx hlt);have q0:=(hT.out.cell (p:=⟨gi,oi+k*2,none⟩) hgi (λh=>h)).trans f0;have q1:=(hT.out.cell (p:=⟨gi,oi+k*2+1,none⟩) hgi (λh=>h)).trans f1;have hlti:(k:Int)<(t.2.length:Int):=(by omega);have hadd:=YP (txA2 t k) (outB t.2[k]) (by have:=JdM wj t HK.o hw k;rw[JaE];omega);rw[<-Jj6 t k hlt]at hadd;have HKT:Hid (Calls _ _ _ wr _):=Jb4 t.2[k].1 t.2[k].2 wr hok.2;clear hcell f0 f1 hok;generalize hc:t.2[k]=c at *;obtain⟨ca,co⟩:=c;clear hc;simp only at q0 q1;generalize hX1:txA2 t (k+1)=X1 at *;generalize txA2 t k=X0 at *;have HX1:Hid (_=X1):=hX1;clear hX1;generalize outB (ca,co)=cb at *;go_wp2_with (go_at_call 38;refine HKT.o.mono ?_;rintro _ w1⟨rfl,ht1⟩;have HT1:Hid _:=ht1;clear ht1);go_roundw
     case rel=>exact⟨k+1,by omega,by go_num,by rw[HX1.o],hT.out.trans HT1.o noE,(HT1.o.block _ (Jb hR.out) (λh=>h)).trans hR.out⟩
     case measure=>simp[intOf];omega
    ·have HK2:Hid (k=t.2.length):=(by omega:k=t.2.length)
     have hge:¬(k:Int)<(t.2.length:Int):=(by omega);have HE:Hid (txA2 t k=txB t):=(by rw[HK2.o];exact JdL t:txA2 t k=txB t)
     generalize txA2 t k=X at *;go_wp2;go_ret;exact⟨by rw[<-HE.o];rfl,hT.out⟩

theorem Jbd(c:Int)(n:Nat)(w:World)(h1: -9223372036854775808<=c)(h2:c<9223372036854775808)(hn:0<n)(hn2:n<9223372036854775808):
  Calls prog 22 #[.int .i64 c,.int .i64 (n:Int)] w λe w'=>(∃r:Nat,r<n/\e=.returned (.int .i64 (r:Int)))/\w'=w:=by
 obtain⟨d,hd,hd1,hd2,hdc⟩:∃d:Int,(0<=d)/\d<9223372036854775808/\(c<0->wrap64 (-(wrap64 (c+1)))=d)/\(¬c<0->c=d):=by
  by_cases h:c<0
  ·refine⟨-(c+1),by omega,by omega,λ_=>?_,λh'=>absurd h h'⟩;have e1:wrap64 (c+1)=c+1:=(by simp only[wrap64];omega);rw[e1];simp only[wrap64];omega
  ·exact⟨c,by omega,by omega,λh'=>absurd h' h,λ_=>rfl⟩
 obtain⟨m,rfl⟩:=Int.eq_ofNat_of_zero_le hd;have hne:¬(n:Int)=0:=by omega
 by_cases hc:c<0
 ·have HD2:Hid (wrap64 (-(wrap64 (c+1)))=(m:Int)):=hd2 hc;clear h1 h2 hd hd1 hd2 hdc;go_enter func22,ntmps22;go_wp2;go_ret;exact⟨⟨m % n,Nat.mod_lt _ hn,by show Ending.returned (Value.int .i64 ((wrap64 (-wrap64 (c+1))).tmod n))=_;rw[HD2.o];rfl⟩,rfl⟩
 ·obtain rfl:=hdc hc;clear h1 h2 hd hd1 hd2 hdc;go_enter func22,ntmps22;go_wp2;go_ret;exact⟨⟨m % n,Nat.mod_lt _ hn,rfl⟩,rfl⟩
theorem ZP(n:Nat)(s:BA)(w:World)(h1:1<=n)(h32:n<=32)(hs:s.size<1152921504606846976)(h7:13<w.heap.size)(hT:∀i,i<64->w.cell? ⟨13,i,none⟩=some (.int .u32 (Ks.getD i 0))):
  Calls prog 39 #[.int .i64 (n:Int),.string s] w λe w'=>e=.returned (.string ⟨((digL s.data.toList).take n).toArray⟩)/\Tch NoB w w':=by
 have HD:Hid (Calls _ _ _ _ _):=JiV n s w h1 h32 hs h7 hT;clear hT;go_enter func39,ntmps39;go_wp2_with (go_at_call 73;refine HD.o.mono ?_;rintro _ w1⟨rfl,hb⟩;have HB:Hid _:=hb;clear hb);go_ret;exact⟨rfl,(Tch.of_below HB.o).mono (λj hj=>.inr hj)⟩
theorem Jji(c:Int)(w:World)(h1: -9223372036854775808<=c)(h2:c<9223372036854775808):
  Calls prog 36 #[.int .i64 c] w λe w'=>(∃n:Nat,1<=n/\n<=32/\e=.returned (.int .i64 (n:Int)))/\Tch NoB w w':=by
 have HP:Hid (∀W,Calls prog 22 #[.int .i64 c,.int .i64 ((10:Nat):Int)] W _):=λW=>Jbd c 10 W h1 h2 (by omega) (by omega);have HC:Hid (∀r,r<10->∃n:Nat,1<=n/\n<=32/\(w.alloc (.cells #[.int .i64 1,.int .i64 1,.int .i64 2,.int .i64 3,.int .i64 4,.int .i64 8,.int .i64 16,.int .i64 31,.int .i64 32,.int .i64 32] 3)).cell? ⟨w.heap.size,r,none⟩=some (.int .i64 (n:Int))):=by
  intro r hr;have hrow:=Qf w (.cells #[.int .i64 1,.int .i64 1,.int .i64 2,.int .i64 3,.int .i64 4,.int .i64 8,.int .i64 16,.int .i64 31,.int .i64 32,.int .i64 32] 3);obtain rfl|rfl|rfl|rfl|rfl|rfl|rfl|rfl|rfl|rfl:r=0\/r=1\/r=2\/r=3\/r=4\/r=5\/r=6\/r=7\/r=8\/r=9:=by omega
  all_goals first|exact⟨1,by omega,by omega,Ja hrow⟩|exact⟨2,by omega,by omega,Ja hrow⟩|exact⟨3,by omega,by omega,Ja hrow⟩|exact⟨4,by omega,by omega,Ja hrow⟩|exact⟨8,by omega,by omega,Ja hrow⟩|exact⟨16,by omega,by omega,Ja hrow⟩|exact⟨31,by omega,by omega,Ja hrow⟩|exact⟨32,by omega,by omega,Ja hrow⟩
 clear h1 h2;go_enter func36,ntmps36;go_wp2_with (go_at_call 22;refine(HP.o _).mono ?_;rintro _ w1⟨⟨r,hr,rfl⟩,rfl⟩;obtain⟨n,n1,n2,hcell⟩:=HC.o r hr);go_ret;exact⟨⟨n,n1,n2,rfl⟩,Ta _ _ _⟩
def JR(w:World)(v:Value)(l:List Held):Prop:=
 (v=.slice none 0 0/\l=[])\/∃g o c,v=.slice (some ⟨g,o,none⟩) l.length c/\g<w.heap.size/\∀i (h:i<l.length),w.cell? ⟨g,o+i*4,none⟩=some (.string l[i].1.1)/\w.cell? ⟨g,o+i*4+1,none⟩=some (.int .i64 l[i].1.2)/\w.cell? ⟨g,o+i*4+2,none⟩=some (.int .u64 ((l[i].2.1:Nat):Int))/\w.cell? ⟨g,o+i*4+3,none⟩=some (.int .u8 ((l[i].2.2:Nat):Int))
theorem JR.tch{l:List Held}(h:JR w v l)(k:Tch NoB w w'):JR w' v l:=by
 rcases h with h|⟨gi,oi,c,hv,h2,h3⟩
 ·exact .inl h
 ·refine .inr ⟨gi,oi,c,hv,Qk h2 k.size,λi hi=>?_⟩;have hc:∀o,w'.cell? ⟨gi,o,none⟩=w.cell? ⟨gi,o,none⟩:=λo=>k.cell (p:=⟨gi,o,none⟩) h2 (λe=>e);rw[hc,hc,hc,hc];exact h3 i hi
theorem JR.shape{l:List Held}(h:JR w v l):∃a c,v=.slice a l.length c:=by
 rcases h with⟨rfl,rfl⟩|⟨gi,oi,c,rfl,_⟩
 ·exact⟨none,0,rfl⟩
 ·exact⟨_,_,rfl⟩
theorem JiN(h:a.toList=b.toList):a=b:=by
 rw[ByteArray.toList_eq,ByteArray.toList_eq]at h;exact JcM h
theorem Jf9{l:List Held}{k:Nat}(hk:k<l.length)(he:l[k].1=c)(hn:∀j (hj:j<l.length),j<k->l[j].1 ≠ c):JO l c=some k:=by
 unfold JO;rw[List.findIdx?_eq_some_iff_getElem];exact⟨hk,by simpa using he,λj hj=>by simpa using hn j (by omega) hj⟩
theorem JkS{l:List Held}(hn:∀j (hj:j<l.length),l[j].1 ≠ c):JO l c=none:=by
 unfold JO;rw[List.findIdx?_eq_none_iff];intro x hx;obtain⟨j,hj,rfl⟩:=List.getElem_of_mem hx;simpa using hn j hj
def JC(l:List Held)(c:BA×Int):Int:=match JO l c with|some k=>(k:Int)|none=> -1
theorem Je6(v:Value)(l:List Held)(c:BA×Int)(w:World)(h:JR w v l)(hl:l.length<1000000000):
  Calls prog 48 #[v,.agg #[.string c.1,.int .i64 c.2]] w λe w'=>e=.returned (.int .i64 (JC l c))/\Tch NoB w w':=by
 obtain⟨a,cc,rfl⟩:=h.shape;obtain⟨s,n⟩:=c;have H:Hid _:=h;clear h;have TA:Hid (∀o,Tch NoB w (w.alloc o)):=λo=>Ta _ w o;simp only;go_enter func48,ntmps48;go_wp2;go_loopw [5] (λi wr=>∃k n':Nat,k<=l.length/\i=.int .i64 k/\wr=(w.alloc (.cells #[.string s,.int .i64 n] 49)).drewN n'/\Hid (∀j (hj:j<l.length),j<k->l[j].1 ≠ (s,n))) (λi _=>l.length-(intOf i).toNat)
 case atStart=>exact⟨0,0,by omega,rfl,rfl,λj _ h=>absurd h (by omega)⟩
 case round=>
  obtain⟨k,n',hk,rfl,rfl,HN⟩:=hrel
  by_cases hlt:k<l.length
  ·rcases H.out with⟨e,e2⟩|⟨gi,oi,c2,e,hgi,hcell⟩
   ·rw[e2]at hlt;simp at hlt
   simp only[Qy,true_and]at e;obtain⟨rfl,rfl⟩:=e;obtain⟨f0,f1,_,_⟩:=hcell k hlt;have q0:((w.alloc (.cells #[.string s,.int .i64 n] 49)).drewN n').cell? ⟨gi,oi+k*4,none⟩=_:=((TA.out _).cell (p:=⟨gi,oi+k*4,none⟩) hgi (λh=>h)).trans f0;have q1:((w.alloc (.cells #[.string s,.int .i64 n] 49)).drewN n').cell? ⟨gi,oi+k*4+1,none⟩=_:=((TA.out _).cell (p:=⟨gi,oi+k*4+1,none⟩) hgi (λh=>h)).trans f1;have hlti:(k:Int)<(l.length:Int):=(by omega);clear hcell q0 q1
   by_cases he:l[k].1=(s,n)
   ·have e1:l[k].1.1=s:=(by rw[he]);have e2:l[k].1.2=n:=(by rw[he]);rw[e1]at f0;rw[e2]at f1;have HF:Hid (JO l (s,n)=some k):=Jf9 hlt he HN.o;clear he e1 e2;go_wp2;go_region
    all_goals go_wp2
    all_goals go_ret
    all_goals exact⟨by unfold JC;rw[HF.o];rfl,(TA.out _).trans (Td NoB _ _) noE⟩
   ·have HE:Hid _:=he;have hrl:∃n2:Nat,True:=⟨0,trivial⟩
    generalize hx:l[k].1=x at *;obtain⟨xs,xn⟩:=x;simp only at f0 f1;have HX:Hid _:=hx;clear hx
    by_cases hs:xs.toList=s.toList
    ·have hs':xs=s:=JiN hs;subst hs';have hn:¬xn=n:=λe=>he (by rw[e]);clear he hs;go_wp2;go_region
     all_goals go_wp2
     all_goals go_roundw
     case rel=>exact⟨k+1,n'+1,by omega,by go_num,rfl,λj hj hjk=>by
      by_cases e:j=k
      ·subst e;exact λh=>HE.o (HX.o.symm.trans h)
      ·exact HN.o j hj (by omega)⟩
     case measure=>simp[intOf];omega
    ·clear he;go_wp2;go_region
     all_goals go_wp2
     all_goals go_roundw
     case rel=>exact⟨k+1,n'+1,by omega,by go_num,rfl,λj hj hjk=>by
      by_cases e:j=k
      ·subst e;exact λh=>HE.o (HX.o.symm.trans h)
      ·exact HN.o j hj (by omega)⟩
     case measure=>simp[intOf];omega
  ·have HK:Hid (JO l (s,n)=none):=JkS (λj hj=>HN.o j hj (by omega));have hge:¬(k:Int)<(l.length:Int):=(by omega);go_wp2;go_ret;exact⟨by unfold JC;rw[HK.o];rfl,(TA.out _).trans (Td NoB _ _) noE⟩

def mpE:Nat->List (Value×Value)->List MapEntry
 | _,[]=>[]
 | i,q::r=>⟨q.1,q.2,i⟩ :: mpE (i+1) r
theorem Jbf(l:List (Value×Value)):∀i,(mpE i l).length=l.length:=by
 induction l with
 | nil=>intro i;rfl
 | cons b r ih=>intro i;simp[mpE,ih]
theorem XZ(l:List (Value×Value)):∀i j:Nat,(mpE i l)[j]? =(l[j]?).map (λq=>⟨q.1,q.2,i+j⟩):=by
 induction l with
 | nil=>intro i j;simp[mpE]
 | cons b r ih=>
  intro i j
  cases j with
  | zero=>simp[mpE]
  | succ j=>
   rw[mpE,List.getElem?_cons_succ,List.getElem?_cons_succ,ih (i+1) j];have e:i+1+j=i+(j+1):=(by omega);rw[e]
theorem Jdc(l:List (Value×Value))(q:Value×Value):∀i,mpE i (l++[q])=mpE i l++[⟨q.1,q.2,i+l.length⟩]:=by
 induction l with
 | nil=>intro i;simp[mpE]
 | cons x r ih=>
  intro i;rw[List.cons_append,mpE,ih (i+1),mpE,List.cons_append,Qp];have e:i+1+r.length=i+(r.length+1):=by omega
  rw[e]
theorem Jdd(l:List (Value×Value))(j:Nat)(v:Value):(mpE 0 l).modify j (λe=>{ e with val:=v })=mpE 0 (l.modify j (λq=>(q.1,v))):=by
 apply List.ext_getElem?;intro i;rw[List.getElem?_modify,XZ,XZ,List.getElem?_modify]
 by_cases h:j=i
 ·subst h;cases l[j]?<;>simp
 ·cases l[i]?<;>simp[h]
def MpAt(w:World)(p:Nat)(l:List (Value×Value)):Prop:=w.heap[p]? =some (.map (mpE 0 l).toArray l.length)
def _root_.Go.World.setMp(w:World)(p:Nat)(l:List (Value×Value)):World:={ w with heap:=w.heap.setIfInBounds p (.map (mpE 0 l).toArray l.length) }
theorem Zu{o:Obj}(h:w.heap[p]? =some o)(l:List (Value×Value)):MpAt (w.setMp p l) p l:=(Go.MapKept.heap_set h).1
theorem Tch.setMp(w:World)(p:Nat)(l:List (Value×Value)):Tch (λk=>k=p) w (w.setMp p l):=⟨rfl,rfl,rfl,by simp[World.setMp],λk _ hn=>by simp[World.setMp,Ne.symm hn]⟩
theorem MpAt.self(h:MpAt w p l):w.setMp p l=w:=by
 unfold World.setMp;have e:w.heap.setIfInBounds p (.map (mpE 0 l).toArray l.length)=w.heap:=by
  apply Array.ext_getElem?;intro i;rw[Array.getElem?_setIfInBounds]
  by_cases hi:p=i
  ·subst hi;have:=(Jb h)
   rw[if_pos rfl,if_pos this];exact h.symm
  ·rw[if_neg hi]
 rw[e]
theorem MpAt.next(h:MpAt w p l)(k:Tch S w w')(hs:¬S p):MpAt w' p l:=(k.block p (Jb h) hs).trans h
def IsK(k:TypeId)(v:Value):Prop:=(∃l,keyOf prog k v=some l)\/(prog.underlying k=some .string/\∃s,v=.string s)
structure KLw(k:TypeId):Prop where
 check:∀(w:World)(em:Bool){v:Value},IsK k v->(Instr.checkKey em 10000 k v).run prog w=.ok () w
 find:∀(w:World){x:Value},IsK k x->∀es:List MapEntry,(∀e∈es,IsK k e.key)->((Instr.findKey k x es).run prog w=.ok none w/\∀e∈es,e.key ≠ x)\/∃j e,(Instr.findKey k x es).run prog w=.ok (some (j,e.val)) w/\es[j]? =some e/\e.key=x
 stays:∀(w:World){v:Value},IsK k v->(Instr.keyThatStays v v).run prog w=.ok v w
theorem KLw.of(h:Go.WideMaps.KeyLaw prog k)(hn:prog.underlying k ≠ some .string):KLw k:=by
 have key:∀{v:Value},IsK k v->∃l,keyOf prog k v=some l:=λhv=>hv.elim (λh=>h) (λh=>absurd h.1 hn);refine⟨λw em v hv=>?_,λw x hx es hes=>?_,λw v hv=>?_⟩
 ·obtain⟨l,hl⟩:=key hv;exact h.check w em hl
 ·obtain⟨l,hl⟩:=key hx;exact h.find w hl es (λe he=>key (hes e he))
 ·obtain⟨l,hl⟩:=key hv;exact h.stays w hl
theorem KLw.str(hk:prog.underlying k=some .string):KLw k:=by
 have key:∀{v:Value},IsK k v->∃s,v=.string s:=λhv=>by
  rcases hv with⟨l,hl⟩|⟨_,h⟩
  ·obtain⟨s,e,_⟩:=Go.WideMaps.string_of_keyOf hk hl;exact⟨s,e⟩
  ·exact h
 refine⟨λw em v hv=>?_,λw x hx es hes=>?_,λw v hv=>?_⟩
 ·obtain⟨s,rfl⟩:=key hv;exact Go.MapKept.run_checkKey hk (d:=.string) (k:=.string s) trivial em 9999
 ·obtain⟨s,rfl⟩:=key hx;have hks:∀x∈es,Go.MapKept.IsKey .string x.key:=λx hxm=>by
   obtain⟨s',e⟩:=key (hes x hxm);rw[e];trivial
  rcases Go.MapKept.findNow_spec (d:=.string) (k:=.string s) trivial es 0 hks with⟨h1,h2⟩|⟨j,e0,h1,h2,h3⟩
  ·exact .inl ⟨Go.MapKept.run_findKey hk h1,h2⟩
  ·exact .inr ⟨j,e0,by simpa using Go.MapKept.run_findKey hk h1,h2,h3⟩
 ·obtain⟨s,rfl⟩:=key hv;exact Go.MapKept.run_keyThatStays (d:=.string) (k:=.string s) trivial
structure MpTy(m k e:TypeId)(z:Value):Prop where
 u:prog.underlying m=some (.map k e)
 law:KLw k
 zero:∀w,(zeroValue e).run prog w=.ok z w
section
variable {m k e:TypeId}{z:Value}{w:World}{p:Nat}{l:List (Value×Value)}{x v:Value}
theorem MpTy.all(hl:∀q∈l,IsK k q.1):∀e∈mpE 0 l,IsK k e.key:=λe he=>by
 obtain⟨j,hj⟩:=List.getElem?_of_mem he;rw[XZ]at hj
 cases hq:l[j]? with
 | none=>rw[hq]at hj;cases hj
 | some q=>rw[hq]at hj;cases hj;exact hl q (QS hq)
theorem MpTy.miss(T:MpTy m k e z)(hx:IsK k x)(hl:∀q∈l,IsK k q.1)(hn:x ∉ l.map (·.1))(w:World):(Instr.findKey k x (mpE 0 l)).run prog w=.ok none w:=by
 rcases T.law.find w hx (mpE 0 l) (MpTy.all hl) with⟨h1,_⟩|⟨j,e,_,h2,h3⟩
 ·exact h1
 ·rw[XZ]at h2
  cases hq:l[j]? with
  | none=>rw[hq]at h2;cases h2
  | some q=>rw[hq]at h2;cases h2;exact absurd (QK.2 ⟨q,QS hq,h3⟩) hn
theorem MpTy.hit(T:MpTy m k e z)(hl:∀q∈l,IsK k q.1)(hd:(l.map (·.1)).Nodup)(j:Nat)(hj:l[j]? =some (x,v))(w:World):(Instr.findKey k x (mpE 0 l)).run prog w=.ok (some (j,v)) w:=by
 have hs:=hl _ (QS hj)
 rcases T.law.find w hs (mpE 0 l) (MpTy.all hl) with⟨_,h1⟩|⟨i,e,h1,h2,h3⟩
 ·exact absurd rfl (h1 ⟨x,v,0+j⟩ (QS (by rw[XZ,hj];rfl)))
 ·rw[XZ]at h2
  cases hq:l[i]? with
  | none=>rw[hq]at h2;cases h2
  | some q=>
   rw[hq]at h2
   cases h2
   have hij:i=j:=by
    have a1:(l.map (·.1))[i]? =some x:=(by rw[List.getElem?_map,hq];exact congrArg some h3);have a2:(l.map (·.1))[j]? =some x:=(by rw[List.getElem?_map,hj];rfl);have b1:=(Qo.1 a1)
    have b2:=(Qo.1 a2)
    exact(List.getElem_inj hd).1 (b1.2.trans b2.2.symm)
   subst hij;rw[hj]at hq
   cases hq
   exact h1
theorem Jae(w:World)(T:MpTy m k e z)(b:Bool)(hx:IsK k x):(Instr.checkKey b 10000 k x).run prog w=.ok () w:=T.law.check w b hx
theorem JnK(T:MpTy m k e z)(h:MpAt w p l)(hx:IsK k x)(hl:∀q∈l,IsK k q.1)(hn:x ∉ l.map (·.1)):(Instr.mapUpdate m (.map (some p)) x v).run prog w=.ok () (w.setMp p (l++[(x,v)])):=by
 simp[Instr.mapUpdate,run_underlying T.u,Go.MapKept.run_getObj_map h,Jae w T _ hx,T.miss hx hl hn w,Go.MapKept.run_setObj_map _ h,Result.andThen,World.setMp,Jdc]
theorem Jfj(T:MpTy m k e z)(h:MpAt w p l)(hl:∀q∈l,IsK k q.1)(hd:(l.map (·.1)).Nodup)(j:Nat)(hj:l[j]? =some (x,v))(c:Bool):(Instr.lookup m (.map (some p)) x c).run prog w=.ok (if c then .tuple #[v,.bool true] else v) w:=by
 simp[Instr.lookup,run_underlying T.u,Go.MapKept.run_getObj_map h,Jae w T _ (hl _ (List.mem_of_getElem? hj)),T.hit hl hd j hj w,Result.andThen]
theorem Jip(T:MpTy m k e z)(h:MpAt w p l)(hx:IsK k x)(hl:∀q∈l,IsK k q.1)(hn:x ∉ l.map (·.1))(c:Bool):(Instr.lookup m (.map (some p)) x c).run prog w=.ok (if c then .tuple #[z,.bool false] else z) w:=by
 simp[Instr.lookup,run_underlying T.u,Go.MapKept.run_getObj_map h,Jae w T _ hx,T.miss hx hl hn w,T.zero w,Result.andThen]
theorem Jfi(T:MpTy m k e z)(h:MpAt w p l)(hx:IsK k x)(hl:∀q∈l,IsK k q.1)(hn:x ∉ l.map (·.1)):(Instr.mapEntry m (.map (some p)) x).run prog w=.ok (.tuple #[z,.int .i64 (l.length:Int)]) (w.setMp p (l++[(x,z)])):=by
 simp[Instr.mapEntry,run_underlying T.u,Go.MapKept.run_getObj_map h,Jae w T _ hx,T.miss hx hl hn w,T.zero w,Go.MapKept.run_setObj_map _ h,Result.andThen,World.setMp,Jdc,goInt]
theorem Jlj(T:MpTy m k e z)(h:MpAt w p l)(hl:∀q∈l,IsK k q.1)(hd:(l.map (·.1)).Nodup)(j:Nat)(hj:l[j]? =some (x,v)):(Instr.mapEntry m (.map (some p)) x).run prog w=.ok (.tuple #[v,.int .i64 (j:Int)]) w:=by
 have hs:=hl _ (QS hj);have he:(mpE 0 l)[j]? =some ⟨x,v,j⟩:=by rw[XZ,hj];simp
 have hm:(mpE 0 l).modify j (λe=>{ e with key:=x })=mpE 0 l:=by
  apply List.ext_getElem?;intro i;rw[List.getElem?_modify]
  by_cases hij:j=i
  ·subst hij;rw[he];simp
  ·simp[hij]
 simp[Instr.mapEntry,run_underlying T.u,Go.MapKept.run_getObj_map h,T.law.check w _ hs,T.hit hl hd j hj w,he,T.law.stays w hs,Go.MapKept.run_setObj_map _ h,Result.andThen,hm,goInt];exact h.self
theorem Jgv(h:MpAt w p l)(j:Nat)(hj:j<l.length)(t:TypeId)(v:Value):(Instr.entryStore t (.map (some p)) (.int .i64 (j:Int)) v).run prog w=.ok () (w.setMp p (l.modify j (λq=>(q.1,v)))):=by
 have hf:(mpE 0 l).findIdx? (λe=>(e.born:Int) == (j:Int))=some j:=by
  rw[List.findIdx?_eq_some_iff_getElem];refine⟨by rw[Jbf];exact hj,?_,λi hi=>?_⟩
  ·have:=XZ l 0 j;rw[Qd (by rw[Jbf];exact hj),Qd hj]at this;simp only[Option.map_some,Qh]at this;rw[this];simp
  ·have hl2:i<l.length:=(by omega);have:=XZ l 0 i;rw[Qd (by rw[Jbf];exact hl2),Qd hl2]at this;simp only[Option.map_some,Qh]at this;rw[this];simp;omega
 simp[Instr.entryStore,Go.MapKept.run_getObj_map h,asInt,asIntOf,hf,Go.MapKept.run_setObj_map _ h,Result.andThen,World.setMp,Jdd]
theorem JnL(T:MpTy m k e z)(h:MpAt w p l)(hl:∀q∈l,IsK k q.1)(hd:(l.map (·.1)).Nodup)(j:Nat)(hj:l[j]? =some (x,v))(v':Value):(Instr.mapUpdate m (.map (some p)) x v').run prog w=.ok () (w.setMp p (l.modify j (λq=>(q.1,v')))):=by
 have hs:=hl _ (QS hj);have he:(mpE 0 l)[j]? =some ⟨x,v,j⟩:=by rw[XZ,hj];simp
 have hm:(mpE 0 l).modify j (λe=>{ e with key:=x,val:=v' })=mpE 0 (l.modify j (λq=>(q.1,v'))):=by
  rw[<-Jdd];apply List.ext_getElem?;intro i;rw[List.getElem?_modify,List.getElem?_modify]
  by_cases hij:j=i
  ·subst hij;rw[he];simp
  ·simp[hij]
 simp[Instr.mapUpdate,run_underlying T.u,Go.MapKept.run_getObj_map h,T.law.check w _ hs,T.hit hl hd j hj w,he,T.law.stays w hs,Go.MapKept.run_setObj_map _ h,Result.andThen,World.setMp,hm]
theorem JcO(m:TypeId)(w:World):(Instr.makeMap m none).run prog w=.ok (.map (some w.heap.size)) (w.alloc (.map #[] 0))/\MpAt (w.alloc (.map #[] 0)) w.heap.size []:=⟨by simp[Instr.makeMap,Result.andThen],Qf _ _⟩
end
structure MIt(w:World)(r p:Nat)(l:List (Value×Value))(seen:List Nat):Prop where
 it:w.heap[r]? =some (.mapIter (some p) l.length seen.toArray l.length)
 at_:MpAt w p l
 nd:seen.Nodup
 lt:∀i∈seen,i<l.length
theorem MIt.next(h:MIt w r p l seen)(k:Tch S w w')(hr:¬S r)(hp:¬S p):MIt w' r p l seen:=
 ⟨(k.block r (Jb h.it) hr).trans h.it,h.at_.next k hp,h.nd,h.lt⟩
theorem JbA{m e:TypeId}(hu:prog.underlying m=some (.map k e))(h:MpAt w p l):(Instr.range m (.map (some p))).run prog w=.ok (.pointer (some ⟨w.heap.size,0,none⟩)) (w.alloc (.mapIter (some p) l.length #[] l.length))/\MIt (w.alloc (.mapIter (some p) l.length #[] l.length)) w.heap.size p l []:=
 ⟨run_range_map w m k e p _ _ hu h,Qf _ _,h.next (Ta NoB _ _) (λh=>h),List.nodup_nil,λ_ h=>by cases h⟩
theorem JcP(h:MIt w r p l seen)(ty:TypeId):
  ((∀i,i<l.length->i∈seen)/\(Instr.next (.pointer (some ⟨r,0,none⟩)) false ty).run prog w=.ok (.tuple #[.bool false]) w)\/
  ∃j k v w',j ∉ seen/\l[j]? =some (k,v)/\(Instr.next (.pointer (some ⟨r,0,none⟩)) false ty).run prog w=.ok (.tuple #[.bool true,k,v]) w'/\MIt w' r p l (seen++[j])/\Tch (λi=>i=r) w w'/\(Instr.entry (.pointer (some ⟨r,0,none⟩))).run prog w'=.ok (.tuple #[k,v]) w':=by
 have hborn:∀x∈(mpE 0 l).toArray.toList,∃j q,l[j]? =some q/\x=⟨q.1,q.2,j⟩:=λx hx=>by
  obtain⟨j,hj⟩:=List.getElem?_of_mem (show x∈mpE 0 l by simpa using hx);rw[XZ]at hj
  cases hq:l[j]? with
  | none=>rw[hq]at hj;cases hj
  | some q=>rw[hq]at hj;simp at hj;exact⟨j,q,hq,hj.symm⟩
 have hne:r ≠ p:=λe=>by have:=h.it;rw[e,h.at_]at this;cases this
 rcases run_next_at (P:=prog) w ty r p l.length l.length seen.toArray (mpE 0 l).toArray l.length h.it h.at_ (λx hx=>by
  obtain⟨j,q,hq,rfl⟩:=hborn x hx;exact(Qo.1 hq).1) (Ql _) with⟨h0,hrun⟩|⟨e,he,w1,hw1,hrun⟩
 ·refine .inl ⟨λi hi=>?_,hrun⟩;apply Classical.byContradiction;intro hn;have hm:(⟨l[i].1,l[i].2,i⟩:MapEntry)∈(leftOf (mpE 0 l).toArray seen.toArray).toList:=by
   unfold leftOf;simp only[Array.toList_filter,QN];refine⟨QS (i:=i) (by rw[XZ,Qd hi];simp),by simpa using hn⟩
  have:(leftOf (mpE 0 l).toArray seen.toArray).toList=[]:=by rw[<-List.length_eq_zero_iff];simpa using h0
  rw[this]at hm
  cases hm
 ·unfold leftOf at he;simp only[Array.toList_filter,QN]at he;obtain⟨j,q,hq,rfl⟩:=hborn e he.1;have hjs:j ∉ seen:=by simpa using he.2
  have t1:Tch (λi=>i=r) w w1:=by
   rcases hw1 with rfl|rfl
   ·exact Te _ _
   ·exact Td _ _ 1
  have hr1:=(t1.block p (Jb h.at_) (λe=>hne e.symm)).trans h.at_;have hrs:r<w1.heap.size:=Qk (Jb h.it) t1.size;refine .inr ⟨j,q.1,q.2,_,hjs,hq,hrun,⟨?_,?_,?_,?_⟩,?_,?_⟩
  ·simp[Go.ChangeMaps.setBlock,hrs]
  ·unfold MpAt;simp only[Go.ChangeMaps.setBlock];rw[Array.getElem?_setIfInBounds_ne hne];exact hr1
  ·rw[List.nodup_append];exact⟨h.nd,by simp,λa ha b hb=>by rw[Qt]at hb;rintro rfl;exact hjs (hb ▸ ha)⟩
  ·intro i hi;rw[QE,Qt]at hi
   rcases hi with hi|rfl
   ·exact h.lt i hi
   ·exact(Qo.1 hq).1
  ·refine t1.trans ⟨rfl,rfl,rfl,by simp[Go.ChangeMaps.setBlock],λk _ hn=>by simp[Go.ChangeMaps.setBlock,Ne.symm hn]⟩ (λ_ h=>.inl h)
  ·refine run_entry_at _ r p l.length seen.toArray (mpE 0 l).toArray l.length ⟨q.1,q.2,j⟩ (by simp[Go.ChangeMaps.setBlock,hrs]) (by simp only[Go.ChangeMaps.setBlock];rw[Array.getElem?_setIfInBounds_ne hne];exact hr1) he.1 ?_;have hb:(mpE 0 l).map (·.born)=List.range l.length:=by
    apply List.ext_getElem?;intro i;rw[List.getElem?_map,XZ]
    by_cases hi:i<l.length
    ·rw[Qd hi,List.getElem?_range hi];simp
    ·rw[List.getElem?_eq_none (by omega),List.getElem?_eq_none (by simp;omega)];rfl
   show ((mpE 0 l).map (·.born)).Nodup;rw[hb];exact List.nodup_range
