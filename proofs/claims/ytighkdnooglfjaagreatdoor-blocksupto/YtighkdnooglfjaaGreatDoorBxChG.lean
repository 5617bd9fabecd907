import Derived.Test.YtighkdnooglfjaaGreatDoorBxChA
import Derived.Deep.DeepCutAuto
namespace Go.Proofs.YtighkdnooglfjaaGreatDoor
open Tryz
set_option maxRecDepth 100000
set_option maxHeartbeats 2000000
open Go.RowKit

abbrev BV:=BA×Nat×Option Nat
def bV (b:BV):Value:=.agg #[.string b.1,.int .i64 (b.2.1:Int),Jl b.2.2]
def JH:Nat->List BV->List MapEntry
 | _,[]=>[]
 | i,b :: r=>⟨.int .i64 (i:Int),bV b,i⟩ :: JH (i+1) r
theorem Jb0 (bs:List BV):∀i,(JH i bs).length=bs.length:=by
 induction bs with
 | nil=>intro i;rfl
 | cons b r ih=>intro i;simp [JH,ih]
theorem JbZ (bs:List BV) (b:BV):∀i,JH i (bs++[b])=JH i bs++[⟨.int .i64 ((i+bs.length:Nat):Int),bV b,i+bs.length⟩]:=by
 induction bs with
 | nil=>intro i;simp [JH]
 | cons x r ih=>
  intro i
  rw [List.cons_append,JH,ih (i+1),JH,List.cons_append,Qp]
  have e:i+1+r.length=i+(r.length+1):=by omega
  rw [e]
theorem Zv (bs:List BV):∀(i j:Nat) (k:Int),Instr.findNow (.int .i64) (.int .i64 k) (JH i bs) j=some (if (i:Int)<=k then (bs[k.toNat - i]?).map λb=>(j+(k.toNat - i),bV b) else none):=by
 induction bs with
 | nil=>intro i j k;simp [JH,Instr.findNow]
 | cons b r ih=>
  intro i j k
  rw [JH,Instr.findNow]
  by_cases h:k=(i:Int)
  ·subst h
   simp [Instr.sameNow]
  ·have h1:Instr.sameNow (.int .i64) (.int .i64 k) (.int .i64 (i:Int))=some false:=by simp [Instr.sameNow,h]
   rw [h1]
   simp only
   rw [ih (i+1) (j+1) k]
   by_cases h2:(i:Int)<=k
   ·rw [if_pos h2,if_pos (by omega)]
    have e1:k.toNat - i=(k.toNat - (i+1))+1:=by omega
    rw [e1,List.getElem?_cons_succ]
    congr 2
    funext x
    congr 1
    omega
   ·rw [if_neg h2,if_neg (by omega)]
theorem Jj9:prog.underlying 141=some (.map 3 148):=underlying141
theorem JdZ:prog.underlying 3=some (.int .i64):=underlying3
theorem JgR {w:World} {r:Nat} {bs:List BV} (h:w.heap[r]? =some (.map (JH 0 bs).toArray bs.length)) (k:Nat) (b:BV) (hk:bs[k]? =some b) (c:Bool):
  (Instr.lookup 141 (.map (some r)) (.int .i64 (k:Int)) c).run prog w=.ok (if c then .tuple #[bV b,.bool true] else bV b) w:=by
 have h1:=Zv bs 0 0 (k:Int)
 rw [if_pos (by omega)] at h1
 simp only [Int.toNat_natCast,Nat.sub_zero,Nat.zero_add,hk,Option.map_some] at h1
 simp [Instr.lookup,run_underlying Jj9,Go.MapKept.run_getObj_map h,Go.MapKept.run_checkKey (d:=.int .i64) JdZ (k:=.int .i64 (k:Int)) (by simp [Go.MapKept.IsKey]),Go.MapKept.run_findKey JdZ h1,Result.andThen]
theorem Ji7 {w:World} {r:Nat} {bs:List BV} (h:w.heap[r]? =some (.map (JH 0 bs).toArray bs.length)) (k:Int) (hk:¬(0<=k/\k<bs.length)) (c:Bool):
  (Instr.lookup 141 (.map (some r)) (.int .i64 k) c).run prog w=.ok (if c then .tuple #[bV (⟨#[]⟩,0,none),.bool false] else bV (⟨#[]⟩,0,none)) w:=by
 have h1:=Zv bs 0 0 k
 have h2:(if ((0:Nat):Int)<=k then (bs[k.toNat - 0]?).map λb=>(0+(k.toNat - 0),bV b) else none)=none:=by
  by_cases h0:(0:Int)<=k
  ·rw [if_pos (by omega),List.getElem?_eq_none (by omega)];rfl
  ·rw [if_neg (by omega)]
 rw [h2] at h1
 simp [Instr.lookup,run_underlying Jj9,Go.MapKept.run_getObj_map h,Go.MapKept.run_checkKey (d:=.int .i64) JdZ (k:=.int .i64 k) (by simp [Go.MapKept.IsKey]),Go.MapKept.run_findKey JdZ h1,Result.andThen]
 rfl
def _root_.Go.World.setBlocks (w:World) (r:Nat) (bs:List BV):World:={ w with heap:=w.heap.setIfInBounds r (.map (JH 0 bs).toArray bs.length) }
theorem JcD {w:World} {r:Nat} {bs:List BV} (h:w.heap[r]? =some (.map (JH 0 bs).toArray bs.length)) (b:BV):
  (Instr.mapUpdate 141 (.map (some r)) (.int .i64 (bs.length:Int)) (bV b)).run prog w=.ok () (w.setBlocks r (bs++[b])):=by
 have h1:=Zv bs 0 0 (bs.length:Int)
 rw [if_pos (by omega)] at h1
 simp only [Int.toNat_natCast,Nat.sub_zero,Nat.zero_add,show bs[bs.length]? =none by simp,Option.map_none] at h1
 simp [Instr.mapUpdate,run_underlying Jj9,Go.MapKept.run_getObj_map h,Go.MapKept.run_checkKey (d:=.int .i64) JdZ (k:=.int .i64 (bs.length:Int)) (by simp [Go.MapKept.IsKey]),Go.MapKept.run_findKey JdZ h1,Go.MapKept.run_setObj_map _ h,Result.andThen,World.setBlocks,JbZ]
theorem ZY {w:World} {r:Nat} {o:Obj} (h:w.heap[r]? =some o) (bs:List BV):(w.setBlocks r bs).heap[r]? =some (.map (JH 0 bs).toArray bs.length):=(Go.MapKept.heap_set h).1
theorem Tch.setBlocks (w:World) (r:Nat) (bs:List BV):Tch (λk=>k=r) w (w.setBlocks r bs):=⟨rfl,rfl,rfl,by simp [World.setBlocks],λk _ hn=>by simp [World.setBlocks,Ne.symm hn]⟩
theorem Jf3 {w:World} {r:Nat} {bs:List BV} (h:w.heap[r]? =some (.map (JH 0 bs).toArray bs.length)):(Builtin.len_ #[141] 3 #[.map (some r)]).run prog w=.ok (.int .i64 (bs.length:Int)) w:=by
 simp [Builtin.len_,Go.MapKept.run_getObj_map h,Jb0]
 rfl
theorem Jf.refine {d:List UInt8->BA} {F G:Nat->Prop} {w:World} {n:Nat} {t:Tr} (h:Jf d F w n t) (hg:∀j,F j->(∃c,w.heap[j]? =some (.cells c 243))->G j):Jf d G w n t:=by
 induction h with
 | leaf n k o hF hr=>exact .leaf n k o (hg n hF ⟨_,hr⟩) hr
 | br n b nl nr l r hF hr _ _ ihl ihr=>exact .br n b nl nr l r (hg n hF ⟨_,hr⟩) hr ihl ihr
theorem StAt.refine {d:List UInt8->BA} {F G:Nat->Prop} {w:World} {q:Option Nat} {st:Option Tr} (h:StAt d F w q st) (hg:∀j,F j->(∃c,w.heap[j]? =some (.cells c 243))->G j):StAt d G w q st:=by
 cases q <;> cases st <;> first | exact h | exact Jf.refine h hg
structure JP (w:World) (cb:Nat) (wj fl r:Nat) (bs:List BV) (v:Value):Prop where
 row:w.heap[cb]? =some (.cells #[.int .i64 (wj:Int),.int .i64 (fl:Int),.map (some r),v] 143)
 map:w.heap[r]? =some (.map (JH 0 bs).toArray bs.length)
theorem JP.next {w w':World} {cb wj fl r:Nat} {bs:List BV} {v:Value} (h:JP w cb wj fl r bs v) (k:Tch NoB w w'):JP w' cb wj fl r bs v:=
 ⟨(k.block _ (Jb h.row) (λh=>h)).trans h.row,(k.block _ (Jb h.map) (λh=>h)).trans h.map⟩
theorem Jbf {w:World} {cb wj fl r:Nat} {bs:List BV} {v:Value} (h:JP w cb wj fl r bs v) (hb:bs.length<2 ^ 32):
  Calls prog 40 #[.pointer (some ⟨cb,0,none⟩)] w λe w'=>e=.returned (.int .i64 ((bs.length:Int) - 1))/\w=w':=by
 have c2:w.cell? ⟨cb,2,none⟩=some (.map (some r)):=Ja h.row
 have hlen:=Jf3 h.map
 clear h
 generalize hn:bs.length=n at *
 clear hn
 go_enter func40,ntmps40
 go_wp2
 go_ret
 exact ⟨rfl,rfl⟩
theorem Jmt {w:World} {cb wj fl r:Nat} {bs:List BV} {v:Value} (h:JP w cb wj fl r bs v) (k:Nat) (b:BV) (hk:bs[k]? =some b):
  Calls prog 74 #[.pointer (some ⟨cb,0,none⟩),.int .i64 (k:Int)] w λe w'=>e=.returned (.tuple #[bV b,.nilIface])/\Tch NoB w w':=by
 obtain ⟨bh,bu,bq⟩:=b
 obtain ⟨rv,hrv⟩:∃rv,Jl bq=.pointer rv:=⟨_,rfl⟩
 obtain ⟨W,hW⟩:∃W,W=w.alloc (.cells #[.string ⟨#[]⟩,.int .i64 0,.pointer none] 148):=⟨_,rfl⟩
 have hA:Tch NoB w W:=by rw [hW];exact Ta _ _ _
 have c2:W.cell? ⟨cb,2,none⟩=some (.map (some r)):=Ja (h.next hA).row
 have hlk:=JgR (h.next hA).map k (bh,bu,bq) hk true
 have hrow:W.heap[w.heap.size]? =some (.cells #[.string ⟨#[]⟩,.int .i64 0,.pointer none] 148):=by rw [hW];exact Qf _ _
 have r0:W.cell? ⟨w.heap.size,0,none⟩=some (.string ⟨#[]⟩):=Ja hrow
 have r1:W.cell? ⟨w.heap.size,1,none⟩=some (.int .i64 0):=Ja hrow
 have r2:W.cell? ⟨w.heap.size,2,none⟩=some (.pointer none):=Ja hrow
 have fR:∀j,W.frozen? ⟨w.heap.size,j,none⟩=false:=λj=>Qg _ _ _ _ _ hrow
 have HW:Hid _:=hW
 have HR:Hid _:=hrow
 have HA:Hid _:=hA
 have hz:w.heap.size<W.heap.size:=(Jb hrow)
 simp only [bV] at hlk ⊢
 rw [hrv] at hlk ⊢
 clear h hk hW hrow hA hrv
 go_enter func74,ntmps74
 go_upto_region 1 with fail
 rw [<-HW.o]
 go_wp2
 rw [set3 _ _ _ _ _ _ _ _ _ HR.o]
 have t1:=Ts W w.heap.size #[.string bh,.int .i64 (bu:Int),.pointer rv]
 have hr:(W.setRow w.heap.size #[.string bh,.int .i64 (bu:Int),.pointer rv]).heap[w.heap.size]? =some (.cells #[.string bh,.int .i64 (bu:Int),.pointer rv] 148):=Qi _ _ _ _ _ _ HR.o
 have t2:=Ta NoB (W.setRow w.heap.size #[.string bh,.int .i64 (bu:Int),.pointer rv]) (.cells #[.string bh,.int .i64 (bu:Int),.pointer rv] 148)
 refine QK (v:=.tuple #[.agg #[.string bh,.int .i64 (bu:Int),.pointer rv],.nilIface]) (Jg results74 _ _ w.heap.size _ _ (0,0) _ rfl ((t2.block _ (Jb hr) (λh=>h)).trans hr) underlying148 rfl (by kernel_rfl)) rfl ⟨rfl,?_⟩
 exact (HA.o.trans t1 (λj hj=>.inr (by omega))).go t2
theorem JlF (E:Nat->Addr) {w:World} (hE:Env E w) {cb wj fl r:Nat} {bs:List BV} {v:Value} (h:JP w cb wj fl r bs v) (k:Int) (hk:¬(0<=k/\k<bs.length)):
  Calls prog 74 #[.pointer (some ⟨cb,0,none⟩),.int .i64 k] w λe w'=>∃t u,e=.returned (.tuple #[bV (⟨#[]⟩,0,none),.iface t u])/\Jm E 5 w' (.iface t u)/\Tch NoB w w':=by
 obtain ⟨W,hW⟩:∃W,W=w.alloc (.cells #[.string ⟨#[]⟩,.int .i64 0,.pointer none] 148):=⟨_,rfl⟩
 have hA:Tch NoB w W:=by rw [hW];exact Ta _ _ _
 have c2:W.cell? ⟨cb,2,none⟩=some (.map (some r)):=Ja (h.next hA).row
 have hlk:=Ji7 (h.next hA).map k hk true
 have hrg:=(hE.tch hA noE).range
 have hsz:=(hE.tch hA noE).size
 have hrow:W.heap[w.heap.size]? =some (.cells #[.string ⟨#[]⟩,.int .i64 0,.pointer none] 148):=by rw [hW];exact Qf _ _
 have r0:W.cell? ⟨w.heap.size,0,none⟩=some (.string ⟨#[]⟩):=Ja hrow
 have r1:W.cell? ⟨w.heap.size,1,none⟩=some (.int .i64 0):=Ja hrow
 have r2:W.cell? ⟨w.heap.size,2,none⟩=some (.pointer none):=Ja hrow
 have fR:∀j,W.frozen? ⟨w.heap.size,j,none⟩=false:=λj=>Qg _ _ _ _ _ hrow
 have HW:Hid _:=hW
 have HR:Hid _:=hrow
 have HA:Hid _:=hA
 have hz:w.heap.size<W.heap.size:=(Jb hrow)
 simp only [bV,Jl,Option.map_none] at hlk ⊢
 clear h hk hW hrow hA hE
 have hGs:5<W.heap.size:=Qk (by decide) hsz
 clear hsz
 go_enter func74,ntmps74
 go_upto_region 1 with fail
 rw [<-HW.o]
 go_wp2_with fail
 refine (XA _ _ _ _).mono ?_
 rintro _ _ ⟨rfl,rfl⟩
 go_wp2
 rw [set3 _ _ _ _ _ _ _ _ _ HR.o]
 have t1:=Ts W w.heap.size #[.string ⟨#[]⟩,.int .i64 0,.pointer none]
 have hr:(W.setRow w.heap.size #[.string ⟨#[]⟩,.int .i64 0,.pointer none]).heap[w.heap.size]? =some (.cells #[.string ⟨#[]⟩,.int .i64 0,.pointer none] 148):=Qi _ _ _ _ _ _ HR.o
 have hws:(W.setRow w.heap.size #[.string ⟨#[]⟩,.int .i64 0,.pointer none]).heap.size=W.heap.size:=by simp [World.setRow]
 generalize W.setRow w.heap.size #[.string ⟨#[]⟩,.int .i64 0,.pointer none]=W1 at *
 have t2:=(Ta NoB W1 (.cells #[.string ⟨#[]⟩,.int .i64 0,.pointer none] 148))
 have t3:=Ta NoB (W1.alloc (.cells #[.string ⟨#[]⟩,.int .i64 0,.pointer none] 148)) (.cells #[.string ⟨#[104,101,105,103,104,116]⟩,eV E 5] 237)
 refine QK (v:=.tuple #[.agg #[.string ⟨#[]⟩,.int .i64 0,.pointer none],.iface 235 (.pointer (some ⟨W.heap.size+1,0,none⟩))]) (Jg results74 _ _ w.heap.size _ _ (0,0) _ rfl (((t2.go t3).block _ (Jb hr) (λh=>h)).trans hr) underlying148 rfl (by kernel_rfl)) rfl ⟨_,_,rfl,?_,?_⟩
 ·refine .wrap (W.heap.size+1) ⟨#[104,101,105,103,104,116]⟩ (eV E 5) ?_ .base
  have:=Qf (W1.alloc (.cells #[.string ⟨#[]⟩,.int .i64 0,.pointer none] 148)) (.cells #[.string ⟨#[104,101,105,103,104,116]⟩,eV E 5] 237)
  rw [World.size_alloc,hws] at this
  exact this
 ·exact ((HA.o.trans t1 (λj hj=>.inr (by omega))).go t2).go t3
theorem Jd9 (E:Nat->Addr) {w:World} (hE:Env E w) {cb wj fl r:Nat} {bs:List BV} {v:Value} (h:JP w cb wj fl r bs v) (k:Int):
  Calls prog 41 #[.pointer (some ⟨cb,0,none⟩),.int .i64 k] w λe w'=>Tch NoB w w'/\((∃n b,k=(n:Nat)/\bs[n]? =some b/\e=.returned (.tuple #[.string b.1,.nilIface]))\/(¬(0<=k/\k<bs.length)/\∃t u,e=.returned (.tuple #[.string ⟨#[]⟩,.iface t u])/\Jm E 5 w' (.iface t u))):=by
 by_cases hk:0<=k/\k<bs.length
 ·obtain ⟨n,rfl⟩:=Int.eq_ofNat_of_zero_le hk.1
  have hb:bs[n]? =some bs[n]:=Qd (by omega)
  have HAT:Hid (Calls _ _ _ _ _):=Jmt h n _ hb
  have HB:Hid _:=hb
  generalize bs[n]=b at *
  obtain ⟨bh,bu,bq⟩:=b
  simp only [bV] at HAT
  obtain ⟨rv,hrv⟩:∃rv,Jl bq=.pointer rv:=⟨_,rfl⟩
  rw [hrv] at HAT
  clear hk hb hE h hrv
  go_enter func41,ntmps41
  go_wp2_with fail
  refine HAT.o.mono ?_
  rintro _ w2 ⟨rfl,ht⟩
  have HT:Hid _:=ht
  clear ht HAT
  go_wp2
  go_ret2
  exact ⟨HT.o.go (Ta _ _ _),.inl ⟨n,(bh,bu,bq),rfl,HB.o,rfl⟩⟩
 ·have HAT:Hid (Calls _ _ _ _ _):=JlF E hE h k hk
  have HK:Hid _:=hk
  simp only [bV,Jl,Option.map_none] at HAT
  clear hk hE h
  go_enter func41,ntmps41
  go_wp2_with fail
  refine HAT.o.mono ?_
  rintro _ w2 ⟨t,u,rfl,he,ht⟩
  have HT:Hid _:=ht
  have HV:Hid _:=he
  clear ht HAT he
  go_wp2
  go_ret2
  exact ⟨HT.o.go (Ta _ _ _),.inr ⟨HK.o,t,u,rfl,HV.o.tch (Ta NoB _ _) (λ_ _ _ _ h=>h)⟩⟩

def ChS (cb wj r:Nat) (k:Int) (b:Value) (W:World):Prop:=W.cell? ⟨cb,0,none⟩=some (.int .i64 (wj:Int))/\W.cell? ⟨cb,2,none⟩=some (.map (some r))/\(Instr.lookup 141 (.map (some r)) (.int .i64 k) false).run prog W=.ok b W
theorem JP.reads {w:World} {cb wj fl r:Nat} {bs:List BV} {v:Value} (h:JP w cb wj fl r bs v) (k:Nat) (b:BV) (hb:bs[k]? =some b):ChS cb wj r (k:Int) (bV b) w:=
 ⟨Ja h.row,Ja h.row,JgR h.map k b hb false⟩
structure Jil (s:BA):Prop where
 le:s.size<=2000000
theorem JeI (a:List UInt8) (d:BA) (h:d.size<=1000000) (ha:a.length<=100):∃s:BA,s.size<=1000100/\s.data.toList=a++d.data.toList/\∀W,(Op.stringOp .add (⟨a.toArray⟩:BA) d).run prog W=.ok (.string s) W:=by
 have:=Jb8 a d.data.toList (by simpa using h) ha
 simpa using this
theorem Jfg (E:Nat->Addr) {w:World} (hE:Env E w) {cb wj fl r:Nat} (hw1:1<=wj) (hw:wj<=32) {bs:List BV} {v:Value} (h:JP w cb wj fl r bs v) (m:Nat) (hm:bs.length=m+1) (hm2:m<2 ^ 31) (b:BV) (hb:bs[m]? =some b) (hbs:b.1.size<=1000) (body:BA) (hbo:body.size<=1000000):
  Calls prog 82 #[.pointer (some ⟨cb,0,none⟩),.string body] w λe w'=>e=.returned (.agg #[.int .u64 ((m+1:Nat):Int),.string (dgW wj (72 :: b.1.data.toList)),.string (dgW wj (66 :: body.data.toList)),.string ⟨#[]⟩])/\Tch NoB w w':=by
 obtain ⟨bh,bu,bq⟩:=b
 obtain ⟨rv,hrv⟩:∃rv,Jl bq=.pointer rv:=⟨_,rfl⟩
 obtain ⟨W,hW⟩:∃W,W=w.alloc (.cells #[.int .u64 0,.string ⟨#[]⟩,.string ⟨#[]⟩,.string ⟨#[]⟩] 167):=⟨_,rfl⟩
 have hA:Tch NoB w W:=by rw [hW];exact Ta _ _ _
 have HTIP:Hid (Calls prog 40 #[.pointer (some ⟨cb,0,none⟩)] W λe w'=>e=.returned (.int .i64 (m:Int))/\W=w'):=(Jbf (h.next hA) (by omega)).mono λe w' k=>⟨by rw [k.1,hm];congr 2;omega,k.2⟩
 have HRD:Hid (∀W',Tch NoB w W'->ChS cb wj r (m:Int) (.agg #[.string bh,.int .i64 (bu:Int),.pointer rv]) W'):=λW' hT=>by
  have:=(h.next hT).reads m _ hb
  simp only [bV,hrv] at this
  exact this
 have hrow:W.heap[w.heap.size]? =some (.cells #[.int .u64 0,.string ⟨#[]⟩,.string ⟨#[]⟩,.string ⟨#[]⟩] 167):=by rw [hW];exact Qf _ _
 have HW:Hid _:=hW
 have HA:Hid (∀k,Tch NoB w (W.drewN k)):=λk=>hA.dr k
 have HROW:Hid (∀W',Tch NoB W W'->W'.heap[w.heap.size]? =some (.cells #[.int .u64 0,.string ⟨#[]⟩,.string ⟨#[]⟩,.string ⟨#[]⟩] 167)):=λW' hT=>(hT.block _ (Jb hrow) (λh=>h)).trans hrow
 obtain ⟨c0,c2,hlk⟩:=HRD.o W.drew (hA.dr 1)
 have hcb:cb<w.heap.size:=(Jb h.row)
 have hbs':bh.size<=1000:=hbs
 obtain ⟨s1,hs1,hd1,hadd1⟩:=JeI [72] bh (by omega) (by decide)
 obtain ⟨s2,hs2,hd2,hadd2⟩:=JeI [66] body (by omega) (by decide)
 have hadd1':∀W,(Op.stringOp .add (⟨#[72]⟩:BA) bh).run prog W=.ok (.string s1) W:=hadd1
 have hadd2':∀W,(Op.stringOp .add (⟨#[66]⟩:BA) body).run prog W=.ok (.string s2) W:=hadd2
 clear hadd1 hadd2
 have hfl:∀W,(Instr.field 148 (.agg #[.string bh,.int .i64 (bu:Int),.pointer rv]) 0).run prog W=.ok (.string bh) W:=λW=>by kernel_rfl
 have hwm:IntKind.u64.wrap (m:Int)=(m:Int):=JF _ (by omega) (by omega)
 have hwm1:IntKind.u64.wrap ((m:Int)+1)=(m:Int)+1:=JF _ (by omega) (by omega)
 have HOF:Hid (∀(s:BA) W',Tch NoB w W'->Jil s->Calls prog 130 #[.int .i64 (wj:Int),.string s] W' λe w'=>e=.returned (.string (dgW wj s.data.toList))/\Tch NoB W' w'):=λs W' hT hs=>Jby E wj s W' (hE.tch hT noE) hw1 hw (by have:=hs.le;omega)
 have K1:Jil s1:=⟨by omega⟩
 have K2:Jil s2:=⟨by omega⟩
 have HD:Hid (s1.data.toList=72 :: bh.data.toList/\s2.data.toList=66 :: body.data.toList):=⟨hd1,hd2⟩
 dsimp only
 clear hE h hb hbs hbo hrv hW hrow hA hbs' hs1 hs2 hd1 hd2
 have hmi:(m:Int)<9223372036854775807:=by omega
 have hm0:(0:Int)<=m:=by omega
 go_enter func82,ntmps82
 go_wp2_with fail
 rw [<-HW.o]
 refine HTIP.o.mono ?_
 rintro _ _ ⟨rfl,rfl⟩
 go_wp2_with fail
 have tok1:True:=trivial
 go_region_held3 (λW=>W.cell? ⟨cb,0,none⟩=some (.int .i64 (wj:Int))/\W.cell? ⟨cb,2,none⟩=some (.map (some r))/\(Instr.lookup 141 (.map (some r)) (.int .i64 (m:Int)) false).run prog W=.ok (.agg #[.string bh,.int .i64 (bu:Int),.pointer rv]) W) (go_keep) ((first | (go_at_call 130;have _t:=tok1;refine (HOF.o _ _ (HA.o 1) (by assumption)).mono ?_;rintro _ w2 ⟨rfl,ht2⟩;have hT2:Tch NoB W w2:=(Td NoB W 1).go ht2;have hTw2:Tch NoB w w2:=(HA.o 1).go ht2;obtain ⟨d0,d2,hlk2⟩:=HRD.o w2 hTw2;have HT2:Hid (Tch NoB W w2/\Tch NoB w w2):=⟨hT2,hTw2⟩;clear hT2 hTw2 ht2 tok1) | (go_at_call 130;refine (HOF.o _ _ HT2.o.2 (by assumption)).mono ?_;rintro _ w3 ⟨rfl,ht3⟩;have hT3:Tch NoB W w3:=HT2.o.1.go ht3;have hTw3:Tch NoB w w3:=HT2.o.2.go ht3;obtain ⟨e0,e2,hlk3⟩:=HRD.o w3 hTw3;have HT3:Hid (Tch NoB W w3/\Tch NoB w w3):=⟨hT3,hTw3⟩;have hr3:=HROW.o w3 hT3;have q0:w3.cell? ⟨w.heap.size,0,none⟩=some (.int .u64 0):=Ja hr3;have q1:w3.cell? ⟨w.heap.size,1,none⟩=some (.string ⟨#[]⟩):=Ja hr3;have q2:w3.cell? ⟨w.heap.size,2,none⟩=some (.string ⟨#[]⟩):=Ja hr3;have q3:w3.cell? ⟨w.heap.size,3,none⟩=some (.string ⟨#[]⟩):=Ja hr3;have fq:∀j,w3.frozen? ⟨w.heap.size,j,none⟩=false:=λj=>Qg _ _ _ _ _ hr3;have HR3:Hid _:=hr3;have hst:=HRD.o ((((w3.setCell ⟨w.heap.size,0,none⟩ (.int .u64 ((m:Int)+1))).setCell ⟨w.heap.size,1,none⟩ (.string (dgW wj s1.data.toList))).setCell ⟨w.heap.size,2,none⟩ (.string (dgW wj s2.data.toList))).setCell ⟨w.heap.size,3,none⟩ (.string ⟨#[]⟩)) (by rw [set4 _ _ _ _ _ _ _ _ _ _ _ hr3];exact hTw3.trans (Ts _ _ _) (λj hj=>.inr (by omega)));obtain ⟨g0,g2,hlk4⟩:=hst;clear hr3;clear hT3 hTw3 ht3)))
 all_goals
  go_wp2
  rw [set4 _ _ _ _ _ _ _ _ _ _ _ HR3.o]
  refine QK (v:=.agg #[.int .u64 ((m:Int)+1),.string (dgW wj s1.data.toList),.string (dgW wj s2.data.toList),.string ⟨#[]⟩]) (Qq results82 _ _ w.heap.size _ _ (0,0) _ rfl (Qi _ _ _ _ _ _ HR3.o) underlying167 rfl (by kernel_rfl)) rfl ⟨?_,?_⟩
  ·rw [HD.o.1,HD.o.2];rfl
  ·exact HT3.o.2.trans (Ts _ _ _) (λj hj=>.inr (by omega))

def YM (E:Nat->Addr) (wj:Nat) (F:Nat->Prop) (r:Except Er (Option Tr)) (u:Nat) (rv:Option Addr) (ev:Value) (w':World):Prop:=match r with
 | .ok st'=>∃q',u=wj/\Jl q'=.pointer rv/\ev=.nilIface/\StAt (dgW wj) F w' q' st'/\StOk wj st'
 | .error er=>∃t v,ev=.iface t v/\Jm E (erG er) w' (.iface t v)
theorem ApTo.res {E:Nat->Addr} {wj:Nat} {F:Nat->Prop} {r:Except Er (Option Tr)} {e:Ending} {w':World} (h:ApTo E wj F r e w'):∃(u:Nat) (rv:Option Addr) (ev:Value),e=.returned (.tuple #[.agg #[.int .i64 (u:Int),.pointer rv],ev])/\YM E wj F r u rv ev w':=by
 cases r with
 | ok st'=>
  obtain ⟨q',rfl,h1,h2⟩:=h
  exact ⟨wj,_,.nilIface,rfl,q',rfl,rfl,rfl,h1,h2⟩
 | error er=>
  obtain ⟨u,q',t,v,rfl,h1⟩:=h
  exact ⟨u,_,.iface t v,rfl,t,v,rfl,h1⟩
theorem YM.kept {E:Nat->Addr} {wj:Nat} {F:Nat->Prop} {r:Except Er (Option Tr)} {u:Nat} {rv:Option Addr} {ev:Value} {w w':World} (h:YM E wj F r u rv ev w) (h1:∀q st,StAt (dgW wj) F w q st->StAt (dgW wj) F w' q st) (h2:∀k v,Jm E k w v->Jm E k w' v):YM E wj F r u rv ev w':=by
 cases r with
 | ok st'=>obtain ⟨q',a,b,c,d,e⟩:=h;exact ⟨q',a,b,c,h1 _ _ d,e⟩
 | error er=>obtain ⟨t,v,a,b⟩:=h;exact ⟨t,v,a,h2 _ _ b⟩
theorem Jm.next {E:Nat->Addr} {k:Nat} {w w':World} {v:Value} (h:Jm E k w v) (ht:Tch NoB w w'):Jm E k w' v:=h.tch ht (λ_ _ _ _ h=>h)
theorem JiV {wj:Nat} {h:HdL} (hh:HdOk wj h):ZH (YZ wj h (some (.wr []))).2=some (hdrB h):=by
 have h1:=(JjI wj h h hh).wr []
 rw [(JcW wj h _ _ _ h1).1]
 rfl
theorem JR.up {B B':Nat} {w:World} {v:Value} {l:List (Sl×Sl)} (h:JR B w v l) (hb:B<=B'):JR B' w v l:=by
 rcases h with h | ⟨gi,oi,c,h1,h2,h3⟩
 ·exact .inl h
 ·exact .inr ⟨gi,oi,c,h1,by omega,h3⟩
theorem Jmj (wj:Nat) (hw:wj<=32) (t:TxL) (h:TxOk wj t):(txB t).length<=200:=by
 have hc:∀(l:List (BA×Int)),(∀c∈l,Jo wj c)->(l.flatMap Jd).length=l.length * (wj+1):=by
  intro l
  induction l with
  | nil=>intro _;simp
  | cons x r ih=>
   intro hl
   rw [QG,Qe,Qp,Nat.succ_mul,JY (hl x QN),ih (λy hy=>hl y (QQ _ hy))]
   omega
 have ho:∀(l:List (Nat×Nat)),(l.flatMap outB).length=l.length * 9:=by
  intro l
  induction l with
  | nil=>simp
  | cons x r ih=>
   rw [QG,Qe,Qp,Nat.succ_mul,ih]
   have:(outB x).length=9:=by unfold outB;rw [Qe,Je,Je]
   omega
 unfold txB Jcu Ju
 simp only [Qe,Je,hc t.1 h.coins,ho t.2]
 have h1:=h.ins
 have h2:=h.made
 have:t.1.length * (wj+1)<=3 * 33:=Nat.mul_le_mul h1 (by omega)
 omega
theorem JeO (wj:Nat) (hw:wj<=32) (ts:List TxL) (h:∀t∈ts,TxOk wj t) (h3:ts.length<=3):(JB ts).length<=1000:=by
 have:∀(l:List TxL),(∀t∈l,TxOk wj t)->(l.flatMap txB).length<=l.length * 200:=by
  intro l
  induction l with
  | nil=>intro _;simp
  | cons x r ih=>
   intro hl
   have a:=Jmj wj hw x (hl x QN)
   have b:=ih (λy hy=>hl y (QQ _ hy))
   rw [QG,Qe,Qp,Nat.succ_mul]
   omega
 have:=this ts h
 unfold JB
 rw [Qe,Je]
 omega
def JlC (E:Nat->Addr) (r:Except Er (List UInt8)) (e:Ending) (w':World):Prop:=match r with
 | .ok b=>e=.returned (.tuple #[.string ⟨b.toArray⟩,.nilIface])
 | .error er=>∃t u,e=.returned (.tuple #[.string ⟨#[]⟩,.iface t u])/\Jm E (erG er) w' (.iface t u)
theorem JfP (E:Nat->Addr) {w:World} (hE:Env E w) {cb wj fl r:Nat} (hw1:1<=wj) (hw:wj<=32) {bs:List BV} {lv:Value} (h:JP w cb wj fl r bs lv) (m:Nat) (hm:bs.length=m+1) (hm2:m<2 ^ 31) (bh:BA) (q:Option Nat) (st:Option Tr) (hb:bs[m]? =some (bh,wj,q)) (hbs:bh.size<=1000) (F:Nat->Prop) (hF:∀j,w.heap.size<=j->F j) (hs:StAt (dgW wj) F w q st) (hok:StOk wj st) (v:Value) (l:List (Sl×Sl)) (ts:List TxL) (hts:∀t∈ts,TxOk wj t) (h3:ts.length<=3) (hv:JR w.heap.size w v l) (hin:TxIn w.heap.size w l ts):
  Calls prog 45 #[.pointer (some ⟨cb,0,none⟩),v] w λe w'=>Tch NoB w w'/\JlC E (match JA (dgW wj) st ts with | .error e=>.error e | .ok st'=>.ok (hdrB (m+1,dgW wj (72 :: bh.data.toList),dgW wj (66 :: JB ts),JV (dgW wj) st')++JB ts)) e w':=by
 have hsz:=hE.size
 obtain ⟨rv,hrv⟩:∃rv,Jl q=.pointer rv:=⟨_,rfl⟩
 have HE:Hid (Env E w):=hE
 have HTIP:Hid (∀W,Tch NoB w W->Calls prog 40 #[.pointer (some ⟨cb,0,none⟩)] W λe w'=>e=.returned (.int .i64 (m:Int))/\W=w'):=λW hT=>(Jbf (h.next hT) (by omega)).mono λe w' k=>⟨by rw [k.1,hm];congr 2;omega,k.2⟩
 have HRD:Hid (∀W',Tch NoB w W'->ChS cb wj r (m:Int) (.agg #[.string bh,.int .i64 (wj:Int),.pointer rv]) W'):=λW' hT=>by
  have:=(h.next hT).reads m _ hb
  simp only [bV,hrv] at this
  exact this
 have HBO:Hid (∀W,Tch NoB w W->Jc W w.heap.size none (wj:Int) .nilIface (.wr [])->Calls prog 78 #[.pointer (some ⟨w.heap.size,0,none⟩),v] W λe w'=>ToB E W w.heap.size none wj (some (ts,.wr (JB ts))) e w'):=λW hT hp=>by
  have hr:=(Jg1 wj ts hts h3).wr []
  rw [List.nil_append] at hr
  have:=Jci E w.heap.size hsz none wj hw v l ts (.wr []) W (hE.tch hT noE) hp (hv.tch hT noE) hin.1 (by omega) (Xz _ _) (λj x t h1 h2=>by
   obtain ⟨k1,k2⟩:=hin.2 j x t h1 h2
   have ht:=hts t (QT h2)
   have e1:=ht.ins
   have e2:=ht.made
   exact ⟨k1.tch hT noE,k2.tch hT noE,by omega,by omega,Xz _ _,Xz _ _,λo ho=>(ht.outs o ho).2⟩) (by show 0<=_;omega)
  rw [hr] at this
  exact this
 have HAP:Hid (∀W,Tch NoB w W->Calls prog 81 #[.int .i64 (wj:Int),.agg #[.int .i64 (wj:Int),.pointer rv],v] W λe w'=>∃(u:Nat) (rv:Option Addr) (ev:Value),e=.returned (.tuple #[.agg #[.int .i64 (u:Int),.pointer rv],ev])/\YM E wj F (JA (dgW wj) st ts) u rv ev w'/\Tch NoB W w'):=λW hT=>by
  have:=Jdp E wj hw1 hw F q st v l ts hts h3 W (hE.tch hT noE) (λj hj=>hF j (Qm hT.size hj)) ((hv.tch hT noE).up hT.size) ⟨hin.1,λj x t h1 h2=>⟨((hin.2 j x t h1 h2).1.tch hT noE).up hT.size,((hin.2 j x t h1 h2).2.tch hT noE).up hT.size⟩⟩ (hs.next hT) hok
  unfold JE at this
  rw [hrv] at this
  refine this.mono λe w' h=>?_
  obtain ⟨u,rv',ev,h1,h2⟩:=h.2.res
  exact ⟨u,rv',ev,h1,h2,h.1⟩
 have HNX:Hid (∀W,Tch NoB w W->Calls prog 82 #[.pointer (some ⟨cb,0,none⟩),.string ⟨(JB ts).toArray⟩] W λe w'=>e=.returned (.agg #[.int .u64 ((m+1:Nat):Int),.string (dgW wj (72 :: bh.data.toList)),.string (dgW wj (66 :: JB ts)),.string ⟨#[]⟩])/\Tch NoB W w'):=λW hT=>Jfg E (hE.tch hT noE) hw1 hw (h.next hT) m hm hm2 _ hb hbs ⟨(JB ts).toArray⟩ (by have:=JeO wj hw ts hts h3;show (JB ts).toArray.size<=_;simp;omega)
 have HDG:Hid (∀W q1 st1,Tch NoB w W->StAt (dgW wj) F W q1 st1->Calls prog 83 #[JE wj q1] W λe w'=>e=.returned (.string (JV (dgW wj) st1))/\Tch NoB W w'):=λW q1 st1 hT k=>YW E wj hw1 hw F q1 st1 W (hE.tch hT noE) k
 have HHB:Hid (∀W st1,Tch NoB w W->Calls prog 84 #[.int .i64 (wj:Int),.agg #[.int .u64 ((m+1:Nat):Int),.string (dgW wj (72 :: bh.data.toList)),.string (dgW wj (66 :: JB ts)),.string (JV (dgW wj) st1)]] W λe w'=>e=.returned (.tuple #[.string ⟨(hdrB (m+1,dgW wj (72 :: bh.data.toList),dgW wj (66 :: JB ts),JV (dgW wj) st1)).toArray⟩,.nilIface])/\Tch NoB W w'):=λW st1 hT=>by
  have:=ZF E wj (by omega) (m+1) (dgW wj (72 :: bh.data.toList)) (dgW wj (66 :: JB ts)) (JV (dgW wj) st1) W (hE.tch hT noE)
  refine this.mono λe w' k=>?_
  obtain ⟨k1,k2⟩:=k
  rw [JiV ⟨by show m+1<2 ^ 32;omega,Jq wj hw _,Jq wj hw _,Xk _ wj (Jq wj hw) st1⟩] at k2
  exact ⟨k2,k1⟩
 have HLN:Hid ((JB ts).length<=1000):=JeO wj hw ts hts h3
 have HHL:Hid (∀st1,(hdrB (m+1,dgW wj (72 :: bh.data.toList),dgW wj (66 :: JB ts),JV (dgW wj) st1)).length<=100):=λst1=>by
  have sz:∀x:BA,x.data.toList.length=x.size:=λx=>by simp only [QA];rfl
  unfold hdrB
  simp only [Qe,Je,sz,Jq wj hw,Xk (dgW wj) wj (Jq wj hw)]
  omega
 obtain ⟨c0,c2,hlk⟩:=HRD.o w (Te _ _)
 obtain ⟨ia,ic,hvs⟩:=hv.shape
 generalize hAT:JA (dgW wj) st ts=AT at *
 generalize dgW wj (72 :: bh.data.toList)=sa at *
 generalize dgW wj (66 :: JB ts)=sb at *
 have hfl:∀W,(Instr.field 148 (.agg #[.string bh,.int .i64 (wj:Int),.pointer rv]) 1).run prog W=.ok (.agg #[.int .i64 (wj:Int),.pointer rv]) W:=λW=>by kernel_rfl
 clear hE h hb hbs hF hs hok hts h3 hv hin hrv hAT
 subst hvs
 go_enter func45,ntmps45
 go_wp2_with fail
 refine (Xc _ _).mono ?_
 rintro _ w1 ⟨rfl,hp1,ht1⟩
 have HT1:Hid (Tch NoB w w1):=ht1
 have HP1:Hid (Jc w1 w.heap.size none (wj:Int) .nilIface (.wr [])):=hp1
 clear ht1 hp1 c0 c2 hlk
 obtain ⟨c0,c2,hlk⟩:=HRD.o w1 HT1.o
 go_wp2_with fail
 refine (HBO.o w1 HT1.o HP1.o).mono ?_
 rintro _ w2 ⟨x2,g2,rfl,hp2,hm2',ht2,_⟩
 have HP2:Hid (Jh E w2 w.heap.size g2 wj (some (.wr (JB ts)))):=hp2
 have HT2:Hid (Tch NoB w w2):=Xo (b:=w.heap.size) (Ql _) HT1.o ht2
 clear hp2 ht2 c0 c2 hlk HP1 HT1 hm2' HBO
 obtain ⟨c0,c2,hlk⟩:=HRD.o w2 HT2.o
 go_wp2_with fail
 refine (Jaa E w.heap.size g2 wj (some (.wr (JB ts))) (λp hp=>⟨_,(Option.some.inj hp).symm⟩) w2 HP2.o).mono ?_
 rintro _ w3 ⟨ht3,rfl⟩
 have HT3:Hid (Tch NoB w w3):=HT2.o.go ht3
 have HT3d:Hid (Tch NoB w w3.drew):=HT3.o.dr 1
 clear ht3 HP2 HT2 c0 c2 hlk
 have HT3a:Hid (Tch NoB w (w3.alloc (.cells #[.int .i64 0,.pointer none] 146)).drew):=(HT3.o.go (Ta _ _ _)).dr 1
 have HZR:Hid ((w3.alloc (.cells #[.int .i64 0,.pointer none] 146)).drew.heap[w3.heap.size]? =some (.cells #[.int .i64 0,.pointer none] 146)):=Qf _ _
 have HZ:Hid (w3.heap.size<(w3.alloc (.cells #[.int .i64 0,.pointer none] 146)).drew.heap.size):=(Jb HZR.o)
 obtain ⟨c0,c2,hlk⟩:=HRD.o w3.drew HT3d.o
 obtain ⟨a0,a2,hlka⟩:=HRD.o (w3.alloc (.cells #[.int .i64 0,.pointer none] 146)).drew HT3a.o
 go_wp2_with fail
 go_region_held3 (λW=>W.cell? ⟨cb,0,none⟩=some (.int .i64 (wj:Int))/\W.cell? ⟨cb,2,none⟩=some (.map (some r))/\(Instr.lookup 141 (.map (some r)) (.int .i64 (m:Int)) false).run prog W=.ok (.agg #[.string bh,.int .i64 (wj:Int),.pointer rv]) W) (go_keep) ((first | (go_at_call 40;refine (HTIP.o _ (by first | exact HT3d.o | exact HT3a.o)).mono ?_;rintro _ _ ⟨rfl,rfl⟩) | (go_at_call 81;refine (HAP.o w3.drew HT3d.o).mono ?_;rintro _ w4 ⟨u4,rv4,ev4,rfl,hr4,ht4⟩;have hTw4:Tch NoB w w4:=HT3d.o.go ht4;obtain ⟨d0,d2,hlk4⟩:=HRD.o w4 hTw4;obtain ⟨f0,f2,hlk5⟩:=HRD.o (w4.alloc (.cells #[.int .i64 (u4:Int),.pointer rv4] 146)) (hTw4.go (Ta _ _ _));obtain ⟨_,_,hlk6⟩:=HRD.o (w4.alloc (.cells #[.int .i64 0,.pointer none] 146)) (hTw4.go (Ta _ _ _));have HT4:Hid (Tch NoB w w4):=hTw4;have HR4:Hid (YM _ _ _ _ _ _ _ _):=hr4;have HK4:Hid (w4.heap.size=w4.heap.size):=rfl;clear hTw4 ht4 hr4) | (go_at_call 81;refine (HAP.o (w3.alloc (.cells #[.int .i64 0,.pointer none] 146)).drew HT3a.o).mono ?_;rintro _ w4 ⟨u4,rv4,ev4,rfl,hr4,ht4⟩;have hTw4:Tch NoB w w4:=HT3a.o.go ht4;obtain ⟨d0,d2,hlk4⟩:=HRD.o w4 hTw4;have hr9:w4.heap[w3.heap.size]? =some (.cells #[.int .i64 0,.pointer none] 146):=(ht4.block _ HZ.o (λh=>h)).trans HZR.o;have s0:w4.cell? ⟨w3.heap.size,0,none⟩=some (.int .i64 0):=Ja hr9;have s1:w4.cell? ⟨w3.heap.size,1,none⟩=some (.pointer none):=Ja hr9;have sf:∀j,w4.frozen? ⟨w3.heap.size,j,none⟩=false:=λj=>Qg _ _ _ _ _ hr9;obtain ⟨f0,f2,hlk5⟩:=HRD.o ((w4.setCell ⟨w3.heap.size,0,none⟩ (.int .i64 (u4:Int))).setCell ⟨w3.heap.size,1,none⟩ (.pointer rv4)) (by rw [set2 _ _ _ _ _ _ _ hr9];exact hTw4.trans (Ts _ _ _) (λj hj=>.inr (by have:=HT3.o.size;omega)));have HT4:Hid (Tch NoB w w4):=hTw4;have HR4:Hid (YM _ _ _ _ _ _ _ _):=hr4;have HR9:Hid (w4.heap[w3.heap.size]? =some _):=hr9;clear hTw4 ht4 hr4 hr9)))
 all_goals
  clear c0 c2 hlk a0 a2 hlka d0 d2 hlk4
  first
  | (
   have tk:=HK4
   have hr5:(w4.alloc (.cells #[.int .i64 (u4:Int),.pointer rv4] 146)).heap[w4.heap.size]? =some (.cells #[.int .i64 (u4:Int),.pointer rv4] 146):=Qf _ _
   have HT5:Hid (Tch NoB w (w4.alloc (.cells #[.int .i64 (u4:Int),.pointer rv4] 146))):=HT4.o.go (Ta _ _ _)
   have HR5:Hid (YM E wj F AT u4 rv4 ev4 (w4.alloc (.cells #[.int .i64 (u4:Int),.pointer rv4] 146))):=HR4.o.kept (λq st h=>h.next (Ta _ _ _)) (λk v h=>h.next (Ta _ _ _))
   clear HR4 HT4 tk HK4 hlk6
   obtain ⟨w5,hw5⟩:∃w5,w5=w4.alloc (.cells #[.int .i64 (u4:Int),.pointer rv4] 146):=⟨_,rfl⟩
   rw [<-hw5] at hr5 HT5 HR5 f0 f2 hlk5 ⊢
   clear hw5
   obtain ⟨k9,hk9⟩:∃k9,k9=w4.heap.size:=⟨_,rfl⟩
   rw [<-hk9] at hr5 ⊢
   clear hk9)
  | (
   obtain ⟨hr5,hT5,p3,p4⟩:=Xp HR9.o HT4.o HT3.o.size (.int .i64 (u4:Int)) (.pointer rv4)
   have HT5:Hid (Tch NoB w ((w4.setCell ⟨w3.heap.size,0,none⟩ (.int .i64 (u4:Int))).setCell ⟨w3.heap.size,1,none⟩ (.pointer rv4))):=hT5
   have HR5:Hid (YM E wj F AT u4 rv4 ev4 ((w4.setCell ⟨w3.heap.size,0,none⟩ (.int .i64 (u4:Int))).setCell ⟨w3.heap.size,1,none⟩ (.pointer rv4))):=HR4.o.kept (λq st h=>p3 _ _ _ _ h) (λk v h=>p4 _ _ _ h)
   clear HR4 HT4 HR9 p3 p4 hT5 s0 s1 sf
   obtain ⟨w5,hw5⟩:∃w5,w5=((w4.setCell ⟨w3.heap.size,0,none⟩ (.int .i64 (u4:Int))).setCell ⟨w3.heap.size,1,none⟩ (.pointer rv4)):=⟨_,rfl⟩
   rw [<-hw5] at hr5 HT5 HR5 f0 f2 hlk5 ⊢
   clear hw5
   obtain ⟨k9,hk9⟩:∃k9,k9=w3.heap.size:=⟨_,rfl⟩
   rw [<-hk9] at hr5 ⊢
   clear hk9)
  clear HT3 HT3d HT3a HZ HZR
  have s0:w5.cell? ⟨k9,0,none⟩=some (.int .i64 (u4:Int)):=Ja hr5
  have s1:w5.cell? ⟨k9,1,none⟩=some (.pointer rv4):=Ja hr5
  have hk5:k9<w5.heap.size:=(Jb hr5)
  have HRK:Hid (w5.heap[k9]? =some (.cells #[.int .i64 (u4:Int),.pointer rv4] 146)):=hr5
  clear hr5
  cases AT with
  | error er=>
   obtain ⟨tv,uv,rfl,hv⟩:=HR5.o
   have HV:Hid (Jm E (erG er) w5 (.iface tv uv)):=hv
   clear hv HR5 HNX HHB HDG HAP HRD HTIP
   go_wp2_with fail
   refine (XA _ _ _ _).mono ?_
   rintro _ _ ⟨rfl,rfl⟩
   go_wp2
   go_ret2
   exact ⟨HT5.o.go (Ta _ _ _),_,_,rfl,.wrap _ _ _ (Qf _ _) (HV.o.next (Ta _ _ _))⟩
  | ok st'=>
   obtain ⟨q',rfl,hq,rfl,hs5,hk5'⟩:=HR5.o
   have HQ:Hid (Jl q'=.pointer rv4):=hq
   have HS5:Hid (StAt (dgW u4) F w5 q' st'):=hs5
   clear hq hs5 hk5' HR5 HAP
   obtain ⟨y0,y2,hly⟩:=HRD.o w5 HT5.o
   clear f0 f2 hlk5
   go_wp2_with fail
   refine (HNX.o w5 HT5.o).mono ?_
   rintro _ w6 ⟨rfl,ht6⟩
   have HT6:Hid (Tch NoB w w6):=HT5.o.go ht6
   have HT6a:Hid (Tch NoB w (w6.alloc (.cells #[.int .u64 ((m+1:Nat):Int),.string sa,.string sb,.string ⟨#[]⟩] 167))):=HT6.o.go (Ta _ _ _)
   have HS6:Hid (StAt (dgW u4) F (w6.alloc (.cells #[.int .u64 ((m+1:Nat):Int),.string sa,.string sb,.string ⟨#[]⟩] 167)) q' st'):=(HS5.o.next ht6).next (Ta _ _ _)
   have t0:w6.cell? ⟨k9,0,none⟩=some (.int .i64 (u4:Int)):=(ht6.cell (p:=⟨k9,0,none⟩) hk5 (λh=>h)).trans s0
   have t1:w6.cell? ⟨k9,1,none⟩=some (.pointer rv4):=(ht6.cell (p:=⟨k9,1,none⟩) hk5 (λh=>h)).trans s1
   have hk6:k9<w6.heap.size:=Qk hk5 ht6.size
   have HDI:=HDG.o _ q' st' HT6a.o HS6.o
   unfold JE at HDI
   rw [HQ.o] at HDI
   have HDI':Hid (Calls _ _ _ _ _):=HDI
   clear ht6 s0 s1 y0 y2 hly HNX HDI HS6 HS5
   go_wp2_with fail
   refine HDI'.out.mono ?_
   rintro _ w7 ⟨rfl,ht7⟩
   have HT7:Hid (Tch NoB w w7):=HT6a.o.go ht7
   have hr7:w7.heap[w6.heap.size]? =some (.cells #[.int .u64 ((m+1:Nat):Int),.string sa,.string sb,.string ⟨#[]⟩] 167):=(ht7.block _ (by simp) (λh=>h)).trans (Qf _ _)
   have r0:w7.cell? ⟨w6.heap.size,0,none⟩=some (.int .u64 ((m+1:Nat):Int)):=Ja hr7
   have r1:w7.cell? ⟨w6.heap.size,1,none⟩=some (.string sa):=Ja hr7
   have r2:w7.cell? ⟨w6.heap.size,2,none⟩=some (.string sb):=Ja hr7
   have r3:w7.cell? ⟨w6.heap.size,3,none⟩=some (.string ⟨#[]⟩):=Ja hr7
   have fr:∀j,w7.frozen? ⟨w6.heap.size,j,none⟩=false:=λj=>Qg _ _ _ _ _ hr7
   have HR7:Hid (w7.heap[w6.heap.size]? =some _):=hr7
   obtain ⟨y0,y2,hly⟩:=HRD.o w7 HT7.o
   generalize hsd:JV (dgW u4) st'=sd at *
   have HSD:Hid (JV (dgW u4) st'=sd):=hsd
   have HHC:=λW hT=>HHB.o W st' hT
   rw [hsd] at HHC
   have HHC':Hid (∀W,Tch NoB w W->Calls _ _ _ W _):=HHC
   clear ht7 hr7 HDI' HDG HHC HHB hsd t0 t1
   go_wp2_with fail
   have hset:w7.setCell ⟨w6.heap.size,3,none⟩ (.string sd)=w7.setRow w6.heap.size #[.int .u64 ((m+1:Nat):Int),.string sa,.string sb,.string sd]:=by
    rw [Qj w7 w6.heap.size 3 _ _ (0,0) _ HR7.o]
    rfl
   have hr8:(w7.setRow w6.heap.size #[.int .u64 ((m+1:Nat):Int),.string sa,.string sb,.string sd]).heap[w6.heap.size]? =some (.cells #[.int .u64 ((m+1:Nat):Int),.string sa,.string sb,.string sd] 167):=Qi _ _ _ _ _ _ HR7.o
   have HT8:Hid (Tch NoB w (w7.setRow w6.heap.size #[.int .u64 ((m+1:Nat):Int),.string sa,.string sb,.string sd])):=HT7.o.trans (Ts _ _ _) (λj hj=>.inr (by have:=HT6.o.size;omega))
   rw [hset]
   clear hset r0 r1 r2 r3 fr y0 y2 hly HR7
   generalize w7.setRow w6.heap.size #[.int .u64 ((m+1:Nat):Int),.string sa,.string sb,.string sd]=w8 at *
   have r0:w8.cell? ⟨w6.heap.size,0,none⟩=some (.int .u64 ((m+1:Nat):Int)):=Ja hr8
   have r1:w8.cell? ⟨w6.heap.size,1,none⟩=some (.string sa):=Ja hr8
   have r2:w8.cell? ⟨w6.heap.size,2,none⟩=some (.string sb):=Ja hr8
   have r3:w8.cell? ⟨w6.heap.size,3,none⟩=some (.string sd):=Ja hr8
   obtain ⟨y0,_,_⟩:=HRD.o w8 HT8.o
   have HT8d:Hid (Tch NoB w w8.drew):=HT8.o.dr 1
   have hz8:w6.heap.size<w8.heap.size:=(Jb hr8)
   have HR8:Hid (w8.heap[w6.heap.size]? =some _):=hr8
   clear hr8
   go_region_held3 (λW=>W.cell? ⟨cb,0,none⟩=some (.int .i64 (u4:Int))/\W.cell? ⟨w6.heap.size,0,none⟩=some (.int .u64 ((m+1:Nat):Int))/\W.cell? ⟨w6.heap.size,1,none⟩=some (.string sa)/\W.cell? ⟨w6.heap.size,2,none⟩=some (.string sb)/\W.cell? ⟨w6.heap.size,3,none⟩=some (.string sd)) (go_keep) ((go_at_call 84;refine (HHC'.out _ HT8d.o).mono ?_;rintro _ w9 ⟨rfl,ht9⟩;have hTw9:Tch NoB w w9:=HT8d.o.go ht9;have hT89:Tch NoB w8 w9:=(Td NoB w8 1).go ht9;have hr9:w9.heap[w6.heap.size]? =some (.cells #[.int .u64 ((m+1:Nat):Int),.string sa,.string sb,.string sd] 167):=(hT89.block _ hz8 (λh=>h)).trans HR8.o;have q0:w9.cell? ⟨w6.heap.size,0,none⟩=some (.int .u64 ((m+1:Nat):Int)):=Ja hr9;have q1:w9.cell? ⟨w6.heap.size,1,none⟩=some (.string sa):=Ja hr9;have q2:w9.cell? ⟨w6.heap.size,2,none⟩=some (.string sb):=Ja hr9;have q3:w9.cell? ⟨w6.heap.size,3,none⟩=some (.string sd):=Ja hr9;obtain ⟨x0,_,_⟩:=HRD.o w9 hTw9;have HT9:Hid (Tch NoB w w9):=hTw9;clear ht9 hTw9 hT89 hr9))
   all_goals
    have hl:=HHL.o st'
    rw [HSD.o] at hl
    obtain ⟨ss,_,hss,hadd⟩:=Jb8 (hdrB (m+1,sa,sb,sd)) (JB ts) (by have:=HLN.o;omega) hl
    have HSS:Hid (ss.data.toList=hdrB (m+1,sa,sb,sd)++JB ts):=hss
    clear hl hss HHL HLN HRD HHC' q0 q1 q2 q3 x0 r0 r1 r2 r3 y0
    generalize (⟨(hdrB (m+1,sa,sb,sd)).toArray⟩:BA)=hbz at *
    generalize (⟨(JB ts).toArray⟩:BA)=bbz at *
    go_wp2
    go_ret2
    refine ⟨HT9.o,?_⟩
    show _=Ending.returned (.tuple #[.string ⟨(hdrB (m+1,sa,sb,JV (dgW u4) st')++JB ts).toArray⟩,.nilIface])
    rw [HSD.o,<-HSS.o]
    rfl
