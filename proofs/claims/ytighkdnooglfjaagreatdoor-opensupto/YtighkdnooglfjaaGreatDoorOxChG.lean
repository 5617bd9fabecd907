import Derived.Test.YtighkdnooglfjaaGreatDoorOxChA
import Derived.Deep.DeepCutAuto
namespace Go.Proofs.YtighkdnooglfjaaGreatDoor
open Tryz
set_option maxRecDepth 100000
set_option maxHeartbeats 1000000
open Go.RowKit

abbrev BV:=BA×Nat×Option Nat
def bV (b:BV):Value:=.agg #[.string b.1,.int .i64 (b.2.1:Int),Jk b.2.2]
def Js:Nat->List BV->List MapEntry
 | _,[]=>[]
 | i,b :: r=>⟨.int .i64 (i:Int),bV b,i⟩ :: Js (i+1) r
theorem Jcd (bs:List BV):∀i,(Js i bs).length=bs.length:=by
 induction bs with
 | nil=>intro i;rfl
 | cons b r ih=>intro i;simp [Js,ih]
theorem Jcc (bs:List BV) (b:BV):∀i,Js i (bs++[b])=Js i bs++[⟨.int .i64 ((i+bs.length:Nat):Int),bV b,i+bs.length⟩]:=by
 induction bs with
 | nil=>intro i;simp [Js]
 | cons x r ih=>
  intro i
  rw [List.cons_append,Js,ih (i+1),Js,List.cons_append,Qp]
  have e:i+1+r.length=i+(r.length+1):=by omega
  rw [e]
theorem YQ (bs:List BV):∀(i j:Nat) (k:Int),Instr.findNow (.int .i64) (.int .i64 k) (Js i bs) j=some (if (i:Int)<=k then (bs[k.toNat - i]?).map λb=>(j+(k.toNat - i),bV b) else none):=by
 induction bs with
 | nil=>intro i j k;simp [Js,Instr.findNow]
 | cons b r ih=>
  intro i j k
  rw [Js,Instr.findNow]
  by_cases h:k=(i:Int)
  ·subst h
   simp [Instr.sameNow]
  ·have h1:Instr.sameNow (.int .i64) (.int .i64 k) (.int .i64 (i:Int))=some false:=by simp [Instr.sameNow,h]
   rw [h1]
   simp only
   rw [ih (i+1) (j+1) k]
   by_cases h2:(i:Int)<=k
   ·rw [if_pos h2,if_pos (by omega)]
    have e1:k.toNat - i=(k.toNat - (i+1))+1:=by omega
    rw [e1,List.getElem?_cons_succ]
    congr 2
    funext x
    congr 1
    omega
   ·rw [if_neg h2,if_neg (by omega)]
theorem Jhz:prog.underlying 141=some (.map 3 148):=underlying141
theorem Jcb:prog.underlying 3=some (.int .i64):=underlying3
theorem Jeu {w:World} {r:Nat} {bs:List BV} (h:w.heap[r]? =some (.map (Js 0 bs).toArray bs.length)) (k:Nat) (b:BV) (hk:bs[k]? =some b) (c:Bool):
  (Instr.lookup 141 (.map (some r)) (.int .i64 (k:Int)) c).run prog w=.ok (if c then .tuple #[bV b,.bool true] else bV b) w:=by
 have h1:=YQ bs 0 0 (k:Int)
 rw [if_pos (by omega)] at h1
 simp only [Int.toNat_natCast,Nat.sub_zero,Nat.zero_add,hk,Option.map_some] at h1
 simp [Instr.lookup,run_underlying Jhz,Go.MapKept.run_getObj_map h,Go.MapKept.run_checkKey (d:=.int .i64) Jcb (k:=.int .i64 (k:Int)) (by simp [Go.MapKept.IsKey]),Go.MapKept.run_findKey Jcb h1,Result.andThen]
theorem Jka {w:World} {r:Nat} {bs:List BV} (h:w.heap[r]? =some (.map (Js 0 bs).toArray bs.length)) (k:Int) (hk:¬(0<=k/\k<bs.length)) (c:Bool):
  (Instr.lookup 141 (.map (some r)) (.int .i64 k) c).run prog w=.ok (if c then .tuple #[bV (⟨#[]⟩,0,none),.bool false] else bV (⟨#[]⟩,0,none)) w:=by
 have h1:=YQ bs 0 0 k
 have h2:(if ((0:Nat):Int)<=k then (bs[k.toNat - 0]?).map λb=>(0+(k.toNat - 0),bV b) else none)=none:=by
  by_cases h0:(0:Int)<=k
  ·rw [if_pos (by omega),List.getElem?_eq_none (by omega)];rfl
  ·rw [if_neg (by omega)]
 rw [h2] at h1
 simp [Instr.lookup,run_underlying Jhz,Go.MapKept.run_getObj_map h,Go.MapKept.run_checkKey (d:=.int .i64) Jcb (k:=.int .i64 k) (by simp [Go.MapKept.IsKey]),Go.MapKept.run_findKey Jcb h1,Result.andThen]
 rfl
def _root_.Go.World.setBlocks (w:World) (r:Nat) (bs:List BV):World:={ w with heap:=w.heap.setIfInBounds r (.map (Js 0 bs).toArray bs.length) }
theorem JcN {w:World} {r:Nat} {bs:List BV} (h:w.heap[r]? =some (.map (Js 0 bs).toArray bs.length)) (b:BV):
  (Instr.mapUpdate 141 (.map (some r)) (.int .i64 (bs.length:Int)) (bV b)).run prog w=.ok () (w.setBlocks r (bs++[b])):=by
 have h1:=YQ bs 0 0 (bs.length:Int)
 rw [if_pos (by omega)] at h1
 simp only [Int.toNat_natCast,Nat.sub_zero,Nat.zero_add,show bs[bs.length]? =none by simp,Option.map_none] at h1
 simp [Instr.mapUpdate,run_underlying Jhz,Go.MapKept.run_getObj_map h,Go.MapKept.run_checkKey (d:=.int .i64) Jcb (k:=.int .i64 (bs.length:Int)) (by simp [Go.MapKept.IsKey]),Go.MapKept.run_findKey Jcb h1,Go.MapKept.run_setObj_map _ h,Result.andThen,World.setBlocks,Jcc]
theorem Zf {w:World} {r:Nat} {o:Obj} (h:w.heap[r]? =some o) (bs:List BV):(w.setBlocks r bs).heap[r]? =some (.map (Js 0 bs).toArray bs.length):=(Go.MapKept.heap_set h).1
theorem Tch.setBlocks (w:World) (r:Nat) (bs:List BV):Tch (λk=>k=r) w (w.setBlocks r bs):=⟨rfl,rfl,rfl,by simp [World.setBlocks],λk _ hn=>by simp [World.setBlocks,Ne.symm hn]⟩
theorem Jgv {w:World} {r:Nat} {bs:List BV} (h:w.heap[r]? =some (.map (Js 0 bs).toArray bs.length)):(Builtin.len_ #[141] 3 #[.map (some r)]).run prog w=.ok (.int .i64 (bs.length:Int)) w:=by
 simp [Builtin.len_,Go.MapKept.run_getObj_map h,Jcd]
 rfl
theorem Jf.refine {d:List UInt8->BA} {F G:Nat->Prop} {w:World} {n:Nat} {t:Tr} (h:Jf d F w n t) (hg:∀j,F j->(∃c,w.heap[j]? =some (.cells c 243))->G j):Jf d G w n t:=by
 induction h with
 | leaf n k o hF hr=>exact .leaf n k o (hg n hF ⟨_,hr⟩) hr
 | br n b nl nr l r hF hr _ _ ihl ihr=>exact .br n b nl nr l r (hg n hF ⟨_,hr⟩) hr ihl ihr
theorem StAt.refine {d:List UInt8->BA} {F G:Nat->Prop} {w:World} {q:Option Nat} {st:Option Tr} (h:StAt d F w q st) (hg:∀j,F j->(∃c,w.heap[j]? =some (.cells c 243))->G j):StAt d G w q st:=by
 cases q <;> cases st <;> first | exact h | exact Jf.refine h hg
structure Ju (w:World) (cb:Nat) (wd fl r:Nat) (bs:List BV) (v:Value):Prop where
 row:w.heap[cb]? =some (.cells #[.int .i64 (wd:Int),.int .i64 (fl:Int),.map (some r),v] 143)
 map:w.heap[r]? =some (.map (Js 0 bs).toArray bs.length)
theorem Ju.next {w w':World} {cb wd fl r:Nat} {bs:List BV} {v:Value} (h:Ju w cb wd fl r bs v) (k:Tch NoB w w'):Ju w' cb wd fl r bs v:=
 ⟨(k.block _ (Jb h.row) (λh=>h)).trans h.row,(k.block _ (Jb h.map) (λh=>h)).trans h.map⟩
theorem Jbs {w:World} {cb wd fl r:Nat} {bs:List BV} {v:Value} (h:Ju w cb wd fl r bs v) (hb:bs.length<2 ^ 32):
  Calls prog 40 #[.pointer (some ⟨cb,0,none⟩)] w λe w'=>e=.returned (.int .i64 ((bs.length:Int) - 1))/\w=w':=by
 have c2:w.cell? ⟨cb,2,none⟩=some (.map (some r)):=Ja h.row
 have hlen:=Jgv h.map
 clear h
 generalize hn:bs.length=n at *
 clear hn
 go_enter func40,ntmps40
 go_wp2
 go_ret
 exact ⟨rfl,rfl⟩
theorem Jl9 {w:World} {cb wd fl r:Nat} {bs:List BV} {v:Value} (h:Ju w cb wd fl r bs v) (k:Nat) (b:BV) (hk:bs[k]? =some b):
  Calls prog 74 #[.pointer (some ⟨cb,0,none⟩),.int .i64 (k:Int)] w λe w'=>e=.returned (.tuple #[bV b,.nilIface])/\Tch NoB w w':=by
 obtain ⟨bh,bu,bq⟩:=b
 obtain ⟨rv,hrv⟩:∃rv,Jk bq=.pointer rv:=⟨_,rfl⟩
 obtain ⟨W,hW⟩:∃W,W=w.alloc (.cells #[.string ⟨#[]⟩,.int .i64 0,.pointer none] 148):=⟨_,rfl⟩
 have hA:Tch NoB w W:=by rw [hW];exact Tch.alloc _ _ _
 have c2:W.cell? ⟨cb,2,none⟩=some (.map (some r)):=Ja (h.next hA).row
 have hlk:=Jeu (h.next hA).map k (bh,bu,bq) hk true
 have hrow:W.heap[w.heap.size]? =some (.cells #[.string ⟨#[]⟩,.int .i64 0,.pointer none] 148):=by rw [hW];exact Qf _ _
 have r0:W.cell? ⟨w.heap.size,0,none⟩=some (.string ⟨#[]⟩):=Ja hrow
 have r1:W.cell? ⟨w.heap.size,1,none⟩=some (.int .i64 0):=Ja hrow
 have r2:W.cell? ⟨w.heap.size,2,none⟩=some (.pointer none):=Ja hrow
 have fR:∀j,W.frozen? ⟨w.heap.size,j,none⟩=false:=λj=>Qg _ _ _ _ _ hrow
 have HW:Hid _:=hW
 have HR:Hid _:=hrow
 have HA:Hid _:=hA
 have hz:w.heap.size<W.heap.size:=(Jb hrow)
 simp only [bV] at hlk ⊢
 rw [hrv] at hlk ⊢
 clear h hk hW hrow hA hrv
 go_enter func74,ntmps74
 go_upto_region 1 with fail
 rw [<-HW.o]
 go_wp2
 rw [set3 _ _ _ _ _ _ _ _ _ HR.o]
 have t1:=Tch.setRow W w.heap.size #[.string bh,.int .i64 (bu:Int),.pointer rv]
 have hr:(W.setRow w.heap.size #[.string bh,.int .i64 (bu:Int),.pointer rv]).heap[w.heap.size]? =some (.cells #[.string bh,.int .i64 (bu:Int),.pointer rv] 148):=Qi _ _ _ _ _ _ HR.o
 have t2:=Tch.alloc NoB (W.setRow w.heap.size #[.string bh,.int .i64 (bu:Int),.pointer rv]) (.cells #[.string bh,.int .i64 (bu:Int),.pointer rv] 148)
 refine QJ (v:=.tuple #[.agg #[.string bh,.int .i64 (bu:Int),.pointer rv],.nilIface]) (Jj results74 _ _ w.heap.size _ _ (0,0) _ rfl ((t2.block _ (Jb hr) (λh=>h)).trans hr) underlying148 rfl (by kernel_rfl)) rfl ⟨rfl,?_⟩
 exact (HA.o.trans t1 (λj hj=>.inr (by omega))).go t2
theorem Jjw (E:Nat->Addr) {w:World} (hE:Env E w) {cb wd fl r:Nat} {bs:List BV} {v:Value} (h:Ju w cb wd fl r bs v) (k:Int) (hk:¬(0<=k/\k<bs.length)):
  Calls prog 74 #[.pointer (some ⟨cb,0,none⟩),.int .i64 k] w λe w'=>∃t u,e=.returned (.tuple #[bV (⟨#[]⟩,0,none),.iface t u])/\Jn E 5 w' (.iface t u)/\Tch NoB w w':=by
 obtain ⟨W,hW⟩:∃W,W=w.alloc (.cells #[.string ⟨#[]⟩,.int .i64 0,.pointer none] 148):=⟨_,rfl⟩
 have hA:Tch NoB w W:=by rw [hW];exact Tch.alloc _ _ _
 have c2:W.cell? ⟨cb,2,none⟩=some (.map (some r)):=Ja (h.next hA).row
 have hlk:=Jka (h.next hA).map k hk true
 have hrg:=(hE.tch hA noE).range
 have hsz:=(hE.tch hA noE).size
 have hrow:W.heap[w.heap.size]? =some (.cells #[.string ⟨#[]⟩,.int .i64 0,.pointer none] 148):=by rw [hW];exact Qf _ _
 have r0:W.cell? ⟨w.heap.size,0,none⟩=some (.string ⟨#[]⟩):=Ja hrow
 have r1:W.cell? ⟨w.heap.size,1,none⟩=some (.int .i64 0):=Ja hrow
 have r2:W.cell? ⟨w.heap.size,2,none⟩=some (.pointer none):=Ja hrow
 have fR:∀j,W.frozen? ⟨w.heap.size,j,none⟩=false:=λj=>Qg _ _ _ _ _ hrow
 have HW:Hid _:=hW
 have HR:Hid _:=hrow
 have HA:Hid _:=hA
 have hz:w.heap.size<W.heap.size:=(Jb hrow)
 simp only [bV,Jk,Option.map_none] at hlk ⊢
 clear h hk hW hrow hA hE
 have hGs:5<W.heap.size:=Qk (by decide) hsz
 clear hsz
 go_enter func74,ntmps74
 go_upto_region 1 with fail
 rw [<-HW.o]
 go_wp2_with fail
 refine (Xz _ _ _ _).mono ?_
 rintro _ _ ⟨rfl,rfl⟩
 go_wp2
 rw [set3 _ _ _ _ _ _ _ _ _ HR.o]
 have t1:=Tch.setRow W w.heap.size #[.string ⟨#[]⟩,.int .i64 0,.pointer none]
 have hr:(W.setRow w.heap.size #[.string ⟨#[]⟩,.int .i64 0,.pointer none]).heap[w.heap.size]? =some (.cells #[.string ⟨#[]⟩,.int .i64 0,.pointer none] 148):=Qi _ _ _ _ _ _ HR.o
 have hws:(W.setRow w.heap.size #[.string ⟨#[]⟩,.int .i64 0,.pointer none]).heap.size=W.heap.size:=by simp [World.setRow]
 generalize W.setRow w.heap.size #[.string ⟨#[]⟩,.int .i64 0,.pointer none]=W1 at *
 have t2:=(Tch.alloc NoB W1 (.cells #[.string ⟨#[]⟩,.int .i64 0,.pointer none] 148))
 have t3:=Tch.alloc NoB (W1.alloc (.cells #[.string ⟨#[]⟩,.int .i64 0,.pointer none] 148)) (.cells #[.string ⟨#[104,101,105,103,104,116]⟩,eV E 5] 237)
 refine QJ (v:=.tuple #[.agg #[.string ⟨#[]⟩,.int .i64 0,.pointer none],.iface 235 (.pointer (some ⟨W.heap.size+1,0,none⟩))]) (Jj results74 _ _ w.heap.size _ _ (0,0) _ rfl (((t2.go t3).block _ (Jb hr) (λh=>h)).trans hr) underlying148 rfl (by kernel_rfl)) rfl ⟨_,_,rfl,?_,?_⟩
 ·refine .wrap (W.heap.size+1) ⟨#[104,101,105,103,104,116]⟩ (eV E 5) ?_ .base
  have:=Qf (W1.alloc (.cells #[.string ⟨#[]⟩,.int .i64 0,.pointer none] 148)) (.cells #[.string ⟨#[104,101,105,103,104,116]⟩,eV E 5] 237)
  rw [World.size_alloc,hws] at this
  exact this
 ·exact ((HA.o.trans t1 (λj hj=>.inr (by omega))).go t2).go t3
theorem Jek (E:Nat->Addr) {w:World} (hE:Env E w) {cb wd fl r:Nat} {bs:List BV} {v:Value} (h:Ju w cb wd fl r bs v) (k:Int):
  Calls prog 41 #[.pointer (some ⟨cb,0,none⟩),.int .i64 k] w λe w'=>Tch NoB w w'/\((∃n b,k=(n:Nat)/\bs[n]? =some b/\e=.returned (.tuple #[.string b.1,.nilIface]))\/(¬(0<=k/\k<bs.length)/\∃t u,e=.returned (.tuple #[.string ⟨#[]⟩,.iface t u])/\Jn E 5 w' (.iface t u))):=by
 by_cases hk:0<=k/\k<bs.length
 ·obtain ⟨n,rfl⟩:=Int.eq_ofNat_of_zero_le hk.1
  have hb:bs[n]? =some bs[n]:=Qd (by omega)
  have HAT:Hid (Calls _ _ _ _ _):=Jl9 h n _ hb
  have HB:Hid _:=hb
  generalize bs[n]=b at *
  obtain ⟨bh,bu,bq⟩:=b
  simp only [bV] at HAT
  obtain ⟨rv,hrv⟩:∃rv,Jk bq=.pointer rv:=⟨_,rfl⟩
  rw [hrv] at HAT
  clear hk hb hE h hrv
  go_enter func41,ntmps41
  go_wp2_with fail
  refine HAT.o.mono ?_
  rintro _ w2 ⟨rfl,ht⟩
  have HT:Hid _:=ht
  clear ht HAT
  go_wp2
  go_ret2
  exact ⟨HT.o.go (Tch.alloc _ _ _),.inl ⟨n,(bh,bu,bq),rfl,HB.o,rfl⟩⟩
 ·have HAT:Hid (Calls _ _ _ _ _):=Jjw E hE h k hk
  have HK:Hid _:=hk
  simp only [bV,Jk,Option.map_none] at HAT
  clear hk hE h
  go_enter func41,ntmps41
  go_wp2_with fail
  refine HAT.o.mono ?_
  rintro _ w2 ⟨t,u,rfl,he,ht⟩
  have HT:Hid _:=ht
  have HV:Hid _:=he
  clear ht HAT he
  go_wp2
  go_ret2
  exact ⟨HT.o.go (Tch.alloc _ _ _),.inr ⟨HK.o,t,u,rfl,HV.o.tch (Tch.alloc NoB _ _) (λ_ _ _ _ h=>h)⟩⟩

def ChS (cb wd r:Nat) (k:Int) (b:Value) (W:World):Prop:=W.cell? ⟨cb,0,none⟩=some (.int .i64 (wd:Int))/\W.cell? ⟨cb,2,none⟩=some (.map (some r))/\(Instr.lookup 141 (.map (some r)) (.int .i64 k) false).run prog W=.ok b W
theorem Ju.reads {w:World} {cb wd fl r:Nat} {bs:List BV} {v:Value} (h:Ju w cb wd fl r bs v) (k:Nat) (b:BV) (hb:bs[k]? =some b):ChS cb wd r (k:Int) (bV b) w:=
 ⟨Ja h.row,Ja h.row,Jeu h.map k b hb false⟩
structure Jjg (s:BA):Prop where
 le:s.size<=2000000
theorem JeZ (a:List UInt8) (d:BA) (h:d.size<=1000000) (ha:a.length<=100):∃s:BA,s.size<=1000100/\s.data.toList=a++d.data.toList/\∀W,(Op.stringOp .add (⟨a.toArray⟩:BA) d).run prog W=.ok (.string s) W:=by
 have:=Jcj a d.data.toList (by simpa using h) ha
 simpa using this
theorem Jfy (E:Nat->Addr) {w:World} (hE:Env E w) {cb wd fl r:Nat} (hw1:1<=wd) (hw:wd<=32) {bs:List BV} {v:Value} (h:Ju w cb wd fl r bs v) (m:Nat) (hm:bs.length=m+1) (hm2:m<2 ^ 31) (b:BV) (hb:bs[m]? =some b) (hbs:b.1.size<=1000) (body:BA) (hbo:body.size<=1000000):
  Calls prog 82 #[.pointer (some ⟨cb,0,none⟩),.string body] w λe w'=>e=.returned (.agg #[.int .u64 ((m+1:Nat):Int),.string (dgW wd (72 :: b.1.data.toList)),.string (dgW wd (66 :: body.data.toList)),.string ⟨#[]⟩])/\Tch NoB w w':=by
 obtain ⟨bh,bu,bq⟩:=b
 obtain ⟨rv,hrv⟩:∃rv,Jk bq=.pointer rv:=⟨_,rfl⟩
 obtain ⟨W,hW⟩:∃W,W=w.alloc (.cells #[.int .u64 0,.string ⟨#[]⟩,.string ⟨#[]⟩,.string ⟨#[]⟩] 167):=⟨_,rfl⟩
 have hA:Tch NoB w W:=by rw [hW];exact Tch.alloc _ _ _
 have HTIP:Hid (Calls prog 40 #[.pointer (some ⟨cb,0,none⟩)] W λe w'=>e=.returned (.int .i64 (m:Int))/\W=w'):=(Jbs (h.next hA) (by omega)).mono λe w' k=>⟨by rw [k.1,hm];congr 2;omega,k.2⟩
 have HRD:Hid (∀W',Tch NoB w W'->ChS cb wd r (m:Int) (.agg #[.string bh,.int .i64 (bu:Int),.pointer rv]) W'):=λW' hT=>by
  have:=(h.next hT).reads m _ hb
  simp only [bV,hrv] at this
  exact this
 have hrow:W.heap[w.heap.size]? =some (.cells #[.int .u64 0,.string ⟨#[]⟩,.string ⟨#[]⟩,.string ⟨#[]⟩] 167):=by rw [hW];exact Qf _ _
 have HW:Hid _:=hW
 have HA:Hid (∀k,Tch NoB w (W.drewN k)):=λk=>hA.dr k
 have HROW:Hid (∀W',Tch NoB W W'->W'.heap[w.heap.size]? =some (.cells #[.int .u64 0,.string ⟨#[]⟩,.string ⟨#[]⟩,.string ⟨#[]⟩] 167)):=λW' hT=>(hT.block _ (Jb hrow) (λh=>h)).trans hrow
 obtain ⟨c0,c2,hlk⟩:=HRD.o W.drew (hA.dr 1)
 have hcb:cb<w.heap.size:=(Jb h.row)
 have hbs':bh.size<=1000:=hbs
 obtain ⟨s1,hs1,hd1,hadd1⟩:=JeZ [72] bh (by omega) (by decide)
 obtain ⟨s2,hs2,hd2,hadd2⟩:=JeZ [66] body (by omega) (by decide)
 have hadd1':∀W,(Op.stringOp .add (⟨#[72]⟩:BA) bh).run prog W=.ok (.string s1) W:=hadd1
 have hadd2':∀W,(Op.stringOp .add (⟨#[66]⟩:BA) body).run prog W=.ok (.string s2) W:=hadd2
 clear hadd1 hadd2
 have hfl:∀W,(Instr.field 148 (.agg #[.string bh,.int .i64 (bu:Int),.pointer rv]) 0).run prog W=.ok (.string bh) W:=λW=>by kernel_rfl
 have hwm:IntKind.u64.wrap (m:Int)=(m:Int):=JB _ (by omega) (by omega)
 have hwm1:IntKind.u64.wrap ((m:Int)+1)=(m:Int)+1:=JB _ (by omega) (by omega)
 have HOF:Hid (∀(s:BA) W',Tch NoB w W'->Jjg s->Calls prog 130 #[.int .i64 (wd:Int),.string s] W' λe w'=>e=.returned (.string (dgW wd s.data.toList))/\Tch NoB W' w'):=λs W' hT hs=>ZQ E wd s W' (hE.tch hT noE) hw1 hw (by have:=hs.le;omega)
 have K1:Jjg s1:=⟨by omega⟩
 have K2:Jjg s2:=⟨by omega⟩
 have HD:Hid (s1.data.toList=72 :: bh.data.toList/\s2.data.toList=66 :: body.data.toList):=⟨hd1,hd2⟩
 dsimp only
 clear hE h hb hbs hbo hrv hW hrow hA hbs' hs1 hs2 hd1 hd2
 have hmi:(m:Int)<9223372036854775807:=by omega
 have hm0:(0:Int)<=m:=by omega
 go_enter func82,ntmps82
 go_wp2_with fail
 rw [<-HW.o]
 refine HTIP.o.mono ?_
 rintro _ _ ⟨rfl,rfl⟩
 go_wp2_with fail
 have tok1:True:=trivial
 go_region_held3 (λW=>W.cell? ⟨cb,0,none⟩=some (.int .i64 (wd:Int))/\W.cell? ⟨cb,2,none⟩=some (.map (some r))/\(Instr.lookup 141 (.map (some r)) (.int .i64 (m:Int)) false).run prog W=.ok (.agg #[.string bh,.int .i64 (bu:Int),.pointer rv]) W) (go_keep) ((first | (go_at_call 130;have _t:=tok1;refine (HOF.o _ _ (HA.o 1) (by assumption)).mono ?_;rintro _ w2 ⟨rfl,ht2⟩;have hT2:Tch NoB W w2:=(Tch.drewN NoB W 1).go ht2;have hTw2:Tch NoB w w2:=(HA.o 1).go ht2;obtain ⟨d0,d2,hlk2⟩:=HRD.o w2 hTw2;have HT2:Hid (Tch NoB W w2/\Tch NoB w w2):=⟨hT2,hTw2⟩;clear hT2 hTw2 ht2 tok1) | (go_at_call 130;refine (HOF.o _ _ HT2.o.2 (by assumption)).mono ?_;rintro _ w3 ⟨rfl,ht3⟩;have hT3:Tch NoB W w3:=HT2.o.1.go ht3;have hTw3:Tch NoB w w3:=HT2.o.2.go ht3;obtain ⟨e0,e2,hlk3⟩:=HRD.o w3 hTw3;have HT3:Hid (Tch NoB W w3/\Tch NoB w w3):=⟨hT3,hTw3⟩;have hr3:=HROW.o w3 hT3;have q0:w3.cell? ⟨w.heap.size,0,none⟩=some (.int .u64 0):=Ja hr3;have q1:w3.cell? ⟨w.heap.size,1,none⟩=some (.string ⟨#[]⟩):=Ja hr3;have q2:w3.cell? ⟨w.heap.size,2,none⟩=some (.string ⟨#[]⟩):=Ja hr3;have q3:w3.cell? ⟨w.heap.size,3,none⟩=some (.string ⟨#[]⟩):=Ja hr3;have fq:∀j,w3.frozen? ⟨w.heap.size,j,none⟩=false:=λj=>Qg _ _ _ _ _ hr3;have HR3:Hid _:=hr3;have hst:=HRD.o ((((w3.setCell ⟨w.heap.size,0,none⟩ (.int .u64 ((m:Int)+1))).setCell ⟨w.heap.size,1,none⟩ (.string (dgW wd s1.data.toList))).setCell ⟨w.heap.size,2,none⟩ (.string (dgW wd s2.data.toList))).setCell ⟨w.heap.size,3,none⟩ (.string ⟨#[]⟩)) (by rw [set4 _ _ _ _ _ _ _ _ _ _ _ hr3];exact hTw3.trans (Tch.setRow _ _ _) (λj hj=>.inr (by omega)));obtain ⟨g0,g2,hlk4⟩:=hst;clear hr3;clear hT3 hTw3 ht3)))
 all_goals
  go_wp2
  rw [set4 _ _ _ _ _ _ _ _ _ _ _ HR3.o]
  refine QJ (v:=.agg #[.int .u64 ((m:Int)+1),.string (dgW wd s1.data.toList),.string (dgW wd s2.data.toList),.string ⟨#[]⟩]) (Qq results82 _ _ w.heap.size _ _ (0,0) _ rfl (Qi _ _ _ _ _ _ HR3.o) underlying167 rfl (by kernel_rfl)) rfl ⟨?_,?_⟩
  ·rw [HD.o.1,HD.o.2];rfl
  ·exact HT3.o.2.trans (Tch.setRow _ _ _) (λj hj=>.inr (by omega))
