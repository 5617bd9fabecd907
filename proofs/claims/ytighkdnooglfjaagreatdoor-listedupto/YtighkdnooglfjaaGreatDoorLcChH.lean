import Derived.Test.YtighkdnooglfjaaGreatDoorLcChE
namespace Go.Proofs.YtighkdnooglfjaaGreatDoor
open Tryz
set_option maxRecDepth 100000
set_option maxHeartbeats 1000000
open Go.RowKit

variable {bs:List BV}{cb fl r wj:Nat}{v:Value}{w:World}
def ChS(cb wj r:Nat)(k:Int)(b:Value)(W:World):Prop:=W.cell? ⟨cb,0,none⟩=some (.int .i64 (wj:Int))/\W.cell? ⟨cb,2,none⟩=some (.map (some r))/\(Instr.lookup 141 (.map (some r)) (.int .i64 k) false).run prog W=.ok b W
theorem JB.reads(h:JB w cb wj fl r bs v)(k:Nat)(b:BV)(hb:bs[k]? =some b):ChS cb wj r (k:Int) (bV b) w:=
 ⟨Ja h.row,Ja h.row,Jfe h.map k b hb false⟩
structure Jkj(s:BA):Prop where
 le:s.size<=2000000
theorem JfK(a:List UInt8)(d:BA)(h:d.size<=1000000)(ha:a.length<=100):∃s:BA,s.size<=1000100/\s.data.toList=a++d.data.toList/\∀W,(Op.stringOp .add (⟨a.toArray⟩:BA) d).run prog W=.ok (.string s) W:=by
 have:=JcH a d.data.toList (by simpa using h) ha;simpa using this
theorem Jgy(E:Nat->Addr)(hE:Env E w)(hw1:1<=wj)(hw:wj<=32)(h:JB w cb wj fl r bs v)(m:Nat)(hm:bs.length=m+1)(hm2:m<2 ^ 31)(b:BV)(hb:bs[m]? =some b)(hbs:b.1.size<=1000)(body:BA)(hbo:body.size<=1000000):
  Calls prog 82 #[.pointer (some ⟨cb,0,none⟩),.string body] w λe w'=>e=.returned (.agg #[.int .u64 ((m+1:Nat):Int),.string (dgW wj (72::b.1.data.toList)),.string (dgW wj (66::body.data.toList)),.string ⟨#[]⟩])/\Tch NoB w w':=by
 obtain⟨bh,bu,bq⟩:=b;obtain⟨rv,hrv⟩:∃rv,Jh bq=.pointer rv:=⟨_,rfl⟩
 obtain⟨W,hW⟩:∃W,W=w.alloc (.cells #[.int .u64 0,.string ⟨#[]⟩,.string ⟨#[]⟩,.string ⟨#[]⟩] 167):=⟨_,rfl⟩
 have hA:Tch NoB w W:=by rw[hW];exact Ta _ _ _
 have HTIP:Hid (Calls prog 40 #[.pointer (some ⟨cb,0,none⟩)] W λe w'=>e=.returned (.int .i64 (m:Int))/\W=w'):=(JbS (h.next hA) (by omega)).mono λe w' k=>⟨by rw[k.1,hm];congr 2;omega,k.2⟩
 have HRD:Hid (∀W',Tch NoB w W'->ChS cb wj r (m:Int) (.agg #[.string bh,.int .i64 (bu:Int),.pointer rv]) W'):=λW' hT=>by
  have:=(h.next hT).reads m _ hb;simp only[bV,hrv]at this;exact this
 have hrow:W.heap[w.heap.size]? =some (.cells #[.int .u64 0,.string ⟨#[]⟩,.string ⟨#[]⟩,.string ⟨#[]⟩] 167):=by rw[hW];exact Qf _ _
 have HW:Hid _:=hW;have HA:Hid (∀k,Tch NoB w (W.drewN k)):=λk=>hA.dr k;have HROW:Hid (∀W',Tch NoB W W'->W'.heap[w.heap.size]? =some (.cells #[.int .u64 0,.string ⟨#[]⟩,.string ⟨#[]⟩,.string ⟨#[]⟩] 167)):=λW' hT=>(hT.block _ (Jb hrow) (λh=>h)).trans hrow;obtain⟨c0,c2,hlk⟩:=HRD.o W.drew (hA.dr 1);have hcb:cb<w.heap.size:=(Jb h.row)
 have hbs':bh.size<=1000:=hbs;obtain⟨s1,hs1,hd1,hadd1⟩:=JfK [72] bh (by omega) (by decide);obtain⟨s2,hs2,hd2,hadd2⟩:=JfK [66] body (by omega) (by decide);have hadd1':∀W,(Op.stringOp .add (⟨#[72]⟩:BA) bh).run prog W=.ok (.string s1) W:=hadd1;have hadd2':∀W,(Op.stringOp .add (⟨#[66]⟩:BA) body).run prog W=.ok (.string s2) W:=hadd2;clear hadd1 hadd2;have hfl:∀W,(Instr.field 148 (.agg #[.string bh,.int .i64 (bu:Int),.pointer rv]) 0).run prog W=.ok (.string bh) W:=λW=>by kernel_rfl
 have hwm:IntKind.u64.wrap (m:Int)=(m:Int):=JI _ (by omega) (by omega);have hwm1:IntKind.u64.wrap ((m:Int)+1)=(m:Int)+1:=JI _ (by omega) (by omega);have HOF:Hid (∀(s:BA) W',Tch NoB w W'->Jkj s->Calls prog 130 #[.int .i64 (wj:Int),.string s] W' λe w'=>e=.returned (.string (dgW wj s.data.toList))/\Tch NoB W' w'):=λs W' hT hs=>Jbg E wj s W' (hE.tch hT noE) hw1 hw (by have:=hs.le;omega);have K1:Jkj s1:=⟨by omega⟩
 have K2:Jkj s2:=⟨by omega⟩
 have HD:Hid (s1.data.toList=72::bh.data.toList/\s2.data.toList=66::body.data.toList):=⟨hd1,hd2⟩
 dsimp only;clear hE h hb hbs hbo hrv hW hrow hA hbs' hs1 hs2 hd1 hd2;have hmi:(m:Int)<9223372036854775807:=by omega
 have hm0:(0:Int)<=m:=by omega
 go_enter func82,ntmps82;go_wp2_with fail;rw[<-HW.o];refine HTIP.o.mono ?_;rintro _ _⟨rfl,rfl⟩;go_wp2_with fail;have tok1:True:=trivial;go_region_held3 (λW=>W.cell? ⟨cb,0,none⟩=some (.int .i64 (wj:Int))/\W.cell? ⟨cb,2,none⟩=some (.map (some r))/\(Instr.lookup 141 (.map (some r)) (.int .i64 (m:Int)) false).run prog W=.ok (.agg #[.string bh,.int .i64 (bu:Int),.pointer rv]) W) (go_keep) ((first|(go_at_call 130;have _t:=tok1;refine(HOF.o _ _ (HA.o 1) (by assumption)).mono ?_;rintro _ w2⟨rfl,ht2⟩;have hT2:Tch NoB W w2:=(Td NoB W 1).go ht2;have hTw2:Tch NoB w w2:=(HA.o 1).go ht2;obtain⟨d0,d2,hlk2⟩:=HRD.o w2 hTw2;have HT2:Hid (Tch NoB W w2/\Tch NoB w w2):=⟨hT2,hTw2⟩;clear hT2 hTw2 ht2 tok1)|(go_at_call 130;refine(HOF.o _ _ HT2.o.2 (by assumption)).mono ?_;rintro _ w3⟨rfl,ht3⟩;have hT3:Tch NoB W w3:=HT2.o.1.go ht3;have hTw3:Tch NoB w w3:=HT2.o.2.go ht3;obtain⟨e0,e2,hlk3⟩:=HRD.o w3 hTw3;have HT3:Hid (Tch NoB W w3/\Tch NoB w w3):=⟨hT3,hTw3⟩;have hr3:=HROW.o w3 hT3;have q0:w3.cell? ⟨w.heap.size,0,none⟩=some (.int .u64 0):=Ja hr3;have q1:w3.cell? ⟨w.heap.size,1,none⟩=some (.string ⟨#[]⟩):=Ja hr3;have q2:w3.cell? ⟨w.heap.size,2,none⟩=some (.string ⟨#[]⟩):=Ja hr3;have q3:w3.cell? ⟨w.heap.size,3,none⟩=some (.string ⟨#[]⟩):=Ja hr3;have fq:∀j,w3.frozen? ⟨w.heap.size,j,none⟩=false:=λj=>Qg _ _ _ _ _ hr3;have HR3:Hid _:=hr3;have hst:=HRD.o ((((w3.setCell ⟨w.heap.size,0,none⟩ (.int .u64 ((m:Int)+1))).setCell ⟨w.heap.size,1,none⟩ (.string (dgW wj s1.data.toList))).setCell ⟨w.heap.size,2,none⟩ (.string (dgW wj s2.data.toList))).setCell ⟨w.heap.size,3,none⟩ (.string ⟨#[]⟩)) (by rw[set4 _ _ _ _ _ _ _ _ _ _ _ hr3];exact hTw3.trans (Ts _ _ _) (λj hj=>.inr (by omega)));obtain⟨g0,g2,hlk4⟩:=hst;clear hr3;clear hT3 hTw3 ht3)))
 all_goals
  go_wp2;rw[set4 _ _ _ _ _ _ _ _ _ _ _ HR3.o];refine QJ (v:=.agg #[.int .u64 ((m:Int)+1),.string (dgW wj s1.data.toList),.string (dgW wj s2.data.toList),.string ⟨#[]⟩]) (Qq results82 _ _ w.heap.size _ _ (0,0) _ rfl (Qi _ _ _ _ _ _ HR3.o) underlying167 rfl (by kernel_rfl)) rfl ⟨?_,?_⟩
  ·rw[HD.o.1,HD.o.2];rfl
  ·exact HT3.o.2.trans (Ts _ _ _) (λj hj=>.inr (by omega))
