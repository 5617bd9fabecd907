import Derived.Test.YtighkdnooglfjaaGreatDoorLcChJ
import Derived.Test.YtighkdnooglfjaaGreatDoorLcKShop
namespace Go.Proofs.YtighkdnooglfjaaGreatDoor
open Tryz
set_option maxRecDepth 100000
set_option maxHeartbeats 1000000
open Go.RowKit

variable {l:List BA}{base:Nat}{P:Program}{v:Value}{w w':World}
theorem JhQ(E:Nat->Addr)(wj:Nat)(hw:wj<=32)(h:HdL)(hh:HdOk wj h)(w:World)(hE:Env E w):
  Calls prog 212 #[.int .i64 (wj:Int),.string ⟨(hdrB h).toArray⟩] w λe w'=>e=.returned (.tuple #[.string h.2.2.2,.nilIface])/\Tch NoB w w':=by
 have hlen:(hdrB h).length<=1000:=by obtain⟨h1,h2,h3,h4⟩:=hh;unfold hdrB;simp only[Qe,Jf,QA];have e2:h.2.1.data.size=wj:=h2;have e3:h.2.2.1.data.size=wj:=h3;have e4:h.2.2.2.data.size=wj:=h4;omega
 have hrd:(PS.rd [] (hdrB h)).hdr wj (0,⟨#[]⟩,⟨#[]⟩,⟨#[]⟩)=some (h,.rd (hdrB h) []):=by have:=(Jfu wj h (0,⟨#[]⟩,⟨#[]⟩,⟨#[]⟩) hh).rd [] [];rw[QC]at this;exact this
 have HHD:Hid (∀W,Tch NoB w W->Jc W w.heap.size none (wj:Int) .nilIface (.rd [] (hdrB h))->Calls prog 86 #[.pointer (some ⟨w.heap.size,0,none⟩),.agg #[.int .u64 0,.string ⟨#[]⟩,.string ⟨#[]⟩,.string ⟨#[]⟩]] W λe w'=>e=.returned (.agg #[.int .u64 (h.1:Int),.string h.2.1,.string h.2.2.1,.string h.2.2.2])/\RdTo E W w' w.heap.size (wj:Int) (some (.rd (hdrB h) []))):=λW hT hp=>JhS E hE wj hw ⟨(hdrB h).toArray⟩ (by rw[JA];omega) h _ hrd hT hp;obtain⟨n,s1,s2,s3⟩:=h;dsimp only at HHD ⊢;clear hE hh hlen hrd;have HL:Hid (∀hb,hb=hdrB (n,s1,s2,s3)->_):=λhb (_:hb=hdrB (n,s1,s2,s3))=>trivial;clear HL;generalize hhb:hdrB (n,s1,s2,s3)=hb at *;clear hhb;go_enter func212,ntmps212;go_wp2_with fail;refine(XT _ _ _).mono ?_;rintro _ w1⟨rfl,hp1,(HT1:Hid _)⟩;have HP1:Hid (Jc w1 w.heap.size none (wj:Int) .nilIface (.rd [] hb)):=hp1;clear hp1;go_wp2_with fail;refine(HHD w1 HT1 HP1).mono ?_;rintro _ w2⟨rfl,⟨hp2,_⟩,ht2⟩;obtain⟨W3,(HW3:Hid _)⟩:∃W3,W3=w2.alloc (.cells #[.int .u64 (n:Int),.string s1,.string s2,.string s3] 167):=⟨_,rfl⟩
 have hA:Tch NoB w2 W3:=by rw[HW3];exact Ta _ _ _
 have HT2:Hid _:=(HT1.trans ht2 (λj hj=>.inr (Nat.le_of_eq hj.symm))).go hA;have HP2:Hid (Jc W3 w.heap.size none (wj:Int) .nilIface (.rd hb [])):=hp2.tch hA (λh=>h) (λ_ _ h=>h);have hr3:W3.heap[w2.heap.size]? =some (.cells #[.int .u64 (n:Int),.string s1,.string s2,.string s3] 167):=by rw[HW3];exact Qf _ _
 obtain⟨-, -, -,c3⟩:=rows hr3;have C3:Hid _:=hr3;have HDN:Hid (∀W,Tch NoB W3 W->Calls prog 88 #[.pointer (some ⟨w.heap.size,0,none⟩)] W λe w'=>e=.returned .nilIface/\Tch NoB W w'):=λW hT=>JbH w.heap.size (wj:Int) hb W (HP2.tch hT (λh=>h) (λ_ _ h=>h));clear hp2 ht2 HHD HP1 HT1 hA hr3 HP2;go_upto_region 3 with fail;rw[<-HW3.o];have HC:Hid (∀W,Tch NoB W3 W->W.cell? ⟨w2.heap.size,3,none⟩=some (.string s3)):=λW hT=>Ja ((hT.block _ (Jb C3) (λh=>h)).trans C3);go_region_with (go_at_call 88;refine(HDN _ (Td _ _ 1)).mono ?_;rintro _ w4⟨rfl,ht4⟩;have HT4:Hid _:=(Td NoB W3 1).go ht4;have c4:=HC _ HT4.o;clear ht4)
 all_goals go_wp2;go_ret2;exact⟨rfl,HT2.go HT4⟩

theorem JcX{a b:BA}(h:a.toList=b.toList):a=b:=by
 rw[ByteArray.toList_eq,ByteArray.toList_eq]at h;exact Jno (by simpa using h)


attribute [local go_sem] Oper.semAt_some

open Go.RowKit Go.Shelf

attribute [local go_sem] Oper.semAt_some

def nV(l:List BA):List Value:=l.map .string
def NOwn(base:Nat)(w:World)(v:Value)(l:List BA):Prop:=w.ownsRow base 9 1 v l.length (nV l)
theorem NOwn.nil(base:Nat)(w:World):NOwn base w (.slice none 0 0) []:=⟨rfl,.inl ⟨rfl,rfl⟩⟩
theorem NOwn.own(h:NOwn base w v l):∀k,v.ownBlock=some k->base<=k/\∃cs m,w.heap[k]? =some (.cells cs 9 m):=by
 obtain⟨_,⟨rfl,h0⟩|⟨g,cap,cur,rfl,hb,hrow,_⟩⟩:=h
 ·intro k hk;cases hk
 ·intro k hk;cases hk;exact⟨hb,_,_,hrow⟩
theorem NOwn.tch{S:Nat->Prop}(h:NOwn base w v l)(k:Tch S w w')(hs:∀j,v.ownBlock=some j->¬S j):NOwn base w' v l:=by
 obtain⟨h1,⟨rfl,h0⟩|⟨g,cap,cur,rfl,hb,hrow,h2⟩⟩:=h
 ·exact⟨h1,.inl ⟨rfl,h0⟩⟩
 ·exact⟨h1,.inr ⟨g,cap,cur,rfl,hb,(k.block g (Jb hrow) (hs g rfl)).trans hrow,h2⟩⟩
theorem NOwn.at(h:NOwn base w v l)(hl:l ≠ []):∃g cap,v=.slice (some ⟨g,0,none⟩) l.length cap/\base<=g/\g<w.heap.size/\(∃cs m,w.heap[g]? =some (.cells cs 9 m))/\∀i (hi:i<l.length),w.cell? ⟨g,i,none⟩=some (.string l[i])/\w.frozen? ⟨g,i,none⟩=false:=by
 obtain⟨_,⟨rfl,h0⟩|⟨g,cap,cur,rfl,hb,hrow,_,_,hsz,htake⟩⟩:=h
 ·exact absurd (QO h0) hl
 ·refine⟨g,cap,rfl,hb,(Jb hrow),⟨_,_,hrow⟩,λi hi=>⟨?_,Qg _ _ _ _ _ hrow⟩⟩;rw[Ja hrow,<-Array.getElem?_toList];have e:(nV l)[i]? =some (.string l[i]):=by simp[nV,hi]
  rw[<-htake,List.getElem?_take_of_lt (by omega)]at e;exact e
theorem NOwn.shape(h:NOwn base w v l):∃a c,v=.slice a l.length c:=by
 obtain⟨_,⟨rfl,h0⟩|⟨g,cap,cur,rfl,hb,hrow,_⟩⟩:=h
 ·exact⟨none,0,by rw[h0]⟩
 ·exact⟨_,_,rfl⟩
theorem Jjo(w:World)(ty:TypeId)(a:Addr)(v:Value)(ha:(isAgg ty).run P w=.ok false w)(hc:w.cell? a=some v):(loadVar ty a).run P w=.ok v w:=by
 simp only[loadVar,Sem.run_bind,ha,Result.andThen];simp[hc]
theorem Jgh:(prog.info? 9).map (λi=>(i.zero,i.size,i.bytes))=some (some (.string ⟨#[]⟩),1,16):=by kernel_rfl
theorem Xz(h:NOwn base w v l)(k:Nat)(x:BA)(hx:w.cell? ⟨k,0,none⟩=some (.string x))(ty:TypeId)(hb:l.length<=10000000000)(hbase:base<=w.heap.size):
  ∃v' w',(Builtin.append_ #[58,58] ty #[v,.slice (some ⟨k,0,none⟩) 1 1]).run prog w=.ok v' w'/\NOwn base w' v' (l++[x])/\w.grownBy w' v.ownBlock:=by
 obtain⟨i,hi,hp⟩:=Option.map_eq_some_iff.1 Jgh;simp only[Qw]at hp;obtain⟨hz,hsz,hby⟩:=hp;obtain⟨v',w',hr,h2,h3,h4⟩:=run_append_own (P:=prog) w base 58 ty 9 i _ 1 16 underlying58 hi hz hsz hby rfl (by omega) v l.length (nV l) h ⟨k,0,none⟩ 1 1 (nV [x]) rfl (λj u hu=>by
  cases j with
  | zero=>simp only[nV,List.map_cons,List.map_nil,List.getElem?_cons_zero,Qh]at hu;rw[<-hu,Addr.add_lit];exact hx
  | succ j=>simp[nV]at hu) (λu hu=>by simp only[nV,List.map_cons,List.map_nil,Qt]at hu;rw[hu];rfl) (by simp only[maxLen];omega) (by omega) hbase
 exact⟨v',w',hr,by unfold NOwn;rw[Qe,show nV (l++[x])=nV l++nV [x] by simp[nV]];exact h2,h3⟩
theorem JdX{ops:Array Oper}{l n:Nat}{o:Oper}{rest:List Oper}{a:Act}{Q:Exit->Act->World->Prop}{xv v':Value}(hgd:o.guard=none)(s x:Operand)(T:TypeId)(ho:o.op=.call { callee:=.builtin .append,args:= #[s,x],argTypes:= #[T,T] })
 (hv:a.eval s=v) (hx:a.eval x=xv) (hr:(Builtin.append_ #[T,T] o.type #[v,xv]).run P w=.ok v' w') (hK:wpListIn (Fence.wide.inRound l) n P ops Q rest (a.put o.dst v') w'):wpListIn (Fence.wide.inRound l) n P ops Q (o::rest) a w:=by
 have hw:Region.wanted o (yielded ops a.tmps)=true:=by simp[Region.wanted,hgd]
 unfold wpListIn;rw[if_pos hw];refine JmJ (K:=λa w=>wpListIn (Fence.wide.inRound l) n P ops Q rest a w) (λc e=>by rw[ho]at e;cases e) (λ_ _ h=>h) ?_;unfold Oper.wp;simp[execOp,ho,resolve,invoke,builtin,hv,hx,hr,Result.andThen];exact hK
