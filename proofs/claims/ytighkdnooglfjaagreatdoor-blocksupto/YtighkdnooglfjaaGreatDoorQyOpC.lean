import Derived.OpenShut
import Derived.Deep.SlicePairs
import Derived.Test.YtighkdnooglfjaaGreatDoorQyPRd
open Go renaming Calls->aB,Value->aG,World->aA
open Go.Ending renaming returned->aC
open Go.IntKind renaming i64->I,u32->aF,u64->aD,u8->aE,u64->lY,signed->l5,wrap->l9,bits->ld,u32->lf
open Go.Obj renaming cells->T
open Go.Proofs.Tryz renaming prog->N
open Go.RowKit renaming Hid->J
open Go.Value renaming agg->aH,bool->aL,iface->aJ,int->O,nilIface->aK,pointer->X,slice->R,string->L,tuple->aI
open Option renaming none->Y,some->Z,some->lh
open Or renaming inl->aM,inr->aN
open Go.Builtin renaming copy_->lX
open Int renaming natCast_nonneg->lV
open List renaming replicate->lC,range->lD,length_range->lE,length_replicate->lF,length->lG,set_append_right->lH,getElem?_cons_zero->lI,getElem?_range->lK,getElem?_toArray->lM,nil_append->lN,getElem?_map->lO,replicate_zero->lQ,getElem?_cons_succ->lR,getElem?_replicate->lS,replicate_succ->lU,getElem_map->l6
open Nat renaming sub_self->lJ,mod_eq_of_lt->lP,zero_add->lT
open UInt8 renaming ofNat->lW,toNat_lt->lZ
open Go.World renaming size_alloc->l8
set_option maxRecDepth 100000
set_option maxHeartbeats 4000000
namespace Go.Proofs.YtighkdnooglfjaaGreatDoor
open Go.Proofs.Tryz
open Go.ChangeShapes Go.WideShapes Go.ChangeAt Go.RowKit Go.Deep

variable {a:BA}{x y:Int}{K:LX}{bs:List BV}{ts:List TxL}{LI LO l:List aG}{B G b base cb f fl g gp gt i k m n nb r tE tS wj:Nat}{c o:Nat->List VV}{ga gb:Nat->Nat}{S:Nat->Prop}{sl:Nat->Sl×Sl}{aY:TypeId}{lv v v' vi vo:aG}{w w' w3:aA}
theorem cOut:prog.cellsOf 80=2:=by kernel_rfl
theorem cU64:prog.cellsOf 78=1:=by kernel_rfl
theorem cU8:prog.cellsOf 5=1:=by kernel_rfl
theorem cInt:prog.cellsOf 3=1:=by kernel_rfl
section
variable {H:Type}{enc:TypeId×aG->H}{W:aA}
theorem JaO(d:DataW H):1<=Rows.uptoBulk d:=by
 cases d with
 | lit l=>cases l<;>simp[Rows.uptoBulk]
 | nil=>simp[Rows.uptoBulk]
 | ptr d=>simp[Rows.uptoBulk]
 | slice elems spare=>simp[Rows.uptoBulk]
 | agg parts=>simp[Rows.uptoBulk]
 | iface t d=>simp[Rows.uptoBulk]
 | map entries=>simp[Rows.uptoBulk]
 | held h=>simp[Rows.uptoBulk]
theorem JdH{d:DataW H}{l:List (DataW H)}(h:d∈l):Rows.uptoBulk d<=Rows.uptoBulkAll l:=by
 induction l with
 | nil=>cases h
 | cons x r ih=>
  simp only[Rows.uptoBulkAll]
  cases List.mem_cons.1 h with
  | inl e=>subst e;omega
  | inr e=>have:=ih e;omega
theorem Jis{a:Addr}(h:W.cell? a=Z v):a=⟨a.block,a.off,Y⟩/\a.block<W.heap.size:=by
 refine⟨?_,World.block_lt_of_cell? _ _ h⟩;obtain⟨b,o,s⟩:=a
 cases s with
 | none=>rfl
 | some k=>
  unfold World.cell? at h
  split at h
  ·simp at h
  ·cases h
set_option maxRecDepth 100000 in
theorem ZA{t e:TypeId}(ht:prog.underlying t=Z (.slice e))(h:Value.okWide N W .any b t v):v=R Y 0 0\/∃g o len cap,v=R (Z ⟨g,o,Y⟩) len cap/\g<W.heap.size:=by
 unfold Value.okWide at h;rw[ht]at h;simp only at h;unfold Cell.okWide at h;rw[ht]at h
 cases v<;>simp only at h
 all_goals first
  | (unfold Cell.ok at h;rw[ht]at h;simp only at h;done)
  | skip
 rename_i ad len cap;unfold Cell.ok at h;rw[ht]at h
 cases ad with
 | none=>
  left
  cases len with
  | zero=>
   cases cap with
   | zero=>rfl
   | succ n=>simp at h
  | succ n=>simp at h
 | some a=>
  right;obtain⟨_,_,_,hs,row,cells,xI,_⟩:=h;obtain⟨g,o,s⟩:=a;simp only at hs;subst hs;refine⟨g,o,len,cap,rfl,?_⟩;unfold World.shape? at xI
  split at xI
  ·rename_i hh;exact(Array.getElem?_eq_some_iff.1 hh).1
  ·cases xI
end
open Go.RowKit

theorem M.box(w:aA)(o:Obj):M D w (w.alloc o).drew:=(Ta _ w o).trans (Td _ (w.alloc o) 1) (λ_ h=>aM h)
theorem M.box2(w:aA)(o o':Obj):M D w ((w.alloc o).alloc o').drew:=((Ta _ w o).trans (Ta _ (w.alloc o) o') (λ_ h=>aM h)).trans (Td _ ((w.alloc o).alloc o') 1) (λ_ h=>aM h)
theorem Bs.tchOwn{xs:List aG}(h:Bs base w v xs)(hg:w.grownBy w' v.ownBlock){W:aA}(hW:W.heap.size<=base)(k:M D W w):M D W w':=
 k.trans (Tg hg) (λj hj=>by
  have:=(h.own j hj.symm).1;exact aN (by omega))
theorem YN{b:BA}(h:a.data.toList=b.data.toList):a=b:=by
 cases a;cases b;simp only at h;rw[Array.toList_inj]at h;rw[h]
theorem Jb1(b:Nat)(w:aA)(k:Nat)(hb:b<256)(hc:w.cell? ⟨k,0,Y⟩=Z (O aE (b:Int))):(convert 52 9 (R (Z ⟨k,0,Y⟩) 1 1)).run N w=.ok (L ⟨#[lW b]⟩) w:=by
 have:=run_convert_bytes_back (P:=N) w 52 9 5 ⟨k,0,Y⟩ 1 [lW b] underlying52 underlying5 underlying9 (λj hj=>by
  obtain rfl:j=0:=by simpa using hj
  rw[Addr.add_lit,lT,hc];simp[lP hb])
 exact this
theorem JiK(b:Nat)(w:aA)(hb:b<256):(convert 52 9 (R (Z ⟨w.heap.size,0,Y⟩) 1 1)).run N (w.alloc (T #[O aE (b:Int)] 5))=.ok (L ⟨#[lW b]⟩) (w.alloc (T #[O aE (b:Int)] 5)):=by
 have:=run_convert_bytes_back (P:=N) (w.alloc (T #[O aE (b:Int)] 5)) 52 9 5 ⟨w.heap.size,0,Y⟩ 1 [lW b] underlying52 underlying5 underlying9 (λj hj=>by
  obtain rfl:j=0:=by simpa using hj
  rw[Addr.add_lit,lT,Ja (Qf _ _)];simp[lP hb])
 exact this

theorem Jb2(n:Int)(w:aA):aB N 66 #[O I n] w λe w'=>e=aC (O I n)/\w'=w:=by
 go_enter func66,ntmps66;go_wp2;go_ret;exact⟨rfl,rfl⟩
theorem Jmx(c:Int)(n:Nat)(h1: -9223372036854775808<=c)(h2:c<9223372036854775808)(hn:0<n)(jx:n<9223372036854775808):
  ∃r:Nat,r<n/\∀w,aB N 69 #[O I c,O I (n:Int)] w λe w'=>e=aC (O I (r:Int))/\w'=w:=by
 obtain⟨d,hd,zr,xe,hdc⟩:∃d:Int,(0<=d)/\d<9223372036854775808/\(c<0->wrap64 (-(wrap64 (c+1)))=d)/\(¬c<0->c=d):=by
  by_cases h:c<0
  ·refine⟨-(c+1),by omega,by omega,λ_=>?_,λh'=>absurd h h'⟩;have e1:wrap64 (c+1)=c+1:=(by simp only[wrap64];omega);rw[e1];simp only[wrap64];omega
  ·exact⟨c,by omega,by omega,λh'=>absurd h' h,λ_=>rfl⟩
 obtain⟨m,rfl⟩:=Int.eq_ofNat_of_zero_le hd;have Hl:¬(n:Int)=0:=by omega
 refine⟨m % n,Nat.mod_lt _ hn,λw=>?_⟩
 by_cases hc:c<0
 ·have fi:J _:=xe hc;clear h1 h2 hd zr xe hdc;go_enter func69,ntmps69;go_wp2;go_ret;exact⟨by show Ending.returned (Value.int I ((wrap64 (-wrap64 (c+1))).tmod n))=_;rw[fi.o];rfl,rfl⟩
 ·obtain rfl:=hdc hc;go_enter func69,ntmps69;go_wp2;go_ret;exact⟨rfl,rfl⟩
theorem Jmw(s:BA)(hs:s.size<=1000000)(c more:Int)(h1: -9223372036854775808<=c)(h2:c<9223372036854775808):
  ∃q:BA,q.size<=s.size/\∀w,aB N 182 #[L s,O I c,O I more] w λe w'=>e=aC (L q)/\M D w w':=by
 by_cases h0:s.size=0
 ·refine⟨s,Ql _,λw=>?_⟩;obtain rfl:s=⟨#[]⟩:=by
   obtain⟨a⟩:=s;have:a= #[]:=Array.eq_empty_of_size_eq_zero h0;rw[this]
  go_enter func182,ntmps182;go_wp2;go_ret;exact⟨rfl,Te _ _⟩
 ·have fj:s.toList.isEmpty=false:=by
   rw[List.isEmpty_eq_false_iff];intro e;apply h0;have:=congrArg lG e;rw[ByteArray.toList_eq,QA]at this;exact this
  by_cases hm:more=0
  ·subst hm;refine⟨s,Ql _,λw=>?_⟩;go_enter func182,ntmps182;go_wp2;go_ret;exact⟨rfl,Te _ _⟩
  ·obtain⟨r,hr,(HPK:J _)⟩:=Jmx c s.size h1 h2 (by omega) (by omega);obtain⟨x,hx⟩:∃x:Nat,s[r].toNat=x:=⟨_,rfl⟩
   obtain⟨b,hb,jG⟩:∃b:Nat,b<256/\((x:Int)+more) % 256=(b:Int):=⟨(((x:Int)+more) % 256).toNat,by omega,by omega⟩
   have fk:¬9223372036854775807<r+1:=(by omega);have e1:(⟨#[lW b]⟩:BA).size=1:=rfl;have hq:(s.extract 0 r++(⟨#[lW b]⟩:BA)++s.extract (r+1) s.size).size<=s.size:=(by rw[ByteArray.size_append,ByteArray.size_append,ByteArray.size_extract,ByteArray.size_extract,e1];omega);refine⟨_,hq,λw=>?_⟩;have gy:=Jb1 b (w.alloc (T #[O aE (b:Int)] 5)).drew w.heap.size hb (Ja (Qf _ _));have kK:(r:Int)<(s.size:Int):=(by omega);have bW:r<=s.size:=(by omega);have hrm:r+1<=s.size:=(by omega);have bX:(r:Int)+1<=(s.size:Int):=(by omega);clear hq;go_enter func182,ntmps182;go_wp2_with fail;refine(HPK _).mono ?_;rintro _ aX⟨rfl,hX⟩;rw[hX];go_upto_region 4 with fail;go_region
   all_goals go_wp2;go_ret;exact⟨rfl,M.box w _⟩

theorem Jd6{a b:aG}(h:w.heap[g]? =Z (T #[a,b] aY))(x0 x1:aG):
  ((w.setCell ⟨g,0,Y⟩ x0).setCell ⟨g,1,Y⟩ x1).heap[g]? =Z (T #[x0,x1] aY)/\M (λx=>x=g) w ((w.setCell ⟨g,0,Y⟩ x0).setCell ⟨g,1,Y⟩ x1):=by
 have h0:=Qi w g _ #[x0,b] aY _ h;have e0:w.setCell ⟨g,0,Y⟩ x0=w.setRow g #[x0,b]:=Qj w g 0 _ _ _ _ h;rw[<-e0]at h0;have t0:M (λx=>x=g) w (w.setCell ⟨g,0,Y⟩ x0):=by rw[e0];exact Ts _ _ _
 generalize w.setCell ⟨g,0,Y⟩ x0=w0 at *;have h1:=Qi w0 g _ #[x0,x1] aY _ h0;have e1:w0.setCell ⟨g,1,Y⟩ x1=w0.setRow g #[x0,x1]:=Qj w0 g 1 _ _ _ _ h0;rw[<-e1]at h1;exact⟨h1,by rw[e1];exact t0.trans (Ts _ _ _) (λ_ h=>aM h)⟩
def Emp(v:aG):Prop:=v=R Y 0 0\/∃a c,v=R (Z a) 0 c
theorem Emp.shape(h:Emp v):∃a c,v=R a 0 c:=by
 rcases h with rfl|⟨a,c,rfl⟩
 ·exact⟨_,_,rfl⟩
 ·exact⟨_,_,rfl⟩
def YD(B:Nat)(w:aA)(v:aG)(l:List (Nat×Nat)):Prop:=
 (Emp v/\l=[])\/∃gi oi c,v=R (Z ⟨gi,oi,Y⟩) l.length c/\gi<B/\gi<w.heap.size/\∀i (h:i<l.length),w.cell? ⟨gi,oi+i*2,Y⟩=Z (O aD ((l[i].1:Nat):Int))/\w.cell? ⟨gi,oi+i*2+1,Y⟩=Z (O aE ((l[i].2:Nat):Int))
theorem Jr.raw{l:List (Nat×Nat)}(h:Jr B w v l):YD B w v l:=h.imp_left λh=>⟨aM h.1,h.2⟩
theorem YD.tch{l:List (Nat×Nat)}(h:YD B w v l)(k:M S w w')(hs:∀j,S j->B<=j):YD B w' v l:=by
 rcases h with h|h
 ·exact aM h
 ·exact(Jr.tch (aN h) k hs).raw
theorem YD.shape{l:List (Nat×Nat)}(h:YD B w v l):∃a c,v=R a l.length c:=by
 rcases h with⟨h,rfl⟩|⟨gi,oi,c,rfl,_⟩
 ·exact h.shape
 ·exact⟨_,_,rfl⟩
def YH(B:Nat)(w:aA)(v:aG)(l:List (BA×Int)):Prop:=
 (Emp v/\l=[])\/∃gi oi c,v=R (Z ⟨gi,oi,Y⟩) l.length c/\gi<B/\gi<w.heap.size/\∀i (h:i<l.length),w.cell? ⟨gi,oi+i*2,Y⟩=Z (L l[i].1)/\w.cell? ⟨gi,oi+i*2+1,Y⟩=Z (O I l[i].2)
theorem JG.raw{l:List (BA×Int)}(h:JG B w v l):YH B w v l:=h.imp_left λh=>⟨aM h.1,h.2⟩
theorem YH.tch{l:List (BA×Int)}(h:YH B w v l)(k:M S w w')(hs:∀j,S j->B<=j):YH B w' v l:=by
 rcases h with h|h
 ·exact aM h
 ·exact(JG.tch (aN h) k hs).raw
theorem YH.shape{l:List (BA×Int)}(h:YH B w v l):∃a c,v=R a l.length c:=by
 rcases h with⟨h,rfl⟩|⟨gi,oi,c,rfl,_⟩
 ·exact h.shape
 ·exact⟨_,_,rfl⟩
def TxsR(B:Nat)(w:aA)(v:aG)(l:List (Sl×Sl)):Prop:=
 (Emp v/\l=[])\/∃gi oi c,v=R (Z ⟨gi,oi,Y⟩) l.length c/\gi<B/\gi<w.heap.size/\∀i (h:i<l.length),w.cell? ⟨gi,oi+i*2,Y⟩=Z (R l[i].1.1 l[i].1.2.1 l[i].1.2.2)/\w.cell? ⟨gi,oi+i*2+1,Y⟩=Z (R l[i].2.1 l[i].2.2.1 l[i].2.2.2)
theorem Xa.raw{l:List (Sl×Sl)}(h:Xa B w v l):TxsR B w v l:=h.imp_left λh=>⟨aM h.1,h.2⟩
theorem TxsR.tch{l:List (Sl×Sl)}(h:TxsR B w v l)(k:M S w w')(hs:∀j,S j->B<=j):TxsR B w' v l:=by
 rcases h with h|h
 ·exact aM h
 ·exact(Xa.tch (aN h) k hs).raw
theorem TxsR.shape{l:List (Sl×Sl)}(h:TxsR B w v l):∃a c,v=R a l.length c:=by
 rcases h with⟨h,rfl⟩|⟨gi,oi,c,rfl,_⟩
 ·exact h.shape
 ·exact⟨_,_,rfl⟩

theorem JcS{l:List VV}(h:w.heap[gp]? =Z (T (Hv l) aY))(hi:i<l.length)(a o:aG):
  ((w.setCell ⟨gp,i*2,Y⟩ a).setCell ⟨gp,i*2+1,Y⟩ o).heap[gp]? =Z (T (Hv (l.set i (a,o))) aY)/\M (λk=>k=gp) w ((w.setCell ⟨gp,i*2,Y⟩ a).setCell ⟨gp,i*2+1,Y⟩ o):=by
 rw[Qj w gp (i*2) _ _ (0,0) _ h,Qj _ gp (i*2+1) _ _ (0,0) _ (Qi _ _ _ _ _ _ h),QI,JgE l i a o hi];exact⟨Qi _ _ _ _ _ _ h,Ts _ _ _⟩
theorem Xp{l:List VV}(h:w.heap[gp]? =Z (T (Hv l) aY))(x:VV)(hi:l[i]? =Z x):w.cell? ⟨gp,i*2,Y⟩=Z x.1/\w.cell? ⟨gp,i*2+1,Y⟩=Z x.2:=by
 obtain⟨hl,rfl⟩:=Qo.1 hi;obtain⟨e0,e1⟩:=Yu l i hl;exact⟨(Ja h).trans e0,(Ja h).trans e1⟩
theorem Zf{l:List VV}(h:w.heap[gp]? =Z (T (Hv l) aY))(j:Nat):w.frozen? ⟨gp,j,Y⟩=false:=Qg _ _ _ _ _ h
theorem mkV(hK:IsL K)(n:Nat)(h:n<=2000000)(w:aA):(Instr.makeSlice K.k.tS (O I (n:Int)) (O I (n:Int))).run N w=.ok (R (Z ⟨w.heap.size,0,Y⟩) n n) (w.alloc (T (Hv (lC n K.z)) K.k.tE)):=by
 obtain⟨h1,hu,hc,hb,_⟩:=JjO hK;obtain⟨i,hi,hp⟩:=Option.map_eq_some_iff.1 h1;simp only[Qw]at hp;obtain⟨hz,Hp,gy⟩:=hp;have:=run_makeSlice (P:=N) (w:=w) K.k.tS K.k.tE i _ hu hi hz I I (n:Int) (n:Int) (by omega) (by omega) (by rw[Hp];omega) (by rw[gy];have:=Nat.mul_le_mul hb h;omega) (by omega);rw[this,Int.toNat_natCast,Hp,hc,JjV]
theorem Jbx{P:Program}(w:aA)(dT sT ty elem:TypeId)(sz g dLen dCap:Nat)(a:Addr)(sLen sCap:Nat)(cur:Array aG)(t:TypeId)(cs:List aG)
 (hu:P.underlying dT=Z (.slice elem)) (hs:(P.info? elem).map (·.size)=Z sz)
 (hg:w.heap[g]? =Z (T cur t (0,0))) (hn:cs.length=Nat.min sLen dLen*sz)
 (dB:∀j v,cs[j]? =Z v->w.cell? (a.add j)=Z v) (sI:cs.length<=cur.size) (h1:∀v∈cs,v.oneCell'=true):
  (lX #[dT,sT] ty #[R (Z ⟨g,0,Y⟩) dLen dCap,R (Z a) sLen sCap]).run P w=.ok (goInt (Nat.min sLen dLen)) (w.setRow g (cs++cur.toList.drop cs.length).toArray):=by
 have hl:=run_loadCells_list (P:=P) w a cs dB;have kL:=run_storeCells_at P g 0 t cs 0 cur w hg (by omega) h1;simp only[Nat.add_zero]at kL
 cases hq:P.info? elem with
 | none=>simp[hq]at hs
 | some i=>
  have hi:i.size=sz:=by simpa [hq]using hs
  simp[lX,run_underlying hu,Builtin.lenOf,Builtin.firstCells,sizeOf,typeInfo,hq,hi,<-hn,hl,kL]
theorem JeN(l r:List VV):Hv (l++r)=Hv l++Hv r:=by simp[Hv]
theorem JgD(n k:Nat)(z:VV):(Hv (lC (n+k) z)).toList.drop (n*2)=(Hv (lC k z)).toList:=by
 rw[<-List.replicate_append_replicate,JeN,Array.toList_append,List.drop_left'];rw[QA,Ys,lF]
def VR(B:Nat)(w:aA)(v:aG)(l:List VV):Prop:=
 (Emp v/\l=[])\/∃gi oi c,v=R (Z ⟨gi,oi,Y⟩) l.length c/\gi<B/\gi<w.heap.size/\∀i (h:i<l.length),w.cell? ⟨gi,oi+i*2,Y⟩=Z l[i].1/\w.cell? ⟨gi,oi+i*2+1,Y⟩=Z l[i].2
theorem VAt.raw{l:List VV}(h:VAt B w v l):VR B w v l:=h.imp_left λh=>⟨aM h.1,h.2⟩
theorem VR.tch{l:List VV}(h:VR B w v l)(k:M S w w')(hs:∀j,S j->B<=j):VR B w' v l:=by
 rcases h with h|h
 ·exact aM h
 ·exact(VAt.tch (aN h) k hs).raw
theorem VR.shape{l:List VV}(h:VR B w v l):∃a c,v=R a l.length c:=by
 rcases h with⟨h,rfl⟩|⟨gi,oi,c,rfl,_⟩
 ·exact h.shape
 ·exact⟨_,_,rfl⟩
theorem JjK(hK:IsL K){l:List VV}(qB:∀x∈l,K.Sh x)(h:VR B w v l)(hZ:w.heap[gp]? =Z (T (Hv (lC (l.length+k) K.z)) K.k.tE)):
  ∃r:Int,(∀ty,(lX #[K.k.tS,K.k.tS] ty #[R (Z ⟨gp,0,Y⟩) (l.length+k) (l.length+k),v]).run N w=.ok (O I r) (w.setRow gp (Hv (l++lC k K.z)))):=by
 obtain⟨_,hu,_,_,yL⟩:=JjO hK;have h1:∀x∈l,x.1.oneCell'=true/\x.2.oneCell'=true:=λx hx=>Jnm hK (qB x hx)
 rcases h with⟨rfl|⟨a,c,rfl⟩,rfl⟩|⟨gi,oi,c,rfl,k1,k2,k3⟩
 ·refine⟨0,λty=>?_⟩;have:=run_copy_nil (P:=N) w K.k.tS K.k.tS ty K.k.tE ⟨gp,0,Y⟩ ((lG ([]:List VV))+k) ((lG ([]:List VV))+k) hu (by rw[yL];rfl);rw[this,lN];simp only[Qv,lT]at hZ;rw[setRow_self w gp _ _ _ hZ];rfl
 ·refine⟨0,λty=>?_⟩;have:=Jbx (P:=N) w K.k.tS K.k.tS ty K.k.tE 2 gp ((lG ([]:List VV))+k) ((lG ([]:List VV))+k) a 0 c _ _ [] hu yL hZ (by simp) (λj v hv=>by simp at hv) (by simp) (λv hv=>by simp at hv);rw[this];simp only[Qv,List.drop_zero,lN,Array.toArray_toList,lT,Nat.zero_min];rfl
 ·refine⟨(Nat.min l.length (l.length+k):Nat),λty=>?_⟩;have dC:Nat.min l.length (l.length+k)=l.length:=Nat.min_eq_left (by omega);have:=Jbx (P:=N) w K.k.tS K.k.tS ty K.k.tE 2 gp (l.length+k) (l.length+k) ⟨gi,oi,Y⟩ l.length c _ _ (Hv l).toList hu yL hZ
   (by rw[QA,Ys,dC])
   (JfR l _ w (λi hi=>by rw[Addr.add_lit,Addr.add_lit,<-Nat.add_assoc];exact k3 i hi))
   (by rw[QA,Ys,Ys,lF];omega) (Jkf l h1)
  have e1:(Hv l).toList.length=l.length*2:=by rw[QA,Ys]
  rw[this,e1,JgD,<-Array.toList_append,<-JeN,Array.toArray_toList];rfl
structure OneC(tS tE:TypeId):Prop where
 und:prog.underlying tS=Z (.slice tE)
 info:∃z b,(prog.info? tE).map (λi=>(i.zero,i.size,i.bytes))=Z (Z z,1,b)/\z.cells.size=1/\b<=24
def VOwn(tE base:Nat)(w:aA)(v:aG)(l:List aG):Prop:=w.ownsRow base tE 1 v l.length l
theorem VOwn.nil(tE base:Nat)(w:aA):VOwn tE base w (R Y 0 0) []:=⟨rfl,aM ⟨rfl,rfl⟩⟩
theorem VOwn.own(h:VOwn tE base w v l):∀k,v.ownBlock=Z k->base<=k/\k<w.heap.size/\∃cs m,w.heap[k]? =Z (T cs tE m):=by
 obtain⟨_,⟨rfl,h0⟩|⟨g,cap,cur,rfl,hb,hZ,_⟩⟩:=h
 ·intro k hk;cases hk
 ·intro k hk;cases hk;exact⟨hb,(Jb hZ),_,_,hZ⟩
theorem VOwn.tch(h:VOwn tE base w v l)(k:M S w w')(hs:∀j,v.ownBlock=Z j->¬S j):VOwn tE base w' v l:=by
 obtain⟨h1,⟨rfl,h0⟩|⟨g,cap,cur,rfl,hb,hZ,h2⟩⟩:=h
 ·exact⟨h1,aM ⟨rfl,h0⟩⟩
 ·exact⟨h1,aN ⟨g,cap,cur,rfl,hb,(k.block g (Jb hZ) (hs g rfl)).trans hZ,h2⟩⟩
theorem VOwn.shape(h:VOwn tE base w v l):∃a c,v=R a l.length c:=by
 obtain⟨_,⟨rfl,h0⟩|⟨g,cap,cur,rfl,_⟩⟩:=h
 ·exact⟨Y,0,by rw[h0]⟩
 ·exact⟨_,_,rfl⟩
theorem VOwn.shape3(h:VOwn tE base w v l):∃a n c,v=R a n c:=by
 obtain⟨a,c,e⟩:=h.shape;exact⟨a,_,c,e⟩
theorem VOwn.apart{aY:Nat}(h:VOwn tE base w v l){j:Nat}{cs:Array aG}{m:Nat×Nat}(hr:w.heap[j]? =Z (T cs aY m))(hT:aY ≠ tE):¬v.ownBlock=Z j:=λe=>by
 obtain⟨_,_,cs',m',kS⟩:=h.own j e;rw[hr]at kS;simp at kS;exact hT kS.2.1
theorem VOwn.at(h:VOwn tE base w v l)(i:Nat)(x:aG)(hx:l[i]? =Z x):∃g cap,v=R (Z ⟨g,0,Y⟩) l.length cap/\g<w.heap.size/\w.cell? ⟨g,i,Y⟩=Z x:=by
 have hi:=(Qo.1 hx).1;obtain⟨_,⟨rfl,h0⟩|⟨g,cap,cur,rfl,_,hZ,_,_,Hp,kU⟩⟩:=h
 ·omega
 ·refine⟨g,cap,rfl,(Jb hZ),?_⟩;rw[<-kU]at hx;rw[List.getElem?_take_of_lt (by omega)]at hx;rw[Ja hZ,<-Array.getElem?_toList];exact hx
theorem Jgw(hO:OneC tS tE)(h:VOwn tE base w v l)(k:Nat)(x:aG)(hx:w.cell? ⟨k,0,Y⟩=Z x)(h1:x.oneCell'=true)(ty:TypeId)(hb:l.length<=1000000000)(He:base<=w.heap.size):
  ∃v' w',(Builtin.append_ #[tS,tS] ty #[v,R (Z ⟨k,0,Y⟩) 1 1]).run N w=.ok v' w'/\VOwn tE base w' v' (l++[x])/\w.grownBy w' v.ownBlock/\(v'.ownBlock=v.ownBlock\/v'.ownBlock=Z w.heap.size):=by
 obtain⟨z,b,hinf,xH,hb24⟩:=hO.info;obtain⟨i,hi,hp⟩:=Option.map_eq_some_iff.1 hinf;simp only[Qw]at hp;obtain⟨hz,Hp,gy⟩:=hp;obtain⟨v',w',hr,h2,h3,_,h4⟩:=run_append_own_at (P:=N) w base tS ty tE i _ 1 b hO.und hi hz Hp gy xH (by omega) v l.length l h ⟨k,0,Y⟩ 1 1 [x] rfl (λj u hu=>by
  rw[Addr.add_lit,lT]
  match j with
  | 0=>simp only[lI,Qh]at hu;rw[<-hu];exact hx
  | j+1=>simp at hu) (λu hu=>by simp only[Qt]at hu;rw[hu];exact h1) (by simp only[maxLen];omega) (by have:=Nat.mul_le_mul_left (l.length+1) hb24;omega) He
 exact⟨v',w',hr,by unfold VOwn;rw[Qe];exact h2,h3,h4⟩
theorem Yv(hO:OneC tS tE){ops:Array Oper}{rest:List Oper}{o:Oper}{a:Act}{Q:Exit->Act->aA->Prop}(jz:o.guard=Y)(s x:Operand)
 (ho:o.op=.call { callee:=.builtin .append,args:= #[s,x],argTypes:= #[tS,tS] })
 (hv:a.eval s=v) (h:VOwn tE base w v l) (k:Nat) (y:aG) (hx:a.eval x=R (Z ⟨k,0,Y⟩) 1 1) (hc:w.cell? ⟨k,0,Y⟩=Z y) (h1:y.oneCell'=true) (hb:l.length<=1000000000) (He:base<=w.heap.size)
 (hK:∀v' w',VOwn tE base w' v' (l++[y])->w.grownBy w' v.ownBlock->(v'.ownBlock=v.ownBlock\/v'.ownBlock=Z w.heap.size)->wpList N ops Q rest (a.put o.dst v') w'):wpList N ops Q (o::rest) a w:=by
 refine wpList_plain jz λK vA=>?_;obtain⟨v',w',kH,r,r2,r3⟩:=Jgw hO h k y hc h1 o.type hb He;unfold Oper.wp;simp[execOp,ho,resolve,invoke,builtin,hv,hx,kH,Result.andThen];exact vA _ _ (hK v' w' r r2 r3)
theorem Jp4:OneC 67 32:=⟨by kernel_rfl,X Y,8,by kernel_rfl,rfl,by decide⟩
theorem Jp6:OneC 68 129:=⟨by kernel_rfl,X Y,8,by kernel_rfl,rfl,by decide⟩
theorem Jp3:OneC 308 96:=⟨by kernel_rfl,R Y 0 0,24,by kernel_rfl,rfl,by decide⟩
theorem Jp5:OneC 309 22:=⟨by kernel_rfl,R Y 0 0,24,by kernel_rfl,rfl,by decide⟩

theorem Jcx(k:IntKind)(j:Nat)(hj:j<=k.bits)(hk:∀n:Int,0<=n->n<2 ^ j->k.wrap n=n)(a b:Nat)(ha:a<2 ^ j)(hb:b<2 ^ j):bits .xor k a b=((a ^^^ b:Nat):Int):=by
 have hp:2 ^ j<=2 ^ k.bits:=Nat.pow_le_pow_right (by decide) hj;have ha':a % 2 ^ k.bits=a:=lP (Nat.lt_of_lt_of_le ha hp);have hb':b % 2 ^ k.bits=b:=lP (Nat.lt_of_lt_of_le hb hp);simp only[bits,BitVec.ofInt_natCast,BitVec.toNat_xor,BitVec.toNat_ofNat,ha',hb'];refine hk _ (lV _) ?_;have:=Nat.xor_lt_two_pow ha hb
 exact_mod_cast this
def U32(x:Int):Prop:=0<=x/\x<4294967296
theorem w63(n:Int)(h₀:0<=n)(h₁:n<2 ^ 63):I.wrap n=n:=by rw[IntKind.wrap_i64];omega
theorem w32(n:Int)(h₀:0<=n)(h₁:n<2 ^ 32):lf.wrap n=n:=by rw[IntKind.wrap_u32];omega
theorem U32.nat(h:U32 x):∃a:Nat,x=(a:Int)/\a<2 ^ 32:=⟨x.toNat,by have:=h.1;omega,by have:=h.1;have:=h.2;omega⟩
theorem lt63{a:Nat}(h:a<2 ^ 32):a<2 ^ 63:=Nat.lt_trans h (by decide)
theorem JbU(hx:U32 x)(hy:U32 y):bits .and I x y=bits .and aF x y:=by
 obtain⟨a,rfl,ha⟩:=hx.nat;obtain⟨b,rfl,hb⟩:=hy.nat;rw[(bits_nat I 63 (by decide) w63 a b (lt63 ha) (lt63 hb)).1,(bits_nat aF 32 (by decide) w32 a b ha hb).1]
theorem YU(hx:U32 x)(hy:U32 y):bits .xor I x y=bits .xor aF x y:=by
 obtain⟨a,rfl,ha⟩:=hx.nat;obtain⟨b,rfl,hb⟩:=hy.nat;rw[Jcx I 63 (by decide) w63 a b (lt63 ha) (lt63 hb),Jcx aF 32 (by decide) w32 a b ha hb]
theorem JnK(n:Int):U32 (lf.wrap n):=by rw[IntKind.wrap_u32];unfold U32;omega
theorem Xi(op:BinOp)(x y:Int):U32 (bits op aF x y):=by
 unfold bits
 split<;>exact JnK _
theorem Jdx(x:Int):U32 (x % 4294967296):=by unfold U32;omega
theorem ZZ(n:Nat)(x:Int):U32 (rr n x):=Xi _ _ _
theorem Jke(h:U32 x)(n:Nat):U32 (x/2 ^ n):=by
 obtain⟨a,rfl,ha⟩:=h.nat;have e:(a:Int)/2 ^ n=((a/2 ^ n:Nat):Int):=by simp
 rw[e];have:=Nat.div_le_self a (2 ^ n);exact⟨lV _,by omega⟩
theorem Jlv(h:U32 x)(n:Nat)(h1:1<=n)(h2:n<=31):bits .or I (x/2 ^ n) (x*2 ^ (32-n)) % 4294967296=rr n x/\0<=bits .or I (x/2 ^ n) (x*2 ^ (32-n))/\0<=x*2 ^ (32-n)/\x*2 ^ (32-n)<9223372036854775808:=by
 obtain⟨a,rfl,ha⟩:=h.nat;have e1:(a:Int)/2 ^ n=((a/2 ^ n:Nat):Int):=by simp
 have e2:(a:Int)*2 ^ (32-n)=((a*2 ^ (32-n):Nat):Int):=by simp
 have hq:a/2 ^ n<2 ^ 32:=Nat.lt_of_le_of_lt (Nat.div_le_self _ _) ha;have hp:2 ^ (32-n)<=2 ^ 31:=Nat.pow_le_pow_right (by decide) (by omega);have hm:a*2 ^ (32-n)<2 ^ 63:=by
  have h3:a*2 ^ (32-n)<=a*2 ^ 31:=Nat.mul_le_mul_left _ hp;have h4:a*2 ^ 31<2 ^ 32*2 ^ 31:=(Nat.mul_lt_mul_right (by decide)).2 ha;have h5:(2:Nat) ^ 32*2 ^ 31=2 ^ 63:=by decide
  omega
 unfold rr;rw[e1,e2,(bits_nat I 63 (by decide) w63 _ _ (lt63 hq) hm).2];have e3:((a*2 ^ (32-n):Nat):Int) % 4294967296=((a*2 ^ (32-n) % 2 ^ 32:Nat):Int):=by simp
 rw[e3,(bits_nat aF 32 (by decide) w32 _ _ (Nat.mod_lt _ (by decide)) hq).2];refine⟨?_,lV _,lV _,by omega⟩;have e4:(((a/2 ^ n ||| a*2 ^ (32-n):Nat)):Int) % 4294967296=(((a/2 ^ n ||| a*2 ^ (32-n)) % 2 ^ 32:Nat):Int):=by simp
 rw[e4,Nat.or_mod_two_pow,lP hq,Nat.or_comm]
theorem JoM(h:U32 x):bits .xor aF lf.max x=4294967295-x:=by
 obtain⟨a,rfl,ha⟩:=h.nat;have e:lf.max=((4294967295:Nat):Int):=by decide
 rw[e,Jcx aF 32 (by decide) w32 _ _ (by decide) ha];have e2:4294967295 ^^^ a=4294967295-a:=by have:=BitVec.toNat_not (x:=BitVec.ofNat 32 a);rw[<-BitVec.allOnes_xor,BitVec.toNat_xor,BitVec.toNat_allOnes,BitVec.toNat_ofNat,lP ha]at this;simpa using this
 rw[e2];omega
theorem JnU(b0 b1 b2 b3:UInt8):word b0 b1 b2 b3=(b0.toNat:Int)*16777216+(b1.toNat:Int)*65536+(b2.toNat:Int)*256+(b3.toNat:Int):=by
 have h0:=lZ b0;have h1:=lZ b1;have h2:=lZ b2;have h3:=lZ b3;unfold word;generalize b0.toNat=a0 at *;generalize b1.toNat=a1 at *;generalize b2.toNat=a2 at *;generalize b3.toNat=a3 at *;have m0:(a0:Int) % 4294967296*16777216 % 4294967296=(a0:Int)*16777216:=by omega
 have m1:(a1:Int) % 4294967296*65536 % 4294967296=(a1:Int)*65536:=by omega
 have m2:(a2:Int) % 4294967296*256 % 4294967296=(a2:Int)*256:=by omega
 have m3:(a3:Int) % 4294967296=(a3:Int):=by omega
 rw[m0,m1,m2,m3];rw[bits_join aF 32 (by decide) w32 24 ((a0:Int)*16777216) ((a1:Int)*65536) (by omega) (by omega) (by omega) (by omega) (by omega) (by omega)];rw[bits_join aF 32 (by decide) w32 16 ((a0:Int)*16777216+(a1:Int)*65536) ((a2:Int)*256) (by omega) (by omega) (by omega) (by omega) (by omega) (by omega)];rw[bits_join aF 32 (by decide) w32 8 ((a0:Int)*16777216+(a1:Int)*65536+(a2:Int)*256) (a3:Int) (by omega) (by omega) (by omega) (by omega) (by omega) (by omega)]
theorem Jir(b:List UInt8):∀k,∀x∈Wl b k,U32 x
 | 0,x,h=>by cases h
 | k+1,x,h=>by
  unfold Wl stW at h
  rcases List.mem_append.1 h with h|h
  ·exact Jir b k x h
  ·rw[List.mem_singleton]at h;rw[h];unfold nxW
   split
   ·exact Xi _ _ _
   ·exact Jdx _

theorem JaU(i:Int)(w:aA):aB N 102 #[O I i] w λe w'=>e=aC (aH #[O aD (lY.wrap (wrap64 (77+i))),O aE 77])/\M D w w':=by
 generalize hz:lY.wrap (wrap64 (77+i))=z;go_enter func102,ntmps102;go_wp2;refine QK (v:=aH #[O aD _,O aE 77]) (Qq results102 _ _ w.heap.size _ _ (0,0) _ rfl (Qf _ _) underlying80 rfl (by kernel_rfl)) rfl ⟨?_,Ta _ _ _⟩;rw[<-hz]
def behO(i:Nat):VV:=(O aD ((77+i:Nat):Int),O aE 77)
def YM:List VV:=(lD 8).map behO
theorem JdU(w:aA)(v:aG)(l:List VV)(hl:l.length<=1000000)(hv:VR B w v l)(hs:∀x∈l,ShO x):
  aB N 62 #[v] w λe w'=>∃g,e=aC (R (Z ⟨g,0,Y⟩) (l.length+8) (l.length+8))/\w.heap.size<=g/\w'.heap[g]? =Z (T (Hv (l++YM)) 80)/\M D w w':=by
 obtain⟨ia,ic,kG⟩:=hv.shape;have qZ:=mkV isO (l.length+8) (by omega) w;have zI:=Qf w (T (Hv (lC (l.length+8) zO)) 80);obtain⟨r,tN⟩:=JjK isO (k:=8) hs (hv.tch (Ta D w (T (Hv (lC (l.length+8) zO)) 80)) noE) zI;have wn:I.wrap ((l.length:Int)+8)=((l.length+8:Nat):Int):=by rw[w63 _ (by omega) (by omega)];omega
 obtain⟨L0,(fm:J _)⟩:∃L0,l++lC 8 zO=L0:=⟨_,rfl⟩
 have hcp':∀ty,(lX #[22,22] ty #[R (Z ⟨w.heap.size,0,Y⟩) (l.length+8) (l.length+8),v]).run N (w.alloc (T (Hv (lC (l.length+8) zO)) 80))=.ok (O I r) ((w.alloc (T (Hv (lC (l.length+8) zO)) 80)).setRow w.heap.size (Hv L0)):=by rw[<-fm];exact tN
 clear tN;subst kG;generalize qK:l.length=n at *;generalize zt:n+8=m at *;have gC:J _:=zI;have gd:J (l.length=n/\n+8=m):=⟨qK,zt⟩
 have gK:(n:Int)+8<=(m:Int):=by omega
 have xM:(m:Int)<=1000008:=by omega
 go_enter func62,ntmps62;go_wp2;have HB:J (∀(k:Nat) V,k<8->aB N 102 #[O I (k:Int)] V λe w'=>e=aC (aH #[O aD ((77+k:Nat):Int),O aE 77])/\M D V w'):=λk V hk=>by
  have:=JaU (k:Int) V;rw[show wrap64 (77+(k:Int))=77+(k:Int) by unfold wrap64;omega,show lY.wrap (77+(k:Int))=((77+k:Nat):Int) by simp[l9,ld,l5];omega]at this;exact this
 go_loopw [4] (λi wr=>∃k:Nat,k<=8/\i=O I k/\J (wr.heap[w.heap.size]? =Z (T (Hv (l++(lD k).map behO++lC (8-k) zO)) 80))/\J (M D w wr)) (λi _=>8-(intOf i).toNat)
 case atStart=>refine⟨0,by omega,rfl,by show _=_;rw[show l++List.map behO (lD 0)++lC (8-0) zO=L0 by rw[<-fm.o];simp];exact Qi _ _ _ _ _ _ gC,?_⟩;exact(Ta D w _).trans (Ts _ _ _) (λj hj=>aN (by rw[hj];exact Ql _))
 case round=>
  obtain⟨k,hk,rfl,HR,HT⟩:=hrel
  by_cases H7:k<8
  ·have kj:(k:Int)<8:=(by omega);obtain⟨q,hq⟩:∃q:Nat,n+k=q:=⟨_,rfl⟩
   have wq:I.wrap ((n:Int)+(k:Int))=(q:Int):=(by rw[w63 _ (by omega) (by omega)];omega);have hqm:(q:Int)<(m:Int):=(by omega);have HQ:J _:=hq;have sS:J (∀V,_):=λV=>HB k V H7;have xJ:J (q<(l++(lD k).map behO++lC (8-k) zO).length):=(by show q<lG _;simp only[Qe,QM,lE,lF];have:=gd.o.1;omega);obtain⟨z,(HZ:J _)⟩:∃z:Nat,77+k=z:=⟨_,rfl⟩
   rw[HZ]at sS;clear hq;go_wp2_with (go_at_call 102;refine(sS _).mono ?_;rintro _ w2⟨rfl,(H6:J _)⟩;have jK:J _:=(H6.block _ (Jb HR) (λh=>h)).trans HR.o;obtain⟨f0,f1⟩:=Xp jK _ (Qd xJ);have fz:=Zf jK.o);obtain⟨p1,p2⟩:=JcS jK xJ (O aD (z:Int)) (O aE 77);go_roundw
   case rel=>
    refine⟨k+1,by omega,by go_num,?_,?_⟩
    ·show _=_;rw[p1]
     congr 2
     have h1:=gd.o.1;have h2:=HQ.o;have h3:=HZ.o;rw[<-h2,<-h1,Qs,lH _ _ (by omega),Qs,lH _ _ (by simp)];rw[show 8-k=(8-(k+1))+1 by omega,lU,List.range_succ,List.map_append,Qs];simp only[QM,lE,Nat.add_sub_cancel_left,lJ,Qb,List.map_cons,List.map_nil,List.cons_append,lN];rw[<-h3];rfl
    ·exact(HT.trans H6 (λ_ h=>aM h)).trans p2 (λj hj=>aN (by rw[hj];exact Ql _))
   case measure=>simp[intOf];omega
  ·obtain rfl:k=8:=(by omega);have jA:¬((8:Nat):Int)<8:=(by omega);go_wp2;go_ret;refine⟨w.heap.size,rfl,Ql _,?_,HT⟩;have:=HR.o;simp only[lJ,lQ,QC]at this;exact this

abbrev qO:VV:=(O aD 99,O aE 99)
theorem JdT(w:aA)(g:Nat)(v:aG)(l:List VV)(hl:l.length<=1000000)(hv:VR B w v l)(hg:B<=g)(hs:∀x∈l,ShO x)(hZ:w.heap[g]? =Z (T (Hv (l++YM)) 80)):
  aB Tryz.prog 64 #[R (Z ⟨g,0,Y⟩) (l.length+8) (l.length+8),v] w λe w'=>e=aC (aL true)/\w'.heap[g]? =Z (T (Hv (lC (l.length+8) qO)) 80)/\M (λk=>k=g) w w':=by
 have bU:J (∀x∈l++YM,ShO x):=λx hx=>by
  rcases QE.1 hx with h|h
  ·exact hs x h
  ·obtain⟨k,_,rfl⟩:=QL.1 h;exact⟨_,_,rfl⟩
 have xJ:J ((l++YM).length=l.length+8):=by show lG _=_;rw[Qe];rfl
 obtain⟨ia,ic,kG⟩:=hv.shape;subst kG;generalize qK:l.length=n at *;generalize zt:n+8=m at *;have gd:J (l.length=n/\n+8=m):=⟨qK,zt⟩
 have gK:(n:Int)+8<=(m:Int):=by omega
 have xM:(m:Int)<=1000008:=by omega
 have HV:J _:=hv;have HG:J _:=hg;have gC:J _:=hZ;go_enter Tryz.func64,Tryz.ntmps64;go_wp2;go_loopw [5,6] (λok i wr=>∃k:Nat,k<=m/\ok=aL true/\i=O I k/\J (wr.heap[g]? =Z (T (Hv (lC k qO++(l++YM).drop k)) 80))/\J (M (λk=>k=g) w wr)) (λ_ i _=>m-(intOf i).toNat)
 case atStart=>exact⟨0,by omega,rfl,rfl,by show _=_;rw[lQ,lN,List.drop_zero];exact gC,Te _ _⟩
 case round=>
  obtain⟨k,hk,rfl,rfl,HR,HT⟩:=hrel
  by_cases H7:k<m
  ·have kj:(k:Int)<(m:Int):=(by omega);have tI:J (k<(l++YM).length):=(by show k<lG _;rw[xJ.o];exact H7);obtain⟨x,hx⟩:∃x,(l++YM)[k]? =Z x:=⟨_,Qd tI⟩
   obtain⟨xa,xo,rfl⟩:=bU.o x (QT hx);have HX:J _:=hx;have xE:J ((lC k qO++(l++YM).drop k)[k]? =Z (O aD xa,O aE xo)):=(by show _=_;rw[Qz (by simp),lF,lJ,List.getElem?_drop,Nat.add_zero];exact hx);obtain dM|dM:=Nat.lt_or_ge k n
   case' inl=>
    have sU:(k:Int)<(n:Int):=(by omega);obtain⟨gi,oi,rfl,kp,kX⟩:∃gi oi,ia=Z ⟨gi,oi,Y⟩/\gi ≠ g/\J (∀V,M (λk=>k=g) w V->V.cell? ⟨gi,oi+k*2,Y⟩=Z (O aD xa)/\V.cell? ⟨gi,oi+k*2+1,Y⟩=Z (O aE xo)):=by
     rcases HV with⟨e,e2⟩|⟨gi,oi,c,e,dN,kp,Ho⟩
     ·rw[e2]at gd;have:=gd.o.1;simp at this;omega
     ·simp only[Qy]at e;have h2:k<l.length:=(by rw[gd.o.1];exact dM);have h3:l[k]=(O aD xa,O aE xo):=by
       have:=HX.o;rw[QF h2,Qd h2]at this;exact lh.inj this
      have h4:=Ho k h2;rw[h3]at h4;have uV:gi ≠ g:=(by have:=HG.o;omega);refine⟨gi,oi,e.1,uV,λV hV=>?_⟩;rw[hV.cell (p:=⟨gi,oi+k*2,Y⟩) kp uV,hV.cell (p:=⟨gi,oi+k*2+1,Y⟩) kp uV];exact h4
    go_upto_region 7 with(go_at_call 102;refine(JaU _ _).mono ?_;rintro _ w2⟨rfl,(H6:J _)⟩);generalize lY.wrap (wrap64 (77+((k:Int)-(n:Int))))=p;obtain⟨w3,jw⟩:∃w3,w3=w2.alloc (T #[O aD p,O aE 77] 80):=⟨_,rfl⟩
    have h3:=xw jw;have Hb:J (M D wr w3):=H6.trans (by rw[jw];exact Ta D _ _) (λ_ h=>aM h);have xz:J _:=H6.size;rw[<-jw];clear jw;generalize w2.heap.size=xb at *;obtain⟨(kN:J _),p2⟩:=Jd6 h3 (O aD xa) (O aE xo);obtain⟨b0,b1⟩:=rows h3;have bf:∀j,w3.frozen? ⟨xb,j,Y⟩=false:=λj=>Qg _ _ _ _ _ h3;obtain⟨q0,q1⟩:=kX w3 (HT.trans Hb noE);have ki:J _:=Hb.trans p2 (λj hj=>aN (by rw[hj];exact xz));clear p2 h3;go_upto_region 8 with fail;generalize (w3.setCell ⟨xb,0,Y⟩ (O aD xa)).setCell ⟨xb,1,Y⟩ (O aE xo)=wx at *
   case' inr=>
    have sU:¬(k:Int)<(n:Int):=(by omega);obtain⟨fo,(HXO:J _)⟩:xa=((77+(k-n):Nat):Int)/\xo=77:=by
     have h2:=HX.o;rw[Qz (by rw[gd.o.1];exact dM),gd.o.1]at h2;have h4:=gd.o.2;have h3:YM[k-n]? =Z (behO (k-n)):=(by unfold YM;rw[lO,lK (by omega)];rfl);rw[h3]at h2;simp only[behO,Qh,Qw,Value.int.injEq,true_and]at h2;exact⟨h2.1.symm,h2.2.symm⟩
    have zh:lY.wrap (wrap64 (77+((k:Int)-(n:Int))))=xa:=(by rw[fo,show wrap64 (77+((k:Int)-(n:Int)))=((77+(k-n):Nat):Int) by unfold wrap64;omega];simp[l9,ld,l5];omega);clear fo;go_upto_region 8 with(go_at_call 102;refine(JaU _ _).mono ?_;rintro _ w2⟨rfl,(H6:J _)⟩);obtain⟨wx,jw⟩:∃w3,w3=w2.alloc (T #[O aD xa,O aE 77] 80):=⟨_,rfl⟩
    have kN:J (wx.heap[w2.heap.size]? =Z (T #[O aD xa,O aE xo] 80)):=(by rw[jw,HXO.o];exact Qf _ _);have ki:J (M D wr wx):=H6.trans (by rw[jw];exact Ta D _ _) (λ_ h=>aM h);have xz:J _:=H6.size;rw[<-jw];clear jw zh sU;generalize w2.heap.size=xb at *
   all_goals
    have zA:J _:=(ki.block _ (Jb HR) (λh=>h)).trans HR.o;obtain⟨s0,s1⟩:=Xp zA _ xE.o;have b0:=cell_of_row wx xb 0 _ _ _ kN.o;have b1:=cell_of_row wx xb 1 _ _ _ kN.o;simp only[lM,lI,lR]at b0 b1;go_cut [5] (λv5 wy=>v5=aL true/\J (M D wx wy))
    case first=>
     go_region_held3 (λV=>V.cell? ⟨g,k*2,Y⟩=Z (O aD xa)/\V.cell? ⟨g,k*2+1,Y⟩=Z (O aE xo)/\V.cell? ⟨xb,0,Y⟩=Z (O aD xa)/\V.cell? ⟨xb,1,Y⟩=Z (O aE xo)) (go_keep) (fail)
     all_goals go_wp2;go_meet;exact⟨rfl,Td _ _ 1⟩
    case rest=>
    obtain⟨rfl,ry⟩:=hcut;obtain⟨wy,tO⟩:∃wy,wy=wc:=⟨wc,rfl⟩
    subst tO;clear s0 s1 b0 b1;have dO:J _:=(ry.block _ (Jb zA) (λh=>h)).trans zA.o;obtain⟨s0,s1⟩:=Xp dO _ xE.o;have fz:=Zf dO.o;obtain⟨(Hx:J _),(kF:J _)⟩:=JcS dO (Qo.1 xE).1 (O aD 99) (O aE 99);go_wp2;go_roundw
    case rel=>
     refine⟨k+1,by omega,rfl,by go_num,?_,?_⟩
     ·show _=_;rw[Hx.o]
      congr 2
      have h1:=tI.o;rw[lH _ _ (by simp),lF,lJ,List.drop_eq_getElem_cons h1,Qb,List.replicate_succ',Qs];rfl
     ·exact((HT.trans ki noE).trans ry noE).trans kF (λj hj=>aM hj)
    case measure=>simp[intOf];omega
  ·obtain rfl:k=m:=(by omega);have jA:¬(k:Int)<(k:Int):=(by omega);go_wp2;go_ret;refine⟨rfl,?_,HT⟩;have h1:=HR.o;rw[List.drop_eq_nil_of_le (by rw[xJ.o];exact Ql _),QC]at h1;exact h1

structure OpL where
 kind:Int
 a:Int
 b:Int
 which:Int
 s:BA
 t:BA
 u:BA
 cx:BA
 cn:Int
 os:Sl
 ts:Sl
abbrev opV(x:OpL):aG:=aH #[O I x.kind,O I x.a,O I x.b,O I x.which,L x.s,L x.t,L x.u,L x.cx,O I x.cn,R x.os.1 x.os.2.1 x.os.2.2,R x.ts.1 x.ts.2.1 x.ts.2.2]
abbrev opC(x:OpL):Array aG:= #[O I x.kind,O I x.a,O I x.b,O I x.which,L x.s,L x.t,L x.u,L x.cx,O I x.cn,R x.os.1 x.os.2.1 x.os.2.2,R x.ts.1 x.ts.2.1 x.ts.2.2]
theorem JdV(w:aA)(wb:Nat)(x:OpL)(log:BA)(hx:x.kind=2)(hB:B<=w.heap.size)(l:List VV)(hl:l.length<=1000000)(hv:VR B w (R x.os.1 x.os.2.1 x.os.2.2) l)(hs:∀x∈l,ShO x)(code:Int)(QL:Nat->Option Addr->aA->Prop)(QR:Nat->Option Addr->Option Addr->aA->Prop)(Fin:aA->Prop)
 (hL:∀V g,M D w V->w.heap.size<=g->V.heap[g]? =Z (T (Hv (l++YM)) 80)->aB N 37 #[O I x.a,R (Z ⟨g,0,Y⟩) l.length (l.length+8)] V λe V'=>∃pl,e=aC (aI #[X pl,O I code])/\M D V V'/\QL g pl V')
 (hR:∀V g pl,M D w V->QL g pl V->aB N 63 #[O I x.a,R x.os.1 x.os.2.1 x.os.2.2] V λe V'=>∃pr,e=aC (aI #[X pr,O I code])/\M D V V'/\QR g pl pr V')
 (hQ:∀V V' g pl pr,QR g pl pr V->M (λj=>j=g) V V'->QR g pl pr V')
 (hJ:∀V g pl pr,M D w V->QR g pl pr V->aB N 65 #[X (Z ⟨wb,0,Y⟩),X pl,X pr] V λe V'=>e=aC (aL true)/\Fin V'):
  aB N 33 #[X (Z ⟨wb,0,Y⟩),opV x,L log] w λe w'=>e=aC (aL true)/\Fin w':=by
 obtain⟨kind,a,b,which,s,t,u,cx,cn,⟨oa,on,oc⟩,⟨ta,tn,tc⟩⟩:=x;simp only at *;subst hx;obtain rfl:on=l.length:=by obtain⟨a',c',e⟩:=hv.shape;simp only[Qy]at e;exact e.2.1
 obtain⟨w0,(xF:J _)⟩:∃w0,w0=w.alloc (T #[O I 2,O I a,O I b,O I which,L s,L t,L u,L cx,O I cn,R oa l.length oc,R ta tn tc] 75):=⟨_,rfl⟩
 have t0:M D w w0:=by rw[xF];exact Ta _ _ _
 have r0:w0.heap[w.heap.size]? =Z (T #[O I 2,O I a,O I b,O I which,L s,L t,L u,L cx,O I cn,R oa l.length oc,R ta tn tc] 75):=by rw[xF];exact Qf _ _
 have kJ:J _:=t0;have kX:J (∀V S,M S w0 V->(∀j,S j->w0.heap.size<=j)->V.cell? ⟨w.heap.size,0,Y⟩=Z (O I 2)/\V.cell? ⟨w.heap.size,1,Y⟩=Z (O I a)/\V.cell? ⟨w.heap.size,9,Y⟩=Z (R oa l.length oc)):=λV S hV hS=>by
  have hr:=(hV.block w.heap.size (Jb r0) (λe=>by have:=hS _ e;have:=(Jb r0);omega)).trans r0;exact⟨Ja hr,Ja hr,Ja hr⟩
 have tJ:J (∀V,M D w V->_):=λV hV=>JdU V _ l hl (hv.tch hV (λ_ e=>e.elim)) hs;have zu:J (∀V g,M D w V->w.heap.size<=g->V.heap[g]? =Z (T (Hv (l++YM)) 80)->_):=λV g hV hg hr=>JdT V g _ l hl (hv.tch hV (λ_ e=>e.elim)) (by omega) hs hr;have HL:J _:=hL;have HR:J _:=hR;have HQ:J _:=hQ;have HJ:J _:=hJ;clear hL hR hQ hJ hv hs t0 r0;generalize l.length=n at *;generalize hn8:n+8=n8 at *;have hl8:(n:Int)<=(n8:Int):=by omega
 go_enter func33,ntmps33;go_upto_region 1 with fail;rw[<-xF.o];obtain⟨c0,c1,c9⟩:=kX w0 _ (Te D _) (λ_ e=>e.elim);go_wp2_with fail;refine(tJ w0 kJ).mono ?_;rintro _ w1⟨g,rfl,hg,(qR:J _),(H5:J _)⟩;have HG:J (w0.heap.size<=g/\w.heap.size<=g):=⟨hg,Qm kJ.size hg⟩
 clear hg c0 c1 c9;obtain⟨c0,c1,c9⟩:=kX w1 _ H5 (λ_ e=>e.elim);go_upto_region 3 with fail;go_cut [8,9] (λv8 v9 wx=>∃pl,v8=X pl/\v9=O I code/\J (M D w1 wx)/\J (QL g pl wx))
 case first=>
  go_region_held3 (λV=>V.cell? ⟨w.heap.size,1,Y⟩=Z (O I a)/\V.cell? ⟨w.heap.size,9,Y⟩=Z (R oa n oc)) (go_keep) ((go_at_call 37;refine(HL _ g ((kJ.go H5).go (Td _ w1 1)) HG.2 qR).mono ?_;rintro _ w2⟨pl,rfl,Ha,(qE:J _)⟩;have H6:J _:=(Td D w1 1).go Ha;obtain⟨d0,d1,d9⟩:=kX w2 _ (H5.go H6) (λ_ e=>e.elim);clear Ha))
  all_goals go_wp2;go_meet;exact⟨pl,rfl,rfl,H6,qE⟩
 case rest=>
 obtain⟨pl,rfl,rfl,H6,qE⟩:=hcut;obtain⟨w2,xd⟩:∃w2,w2=wc:=⟨wc,rfl⟩
 subst xd;have kI:J _:=H5.go H6.o;obtain⟨c0,c1,c9⟩:=kX w2 _ kI (λ_ e=>e.elim);go_wp2_with fail;refine(HR w2 g pl (kJ.go kI) qE).mono ?_;rintro _ w3⟨pr,rfl,Hs,(HQ3:J _)⟩;have Hb:J _:=kI.go Hs;have kw:J _:=((H6.go Hs).block g (Jb qR) (λe=>e)).trans qR.o;clear c0 c1 c9 Hs;obtain⟨c0,c1,c9⟩:=kX w3 _ Hb (λ_ e=>e.elim);go_wp2_with fail;refine(zu w3 g (kJ.go Hb) HG.2 kw).mono ?_;rintro _ w4⟨rfl,_,Hu⟩;have Hm:J _:=(kJ.go Hb).trans Hu (λj hj=>aN (by rw[hj];exact HG.2));have HQ4:J _:=HQ _ _ _ _ _ HQ3 Hu;go_wp2_with fail;refine(HJ w4 g pl pr Hm HQ4).mono ?_;rintro _ w5⟨rfl,(HF:J _)⟩;go_wp2_with fail;refine(Jb2 _ _).mono ?_;rintro _ _⟨rfl,rfl⟩;go_wp2;go_ret;exact⟨rfl,HF⟩

abbrev jf:BA:=⟨#[98,101,104,105,110,100]⟩
theorem YO(i:Int)(w:aA):aB N 265 #[O I i] w λe w'=>e=aC (aH #[L jf,O I (wrap64 (wrap64 (-i)-1))])/\M D w w':=by
 generalize hz:wrap64 (wrap64 (-i)-1)=z;go_enter func265,ntmps265;go_wp2;refine QK (v:=aH #[L jf,O I _]) (Qq results265 _ _ w.heap.size _ _ (0,0) _ rfl (Qf _ _) underlying49 rfl (by kernel_rfl)) rfl ⟨?_,Ta _ _ _⟩;rw[<-hz]
def behC(i:Nat):VV:=(L jf,O I (-(i:Int)-1))
def Jad:List VV:=(lD 8).map behC
theorem Jhp(w:aA)(v:aG)(l:List VV)(hl:l.length<=1000000)(hv:VR B w v l)(hs:∀x∈l,ShC x):
  aB N 264 #[v] w λe w'=>∃g,e=aC (R (Z ⟨g,0,Y⟩) (l.length+8) (l.length+8))/\w.heap.size<=g/\w'.heap[g]? =Z (T (Hv (l++Jad)) 49)/\M D w w':=by
 obtain⟨ia,ic,kG⟩:=hv.shape;have qZ:=mkV isC (l.length+8) (by omega) w;have zI:=Qf w (T (Hv (lC (l.length+8) zC)) 49);obtain⟨r,tN⟩:=JjK isC (k:=8) hs (hv.tch (Ta D w (T (Hv (lC (l.length+8) zC)) 49)) noE) zI;have wn:I.wrap ((l.length:Int)+8)=((l.length+8:Nat):Int):=by rw[w63 _ (by omega) (by omega)];omega
 obtain⟨L0,(fm:J _)⟩:∃L0,l++lC 8 zC=L0:=⟨_,rfl⟩
 have hcp':∀ty,(lX #[96,96] ty #[R (Z ⟨w.heap.size,0,Y⟩) (l.length+8) (l.length+8),v]).run N (w.alloc (T (Hv (lC (l.length+8) zC)) 49))=.ok (O I r) ((w.alloc (T (Hv (lC (l.length+8) zC)) 49)).setRow w.heap.size (Hv L0)):=by rw[<-fm];exact tN
 clear tN;subst kG;generalize qK:l.length=n at *;generalize zt:n+8=m at *;have gC:J _:=zI;have gd:J (l.length=n/\n+8=m):=⟨qK,zt⟩
 have gK:(n:Int)+8<=(m:Int):=by omega
 have xM:(m:Int)<=1000008:=by omega
 go_enter func264,ntmps264;go_wp2;have HB:J (∀(k:Nat) V,k<8->aB N 265 #[O I (k:Int)] V λe w'=>e=aC (aH #[L jf,O I (-(k:Int)-1)])/\M D V w'):=λk V hk=>by
  have:=YO (k:Int) V;rw[show wrap64 (wrap64 (-(k:Int))-1)= -(k:Int)-1 by unfold wrap64;omega]at this;exact this
 go_loopw [4] (λi wr=>∃k:Nat,k<=8/\i=O I k/\J (wr.heap[w.heap.size]? =Z (T (Hv (l++(lD k).map behC++lC (8-k) zC)) 49))/\J (M D w wr)) (λi _=>8-(intOf i).toNat)
 case atStart=>refine⟨0,by omega,rfl,by show _=_;rw[show l++List.map behC (lD 0)++lC (8-0) zC=L0 by rw[<-fm.o];simp];exact Qi _ _ _ _ _ _ gC,?_⟩;exact(Ta D w _).trans (Ts _ _ _) (λj hj=>aN (by rw[hj];exact Ql _))
 case round=>
  obtain⟨k,hk,rfl,HR,HT⟩:=hrel
  by_cases H7:k<8
  ·have kj:(k:Int)<8:=(by omega);obtain⟨q,hq⟩:∃q:Nat,n+k=q:=⟨_,rfl⟩
   have wq:I.wrap ((n:Int)+(k:Int))=(q:Int):=(by rw[w63 _ (by omega) (by omega)];omega);have hqm:(q:Int)<(m:Int):=(by omega);have HQ:J _:=hq;have sS:J (∀V,_):=λV=>HB k V H7;have xJ:J (q<(l++(lD k).map behC++lC (8-k) zC).length):=(by show q<lG _;simp only[Qe,QM,lE,lF];have:=gd.o.1;omega);obtain⟨z,(HZ:J _)⟩:∃z:Int, -(k:Int)-1=z:=⟨_,rfl⟩
   rw[HZ]at sS;clear hq;go_wp2_with (go_at_call 265;refine(sS _).mono ?_;rintro _ w2⟨rfl,(H6:J _)⟩;have jK:J _:=(H6.block _ (Jb HR) (λh=>h)).trans HR.o;obtain⟨f0,f1⟩:=Xp jK _ (Qd xJ);have fz:=Zf jK.o);obtain⟨p1,p2⟩:=JcS jK xJ (L jf) (O I z);go_roundw
   case rel=>
    refine⟨k+1,by omega,by go_num,?_,?_⟩
    ·show _=_;rw[p1]
     congr 2
     have h1:=gd.o.1;have h2:=HQ.o;have h3:=HZ.o;rw[<-h2,<-h1,Qs,lH _ _ (by omega),Qs,lH _ _ (by simp)];rw[show 8-k=(8-(k+1))+1 by omega,lU,List.range_succ,List.map_append,Qs];simp only[QM,lE,Nat.add_sub_cancel_left,lJ,Qb,List.map_cons,List.map_nil,List.cons_append,lN];rw[<-h3];rfl
    ·exact(HT.trans H6 (λ_ h=>aM h)).trans p2 (λj hj=>aN (by rw[hj];exact Ql _))
   case measure=>simp[intOf];omega
  ·obtain rfl:k=8:=(by omega);have jA:¬((8:Nat):Int)<8:=(by omega);go_wp2;go_ret;refine⟨w.heap.size,rfl,Ql _,?_,HT⟩;have:=HR.o;simp only[lJ,lQ,QC]at this;exact this
abbrev othB:BA:=⟨#[111,116,104,101,114]⟩
abbrev qC:VV:=(L othB,O I 99)
theorem Jho(w:aA)(g:Nat)(v:aG)(l:List VV)(hl:l.length<=1000000)(hv:VR B w v l)(hg:B<=g)(hs:∀x∈l,ShC x)(hZ:w.heap[g]? =Z (T (Hv (l++Jad)) 49)):
  aB N 267 #[R (Z ⟨g,0,Y⟩) (l.length+8) (l.length+8),v] w λe w'=>e=aC (aL true)/\w'.heap[g]? =Z (T (Hv (lC (l.length+8) qC)) 49)/\M (λk=>k=g) w w':=by
 have bU:J (∀x∈l++Jad,ShC x):=λx hx=>by
  rcases QE.1 hx with h|h
  ·exact hs x h
  ·obtain⟨k,_,rfl⟩:=QL.1 h;exact⟨_,_,rfl⟩
 have xJ:J ((l++Jad).length=l.length+8):=by show lG _=_;rw[Qe];rfl
 obtain⟨ia,ic,kG⟩:=hv.shape;subst kG;generalize qK:l.length=n at *;generalize zt:n+8=m at *;have gd:J (l.length=n/\n+8=m):=⟨qK,zt⟩
 have gK:(n:Int)+8<=(m:Int):=by omega
 have xM:(m:Int)<=1000008:=by omega
 have HV:J _:=hv;have HG:J _:=hg;have gC:J _:=hZ;go_enter func267,ntmps267;go_wp2;go_loopw [5,6] (λok i wr=>∃k:Nat,k<=m/\ok=aL true/\i=O I k/\J (wr.heap[g]? =Z (T (Hv (lC k qC++(l++Jad).drop k)) 49))/\J (M (λk=>k=g) w wr)) (λ_ i _=>m-(intOf i).toNat)
 case atStart=>exact⟨0,by omega,rfl,rfl,by show _=_;rw[lQ,lN,List.drop_zero];exact gC,Te _ _⟩
 case round=>
  obtain⟨k,hk,rfl,rfl,HR,HT⟩:=hrel
  by_cases H7:k<m
  ·have kj:(k:Int)<(m:Int):=(by omega);have tI:J (k<(l++Jad).length):=(by show k<lG _;rw[xJ.o];exact H7);obtain⟨x,hx⟩:∃x,(l++Jad)[k]? =Z x:=⟨_,Qd tI⟩
   obtain⟨xa,xo,rfl⟩:=bU.o x (QT hx);have HX:J _:=hx;have xE:J ((lC k qC++(l++Jad).drop k)[k]? =Z (L xa,O I xo)):=(by show _=_;rw[Qz (by simp),lF,lJ,List.getElem?_drop,Nat.add_zero];exact hx);obtain dM|dM:=Nat.lt_or_ge k n
   case' inl=>
    have sU:(k:Int)<(n:Int):=(by omega);obtain⟨gi,oi,rfl,kp,kX⟩:∃gi oi,ia=Z ⟨gi,oi,Y⟩/\gi ≠ g/\J (∀V,M (λk=>k=g) w V->V.cell? ⟨gi,oi+k*2,Y⟩=Z (L xa)/\V.cell? ⟨gi,oi+k*2+1,Y⟩=Z (O I xo)):=by
     rcases HV with⟨e,e2⟩|⟨gi,oi,c,e,dN,kp,Ho⟩
     ·rw[e2]at gd;have:=gd.o.1;simp at this;omega
     ·simp only[Qy]at e;have h2:k<l.length:=(by rw[gd.o.1];exact dM);have h3:l[k]=(L xa,O I xo):=by
       have:=HX.o;rw[QF h2,Qd h2]at this;exact lh.inj this
      have h4:=Ho k h2;rw[h3]at h4;have uV:gi ≠ g:=(by have:=HG.o;omega);refine⟨gi,oi,e.1,uV,λV hV=>?_⟩;rw[hV.cell (p:=⟨gi,oi+k*2,Y⟩) kp uV,hV.cell (p:=⟨gi,oi+k*2+1,Y⟩) kp uV];exact h4
    go_upto_region 7 with(go_at_call 265;refine(YO _ _).mono ?_;rintro _ w2⟨rfl,(H6:J _)⟩);generalize wrap64 (wrap64 (-((k:Int)-(n:Int)))-1)=p;obtain⟨w3,jw⟩:∃w3,w3=w2.alloc (T #[L jf,O I p] 49):=⟨_,rfl⟩
    have h3:=xw jw;have Hb:J (M D wr w3):=H6.trans (by rw[jw];exact Ta D _ _) (λ_ h=>aM h);have xz:J _:=H6.size;rw[<-jw];clear jw;generalize w2.heap.size=xb at *;obtain⟨(kN:J _),p2⟩:=Jd6 h3 (L xa) (O I xo);obtain⟨b0,b1⟩:=rows h3;have bf:∀j,w3.frozen? ⟨xb,j,Y⟩=false:=λj=>Qg _ _ _ _ _ h3;obtain⟨q0,q1⟩:=kX w3 (HT.trans Hb noE);have ki:J _:=Hb.trans p2 (λj hj=>aN (by rw[hj];exact xz));clear p2 h3;go_upto_region 8 with fail;generalize (w3.setCell ⟨xb,0,Y⟩ (L xa)).setCell ⟨xb,1,Y⟩ (O I xo)=wx at *
   case' inr=>
    have sU:¬(k:Int)<(n:Int):=(by omega);obtain⟨fo,(HXO:J _)⟩:xo= -((k-n:Nat):Int)-1/\xa=jf:=by
     have h2:=HX.o;rw[Qz (by rw[gd.o.1];exact dM),gd.o.1]at h2;have h4:=gd.o.2;have h3:Jad[k-n]? =Z (behC (k-n)):=(by unfold Jad;rw[lO,lK (by omega)];rfl);rw[h3]at h2;simp only[behC,Qh,Qw,Value.int.injEq,Value.string.injEq,true_and]at h2;exact⟨h2.2.symm,h2.1.symm⟩
    have zh:wrap64 (wrap64 (-((k:Int)-(n:Int)))-1)=xo:=(by rw[fo];unfold wrap64;omega);clear fo;go_upto_region 8 with(go_at_call 265;refine(YO _ _).mono ?_;rintro _ w2⟨rfl,(H6:J _)⟩);obtain⟨wx,jw⟩:∃w3,w3=w2.alloc (T #[L jf,O I xo] 49):=⟨_,rfl⟩
    have kN:J (wx.heap[w2.heap.size]? =Z (T #[L xa,O I xo] 49)):=(by rw[jw,HXO.o];exact Qf _ _);have ki:J (M D wr wx):=H6.trans (by rw[jw];exact Ta D _ _) (λ_ h=>aM h);have xz:J _:=H6.size;rw[<-jw];clear jw zh sU;generalize w2.heap.size=xb at *
   all_goals
    have zA:J _:=(ki.block _ (Jb HR) (λh=>h)).trans HR.o;obtain⟨s0,s1⟩:=Xp zA _ xE.o;have b0:=cell_of_row wx xb 0 _ _ _ kN.o;have b1:=cell_of_row wx xb 1 _ _ _ kN.o;simp only[lM,lI,lR]at b0 b1;go_cut [5] (λv5 wy=>v5=aL true/\J (M D wx wy))
    case first=>
     go_region_held3 (λV=>V.cell? ⟨g,k*2,Y⟩=Z (L xa)/\V.cell? ⟨g,k*2+1,Y⟩=Z (O I xo)/\V.cell? ⟨xb,0,Y⟩=Z (L xa)/\V.cell? ⟨xb,1,Y⟩=Z (O I xo)) (go_keep) (fail)
     all_goals go_wp2;go_meet;exact⟨rfl,Td _ _ 1⟩
    case rest=>
    obtain⟨rfl,ry⟩:=hcut;obtain⟨wy,tO⟩:∃wy,wy=wc:=⟨wc,rfl⟩
    subst tO;clear s0 s1 b0 b1;have dO:J _:=(ry.block _ (Jb zA) (λh=>h)).trans zA.o;obtain⟨s0,s1⟩:=Xp dO _ xE.o;have fz:=Zf dO.o;obtain⟨(Hx:J _),(kF:J _)⟩:=JcS dO (Qo.1 xE).1 (L othB) (O I 99);go_wp2;go_roundw
    case rel=>
     refine⟨k+1,by omega,rfl,by go_num,?_,?_⟩
     ·show _=_;rw[Hx.o]
      congr 2
      have h1:=tI.o;rw[lH _ _ (by simp),lF,lJ,List.drop_eq_getElem_cons h1,Qb,List.replicate_succ',Qs];rfl
     ·exact((HT.trans ki noE).trans ry noE).trans kF (λj hj=>aM hj)
    case measure=>simp[intOf];omega
  ·obtain rfl:k=m:=(by omega);have jA:¬(k:Int)<(k:Int):=(by omega);go_wp2;go_ret;refine⟨rfl,?_,HT⟩;have h1:=HR.o;rw[List.drop_eq_nil_of_le (by rw[xJ.o];exact Ql _),QC]at h1;exact h1

def sV1(s:Sl):aG:=R s.1 s.2.1 s.2.2
structure TxV(B:Nat)(w:aA)(v:aG)(n:Nat)(sl:Nat->Sl×Sl)(c o:Nat->List VV):Prop where
 at':VR B w v ((lD n).map λi=>encT (sl i))
 ins:∀i,i<n->VR B w (sV1 (sl i).1) (c i)/\(∀x∈c i,ShC x)/\(c i).length<=1000000
 outs:∀i,i<n->VR B w (sV1 (sl i).2) (o i)/\(∀x∈o i,ShO x)/\(o i).length<=1000000
theorem TxV.tch(h:TxV B w v n sl c o)(k:M S w w')(hs:∀j,S j->B<=j):TxV B w' v n sl c o:=
 ⟨h.at'.tch k hs,λi hi=>⟨(h.ins i hi).1.tch k hs,(h.ins i hi).2⟩,λi hi=>⟨(h.outs i hi).1.tch k hs,(h.outs i hi).2⟩⟩
theorem TxV.shape(h:TxV B w v n sl c o):∃a cap,v=R a n cap:=by
 obtain⟨a,cap,e⟩:=h.at'.shape;rw[QM,lE]at e;exact⟨a,cap,e⟩
theorem TxV.cell{a:Option Addr}{cap:Nat}(h:TxV B w (R a n cap) n sl c o)(i:Nat)(hi:i<n):∃gi oi,a=Z ⟨gi,oi,Y⟩/\gi<B/\gi<w.heap.size/\w.cell? ⟨gi,oi+i*2,Y⟩=Z (sV1 (sl i).1)/\w.cell? ⟨gi,oi+i*2+1,Y⟩=Z (sV1 (sl i).2):=by
 rcases h.at' with⟨_,e2⟩|⟨gi,oi,cc,e,h1,h2,h3⟩
 ·have:=congrArg lG e2;simp at this;omega
 ·simp only[Qy]at e;have:=h3 i (by simpa using hi);simp only[l6,List.getElem_range]at this;exact⟨gi,oi,e.1,h1,h2,this⟩
theorem TxV.lens(h:TxV B w v n sl c o)(i:Nat)(hi:i<n):(sl i).1.2.1=(c i).length/\(sl i).2.2.1=(o i).length:=by
 obtain⟨a,k,e⟩:=(h.ins i hi).1.shape;obtain⟨a',k',e'⟩:=(h.outs i hi).1.shape;unfold sV1 at e e';simp only[Qy]at e e';exact⟨e.2.1,e'.2.1⟩
def inV(c:Nat->List VV)(ga:Nat->Nat)(i:Nat):aG:=R (Z ⟨ga i,0,Y⟩) ((c i).length+8) ((c i).length+8)
def txE(c o:Nat->List VV)(ga gb:Nat->Nat)(i:Nat):VV:=(R (Z ⟨ga i,0,Y⟩) (c i).length ((c i).length+8),R (Z ⟨gb i,0,Y⟩) (o i).length ((o i).length+8))
def Ja3(hb:Nat->Nat)(i:Nat):VV:=(R (Z ⟨hb i,0,Y⟩) 1 1,R Y 0 0)
structure LC(base:Nat)(w:aA)(f k:Nat)(c o:Nat->List VV)(ga gb:Nat->Nat):Prop where
 rowC:∀i,f<=i->i<k->base<=ga i/\w.heap[ga i]? =Z (T (Hv (c i++Jad)) 49)
 rowO:∀i,f<=i->i<k->base<=gb i/\w.heap[gb i]? =Z (T (Hv (o i++YM)) 80)
 incC:∀i j,i<j->j<k->ga i<ga j
 incO:∀i j,i<j->j<k->gb i<gb j
theorem LC.tch{c o:Nat -> List VV}{ga gb:Nat -> Nat}{S:Nat -> Prop}(h : LC base w f k c o ga gb)(t : M S w w')(hs : ∀ j cs m, w.heap[j]? = Z (T cs 49 m) \/ w.heap[j]? = Z (T cs 80 m) -> ¬ S j) : LC base w' f k c o ga gb :=
  ⟨λi h1 h2 => ⟨(h.rowC i h1 h2).1, (t.block _ (QJ.1 (h.rowC i h1 h2).2).1 (hs _ _ _ (aM (h.rowC i h1 h2).2))).trans (h.rowC i h1 h2).2⟩,
   λi h1 h2 => ⟨(h.rowO i h1 h2).1, (t.block _ (QJ.1 (h.rowO i h1 h2).2).1 (hs _ _ _ (aN (h.rowO i h1 h2).2))).trans (h.rowO i h1 h2).2⟩, h.incC, h.incO⟩
theorem Jbl{α:Type}{f f':Nat->α}(h:∀i,i<k->f' i=f i):(lD (k+1)).map f'=(lD k).map f++[f' k]:=by
 rw[List.range_succ,List.map_append,List.map_cons,List.map_nil]
 congr 1
 exact List.map_congr_left (λi hi=>h i (List.mem_range.1 hi))
def upd(f:Nat->Nat)(k g:Nat):Nat->Nat:=λj=>if j=k then g else f j
theorem YT{f:Nat->Nat}(h:i<k):upd f k g i=f i:=if_neg (by omega)
theorem Jaa{f:Nat->Nat} :upd f k g k=g:=if_pos rfl
theorem LC.more{g':Nat}(h:LC base w 0 k c o ga gb)(h1:base<=g/\w.heap[g]? =Z (T (Hv (c k++Jad)) 49))(h2:base<=g'/\w.heap[g']? =Z (T (Hv (o k++YM)) 80))(h3:∀i,i<k->ga i<g)(h4:∀i,i<k->gb i<g'):LC base w 0 (k+1) c o (upd ga k g) (upd gb k g'):=by
 refine⟨λi _ hi=>?_,λi _ hi=>?_,λi j hij hj=>?_,λi j hij hj=>?_⟩
 ·by_cases e:i=k
  ·rw[e,Jaa];exact h1
  ·rw[YT (by omega)];exact h.rowC i (by omega) (by omega)
 ·by_cases e:i=k
  ·rw[e,Jaa];exact h2
  ·rw[YT (by omega)];exact h.rowO i (by omega) (by omega)
 ·by_cases e:j=k
  ·rw[e,Jaa,YT (by omega)];exact h3 i (by omega)
  ·rw[YT (show i<k by omega),YT (show j<k by omega)];exact h.incC i j hij (by omega)
 ·by_cases e:j=k
  ·rw[e,Jaa,YT (by omega)];exact h4 i (by omega)
  ·rw[YT (show i<k by omega),YT (show j<k by omega)];exact h.incO i j hij (by omega)
structure Lnd(base:Nat)(w:aA)(nb gt m:Nat)(vi vo:aG)(aY:List VV)(LI LO:List aG):Prop where
 row:w.heap[nb]? =Z (T #[R (Z ⟨gt,0,Y⟩) m m,vi,vo] 311)
 txs:w.heap[gt]? =Z (T (Hv aY) 98)
 ins:VOwn 96 base w vi LI
 outs:VOwn 22 base w vo LO
 low:base<=nb/\base<=gt
theorem Lnd.tch0{aY:List VV}(h:Lnd base w nb gt m vi vo aY LI LO)(k:M D w w'):Lnd base w' nb gt m vi vo aY LI LO:=
 ⟨(k.block _ (Jb h.row) (λh=>h)).trans h.row,(k.block _ (Jb h.txs) (λh=>h)).trans h.txs,h.ins.tch k (λ_ _ h=>h),h.outs.tch k (λ_ _ h=>h),h.low⟩
theorem Lnd.app1{aY:List VV}{LI':List aG}(h:Lnd base w nb gt m vi vo aY LI LO)(hv:VOwn 96 base w3 v' LI')(hg:w.grownBy w3 vi.ownBlock):
  w3.cell? ⟨nb,1,Y⟩=Z vi/\(∀j,w3.frozen? ⟨nb,j,Y⟩=false)/\Lnd base (w3.setCell ⟨nb,1,Y⟩ v') nb gt m v' vo aY LI' LO/\M (λj=>j=nb\/vi.ownBlock=Z j) w (w3.setCell ⟨nb,1,Y⟩ v'):=by
 have t3:M (λj=>vi.ownBlock=Z j) w w3:=(Tg hg).mono (λj hj=>aM hj.symm);have ne:∀j cs aY m,w.heap[j]? =Z (T cs aY m)->aY ≠ 96->¬vi.ownBlock=Z j:=λj cs aY m hr hT e=>by
  obtain⟨_,_,cs',m',kS⟩:=h.ins.own j e;rw[hr]at kS;simp at kS;exact hT kS.2.1
 have r3:=(t3.block nb (Jb h.row) (ne _ _ _ _ h.row (by decide))).trans h.row;have x3:=(t3.block gt (Jb h.txs) (ne _ _ _ _ h.txs (by decide))).trans h.txs;have e4:=Qj w3 nb 1 _ _ _ v' r3;have t4:=Ts w3 nb #[R (Z ⟨gt,0,Y⟩) m m,v',vo];have Hl:∀j cs aY m,w3.heap[j]? =Z (T cs aY m)->aY ≠ 311->¬j=nb:=λj cs aY m hr hT e=>by
  rw[e,r3]at hr;simp at hr;exact hT hr.2.1.symm
 refine⟨Ja r3,λj=>Qg _ _ _ _ _ r3,?_,?_⟩
 ·rw[e4];refine⟨Qi _ _ _ _ _ _ r3,(t4.block gt (Jb x3) (Hl _ _ _ _ x3 (by decide))).trans x3,hv.tch t4 (λj hj e=>?_),(h.outs.tch t3 (λj hj e=>?_)).tch t4 (λj hj e=>?_),h.low⟩
  ·obtain⟨_,_,cs,mm,hr⟩:=hv.own j hj;exact Hl j _ _ _ hr (by decide) e
  ·obtain⟨_,_,cs,mm,hr⟩:=h.outs.own j hj;exact ne j _ _ _ hr (by decide) e
  ·obtain⟨_,_,cs,mm,hr⟩:=h.outs.own j hj;have k8:=(t3.block j (Jb hr) (ne j _ _ _ hr (by decide))).trans hr;exact Hl j _ _ _ k8 (by decide) e
 ·rw[e4];exact(t3.mono (λj hj=>aM (aN hj))).trans t4 (λj hj=>aM (aM hj))
theorem Lnd.app2{aY:List VV}{LO':List aG}(h:Lnd base w nb gt m vi vo aY LI LO)(hv:VOwn 22 base w3 v' LO')(hg:w.grownBy w3 vo.ownBlock):
  w3.cell? ⟨nb,2,Y⟩=Z vo/\(∀j,w3.frozen? ⟨nb,j,Y⟩=false)/\Lnd base (w3.setCell ⟨nb,2,Y⟩ v') nb gt m vi v' aY LI LO'/\M (λj=>j=nb\/vo.ownBlock=Z j) w (w3.setCell ⟨nb,2,Y⟩ v'):=by
 have t3:M (λj=>vo.ownBlock=Z j) w w3:=(Tg hg).mono (λj hj=>aM hj.symm);have ne:∀j cs aY m,w.heap[j]? =Z (T cs aY m)->aY ≠ 22->¬vo.ownBlock=Z j:=λj cs aY m hr hT e=>by
  obtain⟨_,_,cs',m',kS⟩:=h.outs.own j e;rw[hr]at kS;simp at kS;exact hT kS.2.1
 have r3:=(t3.block nb (Jb h.row) (ne _ _ _ _ h.row (by decide))).trans h.row;have x3:=(t3.block gt (Jb h.txs) (ne _ _ _ _ h.txs (by decide))).trans h.txs;have e4:=Qj w3 nb 2 _ _ _ v' r3;have t4:=Ts w3 nb #[R (Z ⟨gt,0,Y⟩) m m,vi,v'];have Hl:∀j cs aY m,w3.heap[j]? =Z (T cs aY m)->aY ≠ 311->¬j=nb:=λj cs aY m hr hT e=>by
  rw[e,r3]at hr;simp at hr;exact hT hr.2.1.symm
 refine⟨Ja r3,λj=>Qg _ _ _ _ _ r3,?_,?_⟩
 ·rw[e4];refine⟨Qi _ _ _ _ _ _ r3,(t4.block gt (Jb x3) (Hl _ _ _ _ x3 (by decide))).trans x3,(h.ins.tch t3 (λj hj e=>?_)).tch t4 (λj hj e=>?_),hv.tch t4 (λj hj e=>?_),h.low⟩
  ·obtain⟨_,_,cs,mm,hr⟩:=h.ins.own j hj;exact ne j _ _ _ hr (by decide) e
  ·obtain⟨_,_,cs,mm,hr⟩:=h.ins.own j hj;have k8:=(t3.block j (Jb hr) (ne j _ _ _ hr (by decide))).trans hr;exact Hl j _ _ _ k8 (by decide) e
  ·obtain⟨_,_,cs,mm,hr⟩:=hv.own j hj;exact Hl j _ _ _ hr (by decide) e
 ·rw[e4];exact(t3.mono (λj hj=>aM (aN hj))).trans t4 (λj hj=>aM (aM hj))
theorem Lnd.put{aY:List VV}(h:Lnd base w nb gt m vi vo aY LI LO)(hi:i<aY.length)(a b:aG):
  Lnd base ((w.setCell ⟨gt,i*2,Y⟩ a).setCell ⟨gt,i*2+1,Y⟩ b) nb gt m vi vo (aY.set i (a,b)) LI LO/\M (λj=>j=gt) w ((w.setCell ⟨gt,i*2,Y⟩ a).setCell ⟨gt,i*2+1,Y⟩ b):=by
 obtain⟨p1,p2⟩:=JcS h.txs hi a b;have Hl:∀j cs aY m,w.heap[j]? =Z (T cs aY m)->aY ≠ 98->¬j=gt:=λj cs aY m hr hT e=>by
  rw[e,h.txs]at hr;simp at hr;exact hT hr.2.1.symm
 refine⟨⟨(p2.block nb (Jb h.row) (Hl _ _ _ _ h.row (by decide))).trans h.row,p1,h.ins.tch p2 (λj hj e=>?_),h.outs.tch p2 (λj hj e=>?_),h.low⟩,p2⟩
 ·obtain⟨_,_,cs,mm,hr⟩:=h.ins.own j hj;exact Hl j _ _ _ hr (by decide) e
 ·obtain⟨_,_,cs,mm,hr⟩:=h.outs.own j hj;exact Hl j _ _ _ hr (by decide) e
structure Xj(base:Nat)(w:aA)(nb gt n:Nat)(vi vo:aG)(c o:Nat->List VV)(ga gb hb:Nat->Nat)(f:Nat):Prop where
 row:w.heap[nb]? =Z (T #[R (Z ⟨gt,0,Y⟩) (n+8) (n+8),vi,vo] 311)
 txs:w.heap[gt]? =Z (T (Hv ((lD n).map (txE c o ga gb)++(lD 8).map (Ja3 hb))) 98)
 ins:VOwn 96 base w vi ((lD n).map (inV c ga))
 outs:VOwn 22 base w vo ((lD n).map (inV o gb))
 lc:LC base w f n c o ga gb
 rm:∀i,i<8->base<=hb i/\w.heap[hb i]? =Z (T (Hv [behC i]) 49)/\∀j,j<n->ga j<hb i
 low:base<=nb/\base<=gt

theorem JpW(w:aA)(v:aG)(n:Nat)(sl:Nat->Sl×Sl)(c o:Nat->List VV)(hn:n<=1000000)(hB:B<=w.heap.size)(hv:TxV B w v n sl c o):
  aB N 179 #[v] w λe w'=>∃nb gt vi vo ga gb hb,e=aC (X (Z ⟨nb,0,Y⟩))/\Xj w.heap.size w' nb gt n vi vo c o ga gb hb 0/\M D w w':=by
 obtain⟨ia,ic,kG⟩:=hv.shape;subst kG;have HV:J _:=hv;have qZ:=mkV isT (n+8) (by omega) w;have wn:I.wrap ((n:Int)+8)=((n+8:Nat):Int):=by rw[w63 _ (by omega) (by omega)];omega
 generalize zt:n+8=m at *;have HM:J _:=zt;have xM:(m:Int)<=1000008:=by omega
 have HBW:J _:=hB;clear hv zt hB;have qY:J (Lnd w.heap.size ((w.alloc (T (Hv (lC m zT)) 98)).alloc (T #[R (Z ⟨w.heap.size,0,Y⟩) m m,R Y 0 0,R Y 0 0] 311)) (w.heap.size+1) w.heap.size m (R Y 0 0) (R Y 0 0) (lC m zT) [] []):=
  ⟨by have:=Qf (w.alloc (T (Hv (lC m zT)) 98)) (T #[R (Z ⟨w.heap.size,0,Y⟩) m m,R Y 0 0,R Y 0 0] 311);rw[l8]at this;exact this,heap_alloc2_old _ _ _,VOwn.nil _ _ _,VOwn.nil _ _ _,by omega,by omega⟩
 have vt:J (M D w ((w.alloc (T (Hv (lC m zT)) 98)).alloc (T #[R (Z ⟨w.heap.size,0,Y⟩) m m,R Y 0 0,R Y 0 0] 311))):=M.allocs _ _ _ _;go_enter func179,ntmps179;go_wp2;generalize (w.alloc (T (Hv (lC m zT)) 98)).alloc (T #[R (Z ⟨w.heap.size,0,Y⟩) m m,R Y 0 0,R Y 0 0] 311)=w0 at *;go_loopw [4,5,6] (λi _ _ wr=>∃(k:Nat)(vi vo:aG)(ga gb:Nat->Nat),k<=n/\i=O I (k:Int)/\J (Lnd w.heap.size wr (w.heap.size+1) w.heap.size m vi vo ((lD k).map (txE c o ga gb)++lC (m-k) zT) ((lD k).map (inV c ga)) ((lD k).map (inV o gb)))/\J (LC w.heap.size wr 0 k c o ga gb)/\J (M D w wr)) (λi _ _ _=>n-(intOf i).toNat)
 case atStart=>exact⟨0,_,_,λ_=>0,λ_=>0,by omega,rfl,qY,⟨λi _ h=>absurd h (by omega),λi _ h=>absurd h (by omega),λi j _ h=>absurd h (by omega),λi j _ h=>absurd h (by omega)⟩,vt⟩
 case round=>
  clear qZ;obtain⟨k,vi,vo,ga,gb,hk,rfl,HL,HC,HT⟩:=hrel;obtain⟨ya,yn,yc,rfl⟩:=HL.ins.shape3;obtain⟨za,zn,zc,rfl⟩:=HL.outs.shape3
  by_cases H7:k<n
  ·have kj:(k:Int)<(n:Int):=(by omega);obtain⟨gi,oi,rfl,dN,kp,f0,f1⟩:=HV.cell k H7;obtain⟨l1,l2⟩:=HV.lens k H7;obtain⟨v1,s1,b1⟩:=HV.ins k H7;obtain⟨v2,s2,b2⟩:=HV.outs k H7;unfold sV1 at f0 f1 v1 v2;rw[l1]at f0 v1;rw[l2]at f1 v2;generalize (sl k).1.1=a1 at *;generalize (sl k).1.2.2=c1 at *;generalize (sl k).2.1=a2 at *;generalize (sl k).2.2.2=c2 at *;have HLC:J (∀V,M D w V->_):=λV hV=>Jhp V _ (c k) b1 (v1.tch hV (λ_ e=>e.elim)) s1;have tJ:J (∀V,M D w V->_):=λV hV=>JdU V _ (o k) b2 (v2.tch hV (λ_ e=>e.elim)) s2;have kX:J (∀V S,M S w V->(∀j,S j->w.heap.size<=j)->V.cell? ⟨gi,oi+k*2,Y⟩=Z (R a1 (c k).length c1)/\V.cell? ⟨gi,oi+k*2+1,Y⟩=Z (R a2 (o k).length c2)):=λV S hV hS=>by
    have my:¬S gi:=λe=>by have:=hS gi e;omega
    exact⟨(hV.cell (p:=⟨gi,oi+k*2,Y⟩) kp my).trans f0,(hV.cell (p:=⟨gi,oi+k*2+1,Y⟩) kp my).trans f1⟩
   have HIV:J (∀g,inV c (upd ga k g) k=R (Z ⟨g,0,Y⟩) ((c k).length+8) ((c k).length+8)):=λg=>by unfold inV;rw[Jaa]
   have HIO:J (∀g,inV o (upd gb k g) k=R (Z ⟨g,0,Y⟩) ((o k).length+8) ((o k).length+8)):=λg=>by unfold inV;rw[Jaa]
   have fp:J (∀g g',txE c o (upd ga k g) (upd gb k g') k=(R (Z ⟨g,0,Y⟩) (c k).length ((c k).length+8),R (Z ⟨g',0,Y⟩) (o k).length ((o k).length+8))):=λg g'=>by unfold txE;rw[Jaa,Jaa]
   clear l1 l2 v1 s1 v2 s2 f0 f1;generalize hlc:(c k).length=lc at *;generalize hlo:(o k).length=lo at *;generalize qB:lc+8=xf at *;generalize qS:lo+8=yA at *;have hlc8:(lc:Int)<=(xf:Int):=(by omega);have hlo8:(lo:Int)<=(yA:Int):=(by omega);clear hlc hlo qB qS;obtain⟨x0,x1⟩:=kX wr _ HT (λ_ e=>e.elim);go_wp2_with fail;refine(HLC wr HT).mono ?_;rintro _ w1⟨g1,rfl,nv,kK,(uX:J _)⟩;have H5:J _:=HT.go uX;have bY:J (wr.heap.size<=g1/\w1.heap[g1]? =Z (T (Hv (c k++Jad)) 49)):=⟨nv,kK⟩
   clear x0 x1 nv kK;obtain⟨x0,x1⟩:=kX w1 _ H5 (λ_ e=>e.elim);go_wp2_with fail;refine(tJ w1 H5).mono ?_;rintro _ w2⟨g2,rfl,sV,Hw,(uY:J _)⟩;have H6:J _:=H5.go uY;have sW:J (w1.heap.size<=g2/\w2.heap[g2]? =Z (T (Hv (o k++YM)) 80)):=⟨sV,Hw⟩
   have rz:J _:=(HL.tch0 uX).tch0 uY;clear x0 x1 sV Hw;have HGA:J (∀i,i<k->ga i<wr.heap.size/\gb i<wr.heap.size):=λi hi=>⟨(QJ.1 (HC.rowC i (by omega) hi).2).1,(QJ.1 (HC.rowO i (by omega) hi).2).1⟩
   obtain⟨W3,(pA:J _)⟩:∃W3,W3=w2.alloc (T #[R (Z ⟨g1,0,Y⟩) xf xf] 96):=⟨_,rfl⟩
   have t3:M D w2 W3:=(by rw[pA];exact Ta _ _ _);have HC3:J (W3.cell? ⟨w2.heap.size,0,Y⟩=Z (R (Z ⟨g1,0,Y⟩) xf xf)):=(by show _=_;rw[pA];exact Ja (Qf _ _));have vN:J _:=rz.tch0 t3;have Hb:J _:=H6.go t3;have HLC3:J (LC w.heap.size W3 0 (k+1) c o (upd ga k g1) (upd gb k g2)):=by
    have hs:=HT.o.size;have xt:=uX.o.size;have h1:=bY.o;have h2:=sW.o;have tA:=(uX.go uY).go t3;have tB:=uY.go t3;refine(HC.tch tA (λ_ _ _ _ e=>e)).more ⟨by omega,(tB.block g1 (Jb h1.2) (λe=>e)).trans h1.2⟩ ⟨by omega,(t3.block g2 (Jb h2.2) (λe=>e)).trans h2.2⟩ (λi hi=>?_) (λi hi=>?_)
    ·have:=(HGA i hi).1;omega
    ·have:=(HGA i hi).2;omega
   obtain⟨-,q1⟩:=rows rz.o.row;clear t3;go_upto_region 8 with(at_builtin;rw[<-pA.o];refine Yv Jp3 rfl _ _ rfl rfl vN.ins _ _ rfl HC3 rfl (by simp;omega) Hb.size ?_;intro v4 w4 tP nw ho4;obtain⟨ea,en,ec,rfl⟩:=tP.shape3;obtain⟨r0,r1,(HL5:J _),(kD:J _)⟩:=vN.app1 tP nw;clear tP nw ho4);generalize w4.setCell ⟨w.heap.size+1,1,Y⟩ (R ea en ec)=w5 at *;have HLC5:J _:=HLC3.tch kD (λj cs mm hj e=>by
    rcases e with rfl|e
    ·rcases hj with hj|hj<;>(rw[vN.o.row]at hj;simp at hj)
    ·obtain⟨_,_,_,_,hr⟩:=vN.ins.own j e
     rcases hj with hj|hj<;>(rw[hr]at hj;simp at hj))
   have HTW5:J _:=Hb.trans kD (λj hj=>aN (by
    rcases hj with rfl|hj
    ·omega
    ·exact(vN.ins.own j hj).1))
   clear r0 r1 q1;obtain⟨W6,(sX:J _)⟩:∃W6,W6=w5.alloc (T #[R (Z ⟨g2,0,Y⟩) yA yA] 22):=⟨_,rfl⟩
   have t6:M D w5 W6:=(by rw[sX];exact Ta _ _ _);have HC6:J (W6.cell? ⟨w5.heap.size,0,Y⟩=Z (R (Z ⟨g2,0,Y⟩) yA yA)):=(by show _=_;rw[sX];exact Ja (Qf _ _));have fs:J _:=HL5.tch0 t6;have kz:J _:=HTW5.go t6;have HLC6:J _:=HLC5.tch t6 (λ_ _ _ _ e=>e);obtain⟨-, -,q1⟩:=rows HL5.o.row;clear t6;go_upto_region 9 with(at_builtin;rw[<-sX.o];refine Yv Jp5 rfl _ _ rfl rfl fs.outs _ _ rfl HC6 rfl (by simp;omega) kz.size ?_;intro v7 w7 hv7 ft ho7;obtain⟨fa,fn,fc,rfl⟩:=hv7.shape3;obtain⟨r0,r1,(fu:J _),(gW:J _)⟩:=fs.app2 hv7 ft;clear hv7 ft ho7);generalize w7.setCell ⟨w.heap.size+1,2,Y⟩ (R fa fn fc)=w8 at *;have HLC8:J _:=HLC6.tch gW (λj cs mm hj e=>by
    rcases e with rfl|e
    ·rcases hj with hj|hj<;>(rw[fs.o.row]at hj;simp at hj)
    ·obtain⟨_,_,_,_,hr⟩:=fs.outs.own j e
     rcases hj with hj|hj<;>(rw[hr]at hj;simp at hj))
   have fx:J _:=kz.trans gW (λj hj=>aN (by
    rcases hj with rfl|hj
    ·omega
    ·exact(fs.outs.own j hj).1))
   clear r0 r1 q1;have js:J (k<((lD k).map (txE c o ga gb)++lC (m-k) zT).length):=by show k<lG _;rw[Qe,QM,lE,lF];have:=HM.o;omega
   obtain⟨(Hx:J _),(kF:J _)⟩:=fu.put js (R (Z ⟨g1,0,Y⟩) lc xf) (R (Z ⟨g2,0,Y⟩) lo yA);obtain⟨x0,x1⟩:=kX w8 _ fx (λ_ e=>e.elim);obtain⟨x2, -⟩:=rows fu.o.row;have vu:J _:=fx.o.trans kF (λj hj=>aN (by rw[hj];exact Ql _));have fz:=Zf fu.o.txs;obtain⟨z0,z1⟩:=Xp fu.o.txs zT (i:=k) (by
    rw[Qz (by simp),QM,lE,lJ,lS,if_pos (by have:=HM.o;omega)])
   have hkm:(k:Int)<(m:Int):=(by have:=HM.o;omega);obtain⟨y0,y1⟩:=kX.o _ _ vu.o (λ_ e=>e.elim);have y2:=cell_of_row _ _ 0 _ _ _ Hx.o.row;simp only[lM,lI]at y2;go_region_held3 (λV=>V.cell? ⟨w.heap.size+1,0,Y⟩=Z (R (Z ⟨w.heap.size,0,Y⟩) m m)/\V.cell? ⟨gi,oi+k*2,Y⟩=Z (R a1 lc c1)/\V.cell? ⟨gi,oi+k*2+1,Y⟩=Z (R a2 lo c2)) (go_keep) (fail);clear x0 x1 x2;go_wp2;go_roundw
   case rel=>
    refine⟨k+1,R ea en ec,R fa fn fc,upd ga k g1,upd gb k g2,by omega,by go_num,?_,HLC8.o.tch (kF.o.dr 1) (λj cs mm hj e=>by
     subst e
     rcases hj with hj|hj<;>(rw[fu.o.txs]at hj;simp at hj)),vu.o.dr 1⟩
    have e1:(lD (k+1)).map (txE c o (upd ga k g1) (upd gb k g2))++lC (m-(k+1)) zT=((lD k).map (txE c o ga gb)++lC (m-k) zT).set k (R (Z ⟨g1,0,Y⟩) lc xf,R (Z ⟨g2,0,Y⟩) lo yA):=(by rw[Jbl (f:=txE c o ga gb) (λi hi=>by unfold txE;rw[YT hi,YT hi]),fp.o,lH _ _ (by simp),QM,lE,lJ,show m-k=(m-(k+1))+1 by have:=HM.o;omega,lU,Qb,Qs];rfl);rw[e1,Jbl (f:=inV c ga) (λi hi=>by unfold inV;rw[YT hi]),HIV.o,Jbl (f:=inV o gb) (λi hi=>by unfold inV;rw[YT hi]),HIO.o];exact Hx.o.tch0 (Td _ _ 1)
   case measure=>simp[intOf];omega
  ·obtain rfl:k=n:=(by omega);have jA:¬(k:Int)<(k:Int):=(by omega);have hm8:m-k=8:=(by have:=HM.o;omega);rw[hm8]at HL;clear hm8;go_wp2;have HB:J (∀(i:Nat) V,i<8->aB N 265 #[O I (i:Int)] V λe w'=>e=aC (aH #[L jf,O I (-(i:Int)-1)])/\M D V w'):=λi V hk=>by
    have:=YO (i:Int) V;rw[show wrap64 (wrap64 (-(i:Int))-1)= -(i:Int)-1 by unfold wrap64;omega]at this;exact this
   go_loopw [7] (λi wx=>∃(q:Nat)(hb:Nat->Nat),q<=8/\i=O I (q:Int)/\J (Lnd w.heap.size wx (w.heap.size+1) w.heap.size m (R ya yn yc) (R za zn zc) ((lD k).map (txE c o ga gb)++(lD q).map (Ja3 hb)++lC (8-q) zT) ((lD k).map (inV c ga)) ((lD k).map (inV o gb)))/\J (LC w.heap.size wx 0 k c o ga gb)/\J (∀i,i<q->w.heap.size<=hb i/\wx.heap[hb i]? =Z (T (Hv [behC i]) 49)/\∀j,j<k->ga j<hb i)/\J (M D w wx)) (λi _=>8-(intOf i).toNat)
   case atStart=>exact⟨0,λ_=>0,by omega,rfl,by show Lnd _ _ _ _ _ _ _ _ _ _;simpa using HL.o,HC.o,λi hi=>absurd hi (by omega),HT.o⟩
   case round=>
    clear HL HC HT;obtain⟨q,hb,hq,rfl,HL,HC,HRM,HT⟩:=hrel
    by_cases hq8:q<8
    ·have hqi:(q:Int)<8:=(by omega);obtain⟨p,hp⟩:∃p:Nat,k+q=p:=⟨_,rfl⟩
     have wq:I.wrap ((k:Int)+(q:Int))=(p:Int):=(by rw[w63 _ (by omega) (by omega)];omega);have bZ:(p:Int)<(m:Int):=(by have:=HM.o;omega);have HP:J (k+q=p):=hp;have sS:J (∀V,aB N 265 #[O I (q:Int)] V λe w'=>e=aC (aH #[L jf,O I (-(q:Int)-1)])/\M D V w'):=λV=>HB.o q V hq8;have HTq:J (((lD k).map (txE c o ga gb)++(lD q).map (Ja3 hb)++lC (8-q) zT)[p]? =Z zT):=(by show _=_;rw[Qz (by simp;omega),lS,if_pos (by simp;omega)]);obtain⟨z,hz⟩:∃z:Int, -(q:Int)-1=z:=⟨_,rfl⟩
     rw[hz]at sS;have HZ:J (-(q:Int)-1=z):=hz;have dP:J (∀V,M D wr V->V.cell? ⟨w.heap.size+1,0,Y⟩=Z (R (Z ⟨w.heap.size,0,Y⟩) m m)/\V.cell? ⟨w.heap.size,p*2,Y⟩=Z (R Y 0 0)/\V.cell? ⟨w.heap.size,p*2+1,Y⟩=Z (R Y 0 0)/\(∀j,V.frozen? ⟨w.heap.size,j,Y⟩=false)/\∀A,((V.setCell ⟨w.heap.size,p*2,Y⟩ A).setCell ⟨w.heap.size,p*2+1,Y⟩ (R Y 0 0)).cell? ⟨w.heap.size+1,0,Y⟩=Z (R (Z ⟨w.heap.size,0,Y⟩) m m)):=λV hV=>by
      have h1:=HL.o.tch0 hV;obtain⟨g0,g1⟩:=Xp h1.txs zT HTq.o;exact⟨Ja h1.row,g0,g1,Zf h1.txs,λA=>Ja (h1.put (Qo.1 HTq.o).1 A (R Y 0 0)).1.row⟩
     obtain⟨x0,x1,x2,x3,_⟩:=dP.o wr (Te _ _);clear hz hp;go_upto_region 13 with fail;go_region_held3 (λV=>V.cell? ⟨w.heap.size+1,0,Y⟩=Z (R (Z ⟨w.heap.size,0,Y⟩) m m)) (go_keep) ((go_at_call 265;refine(sS.o _).mono ?_;rintro _ w2⟨rfl,Ha⟩;have H6:J (M D wr w2):=(Td D wr 1).go Ha;obtain⟨y0,_⟩:=dP.o w2 H6.o;obtain⟨u0,u1,u2,u3,u4⟩:=dP.o (w2.alloc (T #[L jf,O I z] 49)) (H6.o.go (Ta _ _ _));have u5:=u4 (R (Z ⟨w2.heap.size,0,Y⟩) 1 1);clear Ha u4))
     all_goals
      go_wp2;go_roundw
      case rel=>
       have t3:M D wr (w2.alloc (T #[L jf,O I z] 49)):=H6.o.go (Ta _ _ _);obtain⟨e1,e2⟩:=(HL.o.tch0 t3).put (Qo.1 HTq.o).1 (R (Z ⟨w2.heap.size,0,Y⟩) 1 1) (R Y 0 0);have hgt:=(Jb HL.o.txs)
       have kZ:=H6.o.size;refine⟨q+1,upd hb q w2.heap.size,by omega,by go_num,?_,(HC.o.tch t3 (λ_ _ _ _ e=>e)).tch e2 (λj cs mm hj e=>by
        subst e
        rcases hj with hj|hj<;>(rw[(HL.o.tch0 t3).txs]at hj;simp at hj)),λi hi=>?_,(HT.o.go t3).trans e2 (λj hj=>aN (by rw[hj];exact Ql _))⟩
       ·have e3:(lD k).map (txE c o ga gb)++(lD (q+1)).map (Ja3 (upd hb q w2.heap.size))++lC (8-(q+1)) zT=((lD k).map (txE c o ga gb)++(lD q).map (Ja3 hb)++lC (8-q) zT).set p (R (Z ⟨w2.heap.size,0,Y⟩) 1 1,R Y 0 0):=by
         have h2:=HP.o;rw[Jbl (f:=Ja3 hb) (λi hi=>by unfold Ja3;rw[YT hi]),lH _ _ (by simp;omega),show 8-q=(8-(q+1))+1 by omega,lU,show p-((lD k).map (txE c o ga gb)++(lD q).map (Ja3 hb)).length=0 by simp;omega,Qb];unfold Ja3;rw[Jaa];simp
        rw[e3];exact e1
       ·by_cases ei:i=q
        ·subst ei;rw[Jaa];refine⟨by omega,?_,λj hj=>?_⟩
         ·rw[e2.block _ (by rw[l8];omega) (by omega),Qf,<-HZ.o];rfl
         ·have:=(QJ.1 (HC.o.rowC j (by omega) hj).2).1;omega
        ·rw[YT (by omega)];obtain⟨f1,f2,f3⟩:=HRM.o i (by omega);refine⟨f1,?_,f3⟩;have f4:=(t3.block _ (Jb f2) (λe=>e)).trans f2;refine(e2.block _ (Jb f4) (λe=>?_)).trans f4;rw[e,(HL.o.tch0 t3).txs]at f4;simp at f4
      case measure=>simp[intOf];omega
    ·obtain rfl:q=8:=(by omega);have jA:¬((8:Nat):Int)<8:=(by omega);go_wp2;go_ret;have h1:=HL.o;rw[<-HM.o]at h1;simp only[lJ,lQ,QC]at h1;exact⟨_,rfl,⟨_,_,_,ga,gb,hb,h1.row,h1.txs,h1.ins,h1.outs,HC.o,HRM.o,h1.low⟩,HT.o⟩

section
variable {base:Nat}{w w':aA}{nb gt n:Nat}{vi vo:aG}{c o:Nat->List VV}{ga gb hb:Nat->Nat}{k:Nat}
theorem Xj.tch0(h:Xj base w nb gt n vi vo c o ga gb hb f)(t:M D w w'):Xj base w' nb gt n vi vo c o ga gb hb f:=
 ⟨(t.block _ (Jb h.row) (λe=>e)).trans h.row,(t.block _ (Jb h.txs) (λe=>e)).trans h.txs,h.ins.tch t (λ_ _ e=>e),h.outs.tch t (λ_ _ e=>e),h.lc.tch t (λ_ _ _ _ e=>e),λi hi=>⟨(h.rm i hi).1,(t.block _ (QJ.1 (h.rm i hi).2.1).1 (λe=>e)).trans (h.rm i hi).2.1,(h.rm i hi).2.2⟩,h.low⟩
theorem Xj.step(h:Xj base w nb gt n vi vo c o ga gb hb k)(hk:k<n)(t:M (λj=>j=ga k\/j=gb k) w w'):Xj base w' nb gt n vi vo c o ga gb hb (k+1):=by
 have r1:=(h.lc.rowC k (Ql _) hk).2;have r2:=(h.lc.rowO k (Ql _) hk).2;have ne:∀{j:Nat} {cs:Array aG} {aY:TypeId} {m:Nat×Nat},w.heap[j]? =Z (T cs aY m)->aY ≠ 49->aY ≠ 80->¬(j=ga k\/j=gb k):=λhr h1 h2 e=>by
  rcases e with rfl|rfl
  ·rw[r1]at hr;simp at hr;exact h1 hr.2.1.symm
  ·rw[r2]at hr;simp at hr;exact h2 hr.2.1.symm
 have keep:∀{j:Nat} {cs:Array aG} {aY:TypeId} {m:Nat×Nat},w.heap[j]? =Z (T cs aY m)->¬(j=ga k\/j=gb k)->w'.heap[j]? =Z (T cs aY m):=λhr hn=>(t.block _ (Jb hr) hn).trans hr;refine⟨keep h.row (ne h.row (by decide) (by decide)),keep h.txs (ne h.txs (by decide) (by decide)),h.ins.tch t (λj hj=>?_),h.outs.tch t (λj hj=>?_),⟨λi h1 h2=>?_,λi h1 h2=>?_,h.lc.incC,h.lc.incO⟩,λi hi=>⟨(h.rm i hi).1,keep (h.rm i hi).2.1 (λe=>?_),(h.rm i hi).2.2⟩,h.low⟩
 ·obtain⟨_,_,cs,m,hr⟩:=h.ins.own j hj;exact ne hr (by decide) (by decide)
 ·obtain⟨_,_,cs,m,hr⟩:=h.outs.own j hj;exact ne hr (by decide) (by decide)
 ·obtain⟨g1,g2⟩:=h.lc.rowC i (by omega) h2;refine⟨g1,keep g2 (λe=>?_)⟩
  rcases e with e|e
  ·have:=h.lc.incC k i (by omega) h2;omega
  ·rw[e,r2]at g2;simp at g2
 ·obtain⟨g1,g2⟩:=h.lc.rowO i (by omega) h2;refine⟨g1,keep g2 (λe=>?_)⟩
  rcases e with e|e
  ·rw[e,r1]at g2;simp at g2
  ·have:=h.lc.incO k i (by omega) h2;omega
 ·rcases e with e|e
  ·have:=(h.rm i hi).2.2 k hk;omega
  ·have h3:=(h.rm i hi).2.1;rw[e,r2]at h3;simp at h3
end
theorem JpV{hb:Nat->Nat}(hA:Xj base w nb gt n vi vo c o ga gb hb 0)(hv:TxV B w v n sl c o)(hB:B<=base)(hn:n<=1000000):
  aB N 181 #[X (Z ⟨nb,0,Y⟩),v] w λe w'=>e=aC (aL true)/\M (λj=>base<=j) w w':=by
 obtain⟨ia,ic,kG⟩:=hv.shape;subst kG;have HV:J (TxV B w (R ia n ic) n sl c o):=hv;have HA:J (Xj base w nb gt n vi vo c o ga gb hb 0):=hA;have zJ:J (B<=base):=hB;obtain⟨va,vc,hvi⟩:=hA.ins.shape;obtain⟨oa,oc,hvo⟩:=hA.outs.shape;rw[QM,lE]at hvi hvo;subst hvi;subst hvo;clear hv hA hB;obtain⟨m,hm⟩:∃m:Nat,n+8=m:=⟨_,rfl⟩
 have HM:J (n+8=m):=hm;have gL:J (∀V f,Xj base V nb gt n (R va n vc) (R oa n oc) c o ga gb hb f->V.cell? ⟨nb,0,Y⟩=Z (R (Z ⟨gt,0,Y⟩) m m)/\V.cell? ⟨nb,1,Y⟩=Z (R va n vc)/\V.cell? ⟨nb,2,Y⟩=Z (R oa n oc)):=λV f h=>by
  rw[<-hm];exact⟨Ja h.row,Ja h.row,Ja h.row⟩
 have bN:(n:Int)+8=(m:Int):=by omega
 clear hm;go_enter func181,ntmps181;go_wp2;go_loopw [5,6,7,8,9,10,11] (λok i _ _ _ _ _ wr=>∃k:Nat,k<=n/\ok=aL true/\i=O I (k:Int)/\J (Xj base wr nb gt n (R va n vc) (R oa n oc) c o ga gb hb k)/\J (M (λj=>base<=j) w wr)) (λ_ i _ _ _ _ _ _=>n-(intOf i).toNat)
 case atStart=>exact⟨0,by omega,rfl,rfl,HA,Te _ _⟩
 case round=>
  obtain⟨k,hk,rfl,rfl,HL,HT⟩:=hrel
  by_cases H7:k<n
  ·have kj:(k:Int)<(n:Int):=(by omega);have hkm:(k:Int)<(m:Int):=(by omega);obtain⟨gi,oi,rfl,dN,kp,f0,f1⟩:=HV.cell k H7;obtain⟨l1,l2⟩:=HV.lens k H7;obtain⟨v1,s1,b1⟩:=HV.ins k H7;obtain⟨v2,s2,b2⟩:=HV.outs k H7;unfold sV1 at f0 f1 v1 v2;rw[l1]at f0 v1;rw[l2]at f1 v2;generalize (sl k).1.1=a1 at *;generalize (sl k).1.2.2=c1 at *;generalize (sl k).2.1=a2 at *;generalize (sl k).2.2.2=c2 at *;have kX:J (∀V,M (λj=>base<=j) w V->V.cell? ⟨gi,oi+k*2,Y⟩=Z (R a1 (c k).length c1)/\V.cell? ⟨gi,oi+k*2+1,Y⟩=Z (R a2 (o k).length c2)):=λV hV=>by
    have my:¬base<=gi:=(by have:=zJ.o;omega);exact⟨(hV.cell (p:=⟨gi,oi+k*2,Y⟩) kp my).trans f0,(hV.cell (p:=⟨gi,oi+k*2+1,Y⟩) kp my).trans f1⟩
   have HLK:J (∀V,Xj base V nb gt n (R va n vc) (R oa n oc) c o ga gb hb k->V.cell? ⟨gt,k*2,Y⟩=Z (R (Z ⟨ga k,0,Y⟩) (c k).length ((c k).length+8))/\V.cell? ⟨gt,k*2+1,Y⟩=Z (R (Z ⟨gb k,0,Y⟩) (o k).length ((o k).length+8))):=λV h=>Xp h.txs (txE c o ga gb k) (by
    rw[QF (by simp;exact H7),lO,lK H7];rfl)
   have pg:J (∀V f,Xj base V nb gt n (R va n vc) (R oa n oc) c o ga gb hb f->(∃gv,va=Z ⟨gv,0,Y⟩/\V.cell? ⟨gv,k,Y⟩=Z (inV c ga k))/\(∃hu,oa=Z ⟨hu,0,Y⟩/\V.cell? ⟨hu,k,Y⟩=Z (inV o gb k))):=λV f h=>by
    obtain⟨gv,gc,ev,_,ay⟩:=h.ins.at k _ (by rw[lO,lK H7];rfl);obtain⟨hu,huc,eu,_,hcu⟩:=h.outs.at k _ (by rw[lO,lK H7];rfl);simp only[Qy,QM,lE]at ev eu;exact⟨⟨gv,ev.1,ay⟩,hu,eu.1,hcu⟩
   obtain⟨⟨gv,rfl,_⟩,hu,rfl,_⟩:=pg wr _ HL.o;have xG:J (∀V f,Xj base V nb gt n (R (Z ⟨gv,0,Y⟩) n vc) (R (Z ⟨hu,0,Y⟩) n oc) c o ga gb hb f->V.cell? ⟨gv,k,Y⟩=Z (inV c ga k)/\V.cell? ⟨hu,k,Y⟩=Z (inV o gb k)):=λV f h=>by
    obtain⟨⟨g1,e1,h1⟩,g2,e2,h2⟩:=pg V f h
    cases e1
    cases e2
    exact⟨h1,h2⟩
   have HBC:J (∀V,M (λj=>base<=j) w V->Xj base V nb gt n (R (Z ⟨gv,0,Y⟩) n vc) (R (Z ⟨hu,0,Y⟩) n oc) c o ga gb hb k->aB N 267 #[R (Z ⟨ga k,0,Y⟩) ((c k).length+8) ((c k).length+8),R a1 (c k).length c1] V λe w'=>e=aC (aL true)/\w'.heap[ga k]? =Z (T (Hv (lC ((c k).length+8) qC)) 49)/\M (λj=>j=ga k) V w'):=λV hV h=>Jho V (ga k) _ (c k) b1 (v1.tch hV (λj hj=>Qm zJ hj)) (Qm zJ (h.lc.rowC k (Ql _) H7).1) s1 (h.lc.rowC k (Ql _) H7).2;have zu:J (∀V,M (λj=>base<=j) w V->V.heap[gb k]? =Z (T (Hv (o k++YM)) 80)->aB N 64 #[R (Z ⟨gb k,0,Y⟩) ((o k).length+8) ((o k).length+8),R a2 (o k).length c2] V λe w'=>e=aC (aL true)/\w'.heap[gb k]? =Z (T (Hv (lC ((o k).length+8) qO)) 80)/\M (λj=>j=gb k) V w'):=λV hV h=>JdT V (gb k) _ (o k) b2 (v2.tch hV (λj hj=>Qm zJ hj)) (Qm zJ (HL.lc.rowO k (Ql _) H7).1) s2 h;have yl:J (∀V,Xj base V nb gt n (R (Z ⟨gv,0,Y⟩) n vc) (R (Z ⟨hu,0,Y⟩) n oc) c o ga gb hb k->(∃cs,V.heap[ga k]? =Z (T cs 49))/\V.heap[gb k]? =Z (T (Hv (o k++YM)) 80)):=λV h=>⟨⟨_,(h.lc.rowC k (Ql _) H7).2⟩,(h.lc.rowO k (Ql _) H7).2⟩
   have tJ:J (base<=ga k/\base<=gb k):=⟨(HL.lc.rowC k (Ql _) H7).1,(HL.lc.rowO k (Ql _) H7).1⟩
   have jW:J (∀V V',Xj base V nb gt n (R (Z ⟨gv,0,Y⟩) n vc) (R (Z ⟨hu,0,Y⟩) n oc) c o ga gb hb k->M (λj=>j=ga k\/j=gb k) V V'->Xj base V' nb gt n (R (Z ⟨gv,0,Y⟩) n vc) (R (Z ⟨hu,0,Y⟩) n oc) c o ga gb hb (k+1)):=λV V' h t=>h.step H7 t;unfold inV at xG;clear l1 l2 v1 s1 v2 s2 f0 f1 pg kp dN;generalize (c k).length=lc at *;generalize (o k).length=lo at *;generalize qB:lc+8=xf at *;generalize qS:lo+8=yA at *;have hlc8:(lc:Int)<=(xf:Int):=(by omega);have hlo8:(lo:Int)<=(yA:Int):=(by omega);have hlc9:lc<=xf:=(by omega);have hlo9:lo<=yA:=(by omega);clear qB qS;obtain⟨gA,hgA⟩:∃g,ga k=g:=⟨_,rfl⟩
   obtain⟨gB,dN⟩:∃g,gb k=g:=⟨_,rfl⟩
   rw[hgA]at HLK xG HBC yl tJ jW;rw[dN]at HLK xG zu yl tJ jW;clear hgA dN;obtain⟨r0,r1,r2⟩:=gL wr _ HL.o;obtain⟨t0,t1⟩:=HLK wr HL.o;go_upto_region 6 with fail;obtain⟨W1,ph⟩:∃W1,W1=wr.alloc (T #[R (Z ⟨gA,0,Y⟩) lc xf,R (Z ⟨gB,0,Y⟩) lo yA] 98):=⟨_,rfl⟩
   rw[<-ph];have tw:=yh ph;have yx:J (W1.heap[wr.heap.size]? =Z (T #[R (Z ⟨gA,0,Y⟩) lc xf,R (Z ⟨gB,0,Y⟩) lo yA] 98)):=(by show _=_;rw[ph];exact Qf _ _);have rx:J (Xj _ W1 _ _ _ _ _ _ _ _ _ _ _):=HL.tch0 tw;have H5:J (M (λj=>base<=j) w W1):=HT.go tw;have xz:J (base<=wr.heap.size):=Nat.le_of_lt (Nat.lt_of_le_of_lt HL.low.1 (Jb HL.row));clear ph tw r0 r1 r2 t0 t1;generalize wr.heap.size=xb at *;obtain⟨p0,p1⟩:=kX W1 H5.o;have x0:=cell_of_row W1 xb 0 _ _ _ yx.o;have x1:=cell_of_row W1 xb 1 _ _ _ yx.o;simp only[lM,lI,lR]at x0 x1;go_cut [5] (λv5 wy=>v5=aL true/\J (M D W1 wy))
   case first=>
    go_region_held3 (λV=>V.cell? ⟨xb,0,Y⟩=Z (R (Z ⟨gA,0,Y⟩) lc xf)/\V.cell? ⟨xb,1,Y⟩=Z (R (Z ⟨gB,0,Y⟩) lo yA)/\V.cell? ⟨gi,oi+k*2,Y⟩=Z (R a1 lc c1)/\V.cell? ⟨gi,oi+k*2+1,Y⟩=Z (R a2 lo c2)) (go_keep) (fail)
    all_goals go_wp2;go_meet;exact⟨rfl,Td _ _ 1⟩
   case rest=>
   obtain⟨rfl,ry⟩:=hcut;obtain⟨w2,xd⟩:∃w2,w2=wc:=⟨wc,rfl⟩
   subst xd;have rz:J (Xj _ w2 _ _ _ _ _ _ _ _ _ _ _):=rx.tch0 ry.o;have H6:J (M (λj=>base<=j) w w2):=H5.go ry.o;have vy:J (w2.heap[xb]? =Z (T #[R (Z ⟨gA,0,Y⟩) lc xf,R (Z ⟨gB,0,Y⟩) lo yA] 98)):=(ry.block _ (Jb yx) (λe=>e)).trans yx.o;clear p0 p1 x0 x1 ry rx H5 yx;obtain⟨p0,p1⟩:=kX w2 H6.o;obtain⟨r0,r1,r2⟩:=gL w2 _ rz.o;obtain⟨i1,i2⟩:=xG w2 _ rz.o;have jm:J (∀V,M (λj=>j=gA) w2 V->(V.cell? ⟨nb,1,Y⟩=Z (R (Z ⟨gv,0,Y⟩) n vc)/\V.cell? ⟨gv,k,Y⟩=Z (R (Z ⟨gA,0,Y⟩) xf xf)/\V.cell? ⟨gi,oi+k*2,Y⟩=Z (R a1 lc c1))/\V.heap[xb]? =Z (T #[R (Z ⟨gA,0,Y⟩) lc xf,R (Z ⟨gB,0,Y⟩) lo yA] 98)/\V.heap[gB]? =Z (T (Hv (o k++YM)) 80)):=λV hV=>by
    have h1:=jW w2 V rz (hV.mono (λj hj=>aM (aM hj)));obtain⟨⟨cs,ra⟩,rb⟩:=yl w2 rz.o;have ne:∀{j:Nat} {cs:Array aG} {aY:TypeId} {m:Nat×Nat},w2.heap[j]? =Z (T cs aY m)->aY ≠ 49->¬j=gA:=λhr h1 e=>by
     rw[e,ra]at hr;simp at hr;exact h1 hr.2.1.symm
    exact⟨⟨(gL V _ h1).2.1,(xG V _ h1).1,(kX V (H6.trans hV (λj hj=>aM (by rw[hj];exact tJ.1)))).1⟩,(hV.block _ (Jb vy) (ne vy (by decide))).trans vy,(hV.block _ (Jb rb) (ne rb (by decide))).trans rb⟩
   go_upto_region 7 with fail;go_cut [8] (λv8 wy=>v8=aL true/\J (M (λj=>j=gA) w2 wy)/\J (wy.heap[gA]? =Z (T (Hv (lC xf qC)) 49)))
   case first=>
    go_region_held3 (λV=>V.cell? ⟨nb,1,Y⟩=Z (R (Z ⟨gv,0,Y⟩) n vc)/\V.cell? ⟨gv,k,Y⟩=Z (R (Z ⟨gA,0,Y⟩) xf xf)/\V.cell? ⟨gi,oi+k*2,Y⟩=Z (R a1 lc c1)) (go_keep) ((go_at_call 267;refine(HBC _ (H6.go (Td _ w2 1)) (rz.tch0 (Td _ w2 1))).mono ?_;rintro _ w3⟨rfl,k8,Hs⟩;have Hb:J (M (λj=>j=gA) w2 w3):=((Td D w2 1).mono noE).trans Hs (λ_ h=>aM h);have kw:J (w3.heap[gA]? =_):=k8;obtain⟨⟨y0,y1,y2⟩,_⟩:=jm w3 Hb.o;clear k8 Hs))
    all_goals go_wp2;go_meet;exact⟨rfl,Hb,kw⟩
   case rest=>
   obtain⟨rfl,Hb,kw⟩:=hcut;obtain⟨w3,jw⟩:∃w3,w3=wc:=⟨wc,rfl⟩
   subst jw;clear p0 p1 r0 r1 r2 i1 i2;obtain⟨_,nz,yi⟩:_/\J _/\J _:=jm w3 Hb.o;have vN:J (Xj _ w3 _ _ _ _ _ _ _ _ _ _ (k+1)):=jW w2 w3 rz (Hb.mono (λj hj=>aM (aM hj)));have pi:J (M (λj=>base<=j) w w3):=H6.trans Hb (λj hj=>aM (by rw[hj];exact tJ.1));obtain⟨p0,p1⟩:=kX w3 pi.o;obtain⟨r0,r1,r2⟩:=gL w3 _ vN.o;obtain⟨i1,i2⟩:=xG w3 _ vN.o;have zv:J (∀V,M (λj=>j=gB) w3 V->(V.cell? ⟨nb,2,Y⟩=Z (R (Z ⟨hu,0,Y⟩) n oc)/\V.cell? ⟨hu,k,Y⟩=Z (R (Z ⟨gB,0,Y⟩) yA yA)/\V.cell? ⟨gi,oi+k*2+1,Y⟩=Z (R a2 lo c2))/\V.heap[xb]? =Z (T #[R (Z ⟨gA,0,Y⟩) lc xf,R (Z ⟨gB,0,Y⟩) lo yA] 98)/\V.heap[gA]? =Z (T (Hv (lC xf qC)) 49)/\Xj base V nb gt n (R (Z ⟨gv,0,Y⟩) n vc) (R (Z ⟨hu,0,Y⟩) n oc) c o ga gb hb (k+1)):=λV hV=>by
    have h1:=jW w2 V rz ((Hb.mono (λj hj=>aM (aM hj))).trans hV (λj hj=>aM (aN hj)));have ne:∀{j:Nat} {cs:Array aG} {aY:TypeId} {m:Nat×Nat},w3.heap[j]? =Z (T cs aY m)->aY ≠ 80->¬j=gB:=λhr h1 e=>by
     rw[e,yi.o]at hr;simp at hr;exact h1 hr.2.1.symm
    exact⟨⟨(gL V _ h1).2.2,(xG V _ h1).2,(kX V (pi.trans hV (λj hj=>aM (by rw[hj];exact tJ.2)))).2⟩,(hV.block _ (Jb nz) (ne nz (by decide))).trans nz,(hV.block _ (Jb kw) (ne kw (by decide))).trans kw,h1⟩
   go_upto_region 8 with fail;go_cut [9] (λv9 wy=>v9=aL true/\J (M (λj=>j=gB) w3 wy)/\J (wy.heap[gB]? =Z (T (Hv (lC yA qO)) 80)))
   case first=>
    go_region_held3 (λV=>V.cell? ⟨nb,2,Y⟩=Z (R (Z ⟨hu,0,Y⟩) n oc)/\V.cell? ⟨hu,k,Y⟩=Z (R (Z ⟨gB,0,Y⟩) yA yA)/\V.cell? ⟨gi,oi+k*2+1,Y⟩=Z (R a2 lo c2)) (go_keep) ((go_at_call 64;refine(zu _ (pi.go (Td _ w3 1)) yi).mono ?_;rintro _ w4⟨rfl,jS,Hu⟩;have Hm:J (M (λj=>j=gB) w3 w4):=((Td D w3 1).mono noE).trans Hu (λ_ h=>aM h);have qz:J (w4.heap[gB]? =_):=jS;obtain⟨⟨y0,y1,y2⟩,_⟩:=zv w4 Hm.o;clear jS Hu))
    all_goals go_wp2;go_meet;exact⟨rfl,Hm,qz⟩
   case rest=>
   obtain⟨rfl,Hm,HO4⟩:=hcut;obtain⟨w4,qy⟩:∃w4,w4=wc:=⟨wc,rfl⟩
   subst qy;clear p0 p1 r0 r1 r2 i1 i2;obtain⟨_,fy,HC4,HL4⟩:_/\J _/\J _/\J _:=zv w4 Hm.o;have HTW4:J (M (λj=>base<=j) w w4):=pi.trans Hm (λj hj=>aM (by rw[hj];exact tJ.2));have x0:=cell_of_row w4 xb 0 _ _ _ fy.o;have x1:=cell_of_row w4 xb 1 _ _ _ fy.o;simp only[lM,lI,lR]at x0 x1;go_wp2;go_loopw [5,10] (λok i wx=>∃q:Nat,q<=lc/\ok=aL true/\i=O I (q:Int)/\J (wx=w4)) (λ_ i _=>lc-(intOf i).toNat)
   case atStart=>exact⟨0,by omega,rfl,rfl,by show _=_;rfl⟩
   case round=>
    obtain⟨q,hq,rfl,rfl,HW⟩:=hrel;have hw:=HW.o;subst hw
    by_cases eC:q<lc
    ·have hq2:(q:Int)<(lc:Int):=(by omega);obtain⟨_,g1⟩:=Xp HC4 qC (i:=q) (by rw[lS,if_pos (by omega)]);go_wp2;go_roundw
     case rel=>exact⟨q+1,by omega,rfl,by go_num,trivial⟩
     case measure=>simp[intOf];omega
    ·obtain rfl:q=lc:=(by omega);have jA:¬(q:Int)<(q:Int):=(by omega);go_wp2;go_loopw [5,11] (λok i wx=>∃p:Nat,p<=lo/\ok=aL true/\i=O I (p:Int)/\J (wx=wr)) (λ_ i _=>lo-(intOf i).toNat)
     case atStart=>exact⟨0,by omega,rfl,rfl,by show _=_;rfl⟩
     case round=>
      obtain⟨p,hp,rfl,rfl,jD⟩:=hrel;have hw:=jD.o;subst hw
      by_cases Hy:p<lo
      ·have kV:(p:Int)<(lo:Int):=(by omega);obtain⟨_,g1⟩:=Xp HO4 qO (i:=p) (by rw[lS,if_pos (by omega)]);go_wp2;go_roundw
       case rel=>exact⟨p+1,by omega,rfl,by go_num,trivial⟩
       case measure=>simp[intOf];omega
      ·obtain rfl:p=lo:=(by omega);have hgf:¬(p:Int)<(p:Int):=(by omega);go_wp2;go_roundw
       case rel=>exact⟨k+1,by omega,rfl,by go_num,HL4,HTW4⟩
       case measure=>simp[intOf];omega
  ·obtain rfl:k=n:=(by omega);have jA:¬(k:Int)<(k:Int):=(by omega);go_wp2;have HB:J (∀(i:Nat) V,i<8->aB N 265 #[O I (i:Int)] V λe w'=>e=aC (aH #[L jf,O I (-(i:Int)-1)])/\M D V w'):=λi V hk=>by
    have:=YO (i:Int) V;rw[show wrap64 (wrap64 (-(i:Int))-1)= -(i:Int)-1 by unfold wrap64;omega]at this;exact this
   go_loopw [5,12,13] (λok i _ wx=>∃q:Nat,q<=8/\ok=aL true/\i=O I (q:Int)/\J (Xj base wx nb gt k (R va k vc) (R oa k oc) c o ga gb hb k)/\J (M (λj=>base<=j) w wx)) (λ_ i _ _=>8-(intOf i).toNat)
   case atStart=>exact⟨0,by omega,rfl,rfl,HL,HT⟩
   case round=>
    clear HL HT;obtain⟨q,hq,rfl,rfl,HL,HT⟩:=hrel
    by_cases hq8:q<8
    ·have hqi:(q:Int)<8:=(by omega);obtain⟨p,hp⟩:∃p:Nat,k+q=p:=⟨_,rfl⟩
     have wq:I.wrap ((k:Int)+(q:Int))=(p:Int):=(by rw[w63 _ (by omega) (by omega)];omega);have bZ:(p:Int)<(m:Int):=(by omega);have sS:J (∀V,aB N 265 #[O I (q:Int)] V λe w'=>e=aC (aH #[L jf,O I (-(q:Int)-1)])/\M D V w'):=λV=>HB q V hq8;obtain⟨z,hz⟩:∃z:Int, -(q:Int)-1=z:=⟨_,rfl⟩
     rw[hz]at sS;obtain⟨r0,_⟩:=gL.o wr _ HL.o;obtain⟨t0,t1⟩:=Xp HL.o.txs (Ja3 hb q) (i:=p) (by
      rw[Qz (by simp;omega),QM,lE,show p-k=q by omega,lO,lK hq8];rfl)
     unfold Ja3 at t0 t1;have pP:J (∀V,M D wr V->V.cell? ⟨hb q,0,Y⟩=Z (L jf)/\V.cell? ⟨hb q,1,Y⟩=Z (O I z)):=λV hV=>by
      have:=Xp ((HL.o.tch0 hV).rm q hq8).2.1 (i:=0) (behC q) rfl;unfold behC at this;rw[hz]at this;exact this
     generalize hb q=pj at *;clear hz hp;go_upto_region 22 with fail;obtain⟨W1,ph⟩:∃W1,W1=wr.alloc (T #[R (Z ⟨pj,0,Y⟩) 1 1,R Y 0 0] 98):=⟨_,rfl⟩
     rw[<-ph];have H5:J (M D wr W1):=(by show M _ _ _;rw[ph];exact Ta _ _ _);have HX:J (∀V,M D W1 V->V.cell? ⟨wr.heap.size,0,Y⟩=Z (R (Z ⟨pj,0,Y⟩) 1 1)/\V.cell? ⟨wr.heap.size,1,Y⟩=Z (R Y 0 0)):=λV hV=>by
      have h1:W1.heap[wr.heap.size]? =Z (T #[R (Z ⟨pj,0,Y⟩) 1 1,R Y 0 0] 98):=(by rw[ph];exact Qf _ _);have h2:=(hV.block _ (Jb h1) (λe=>e)).trans h1;exact⟨Ja h2,Ja h2⟩
     clear ph r0 t0 t1;obtain⟨x0,x1⟩:=HX.o W1 (Te _ _);obtain⟨x2,x3⟩:=pP.o W1 H5.o;generalize wr.heap.size=xb at *;go_region_held3 (λV=>V.cell? ⟨xb,0,Y⟩=Z (R (Z ⟨pj,0,Y⟩) 1 1)/\V.cell? ⟨xb,1,Y⟩=Z (R Y 0 0)/\V.cell? ⟨pj,0,Y⟩=Z (L jf)/\V.cell? ⟨pj,1,Y⟩=Z (O I z)) (go_keep) ((go_at_call 265;refine(sS.o _).mono ?_;rintro _ w2⟨rfl,Ha⟩;have H6:J (M D W1 w2):=(Td D W1 1).go Ha;obtain⟨y0,y1⟩:=HX.o w2 H6.o;obtain⟨y2,y3⟩:=pP.o w2 (H5.o.go H6.o);clear Ha))
     all_goals
      go_wp2;go_roundw
      case rel=>exact⟨q+1,by omega,rfl,by go_num,HL.o.tch0 (H5.o.go H6.o),HT.o.go (H5.o.go H6.o)⟩
      case measure=>simp[intOf];omega
    ·obtain rfl:q=8:=(by omega);have hgf:¬((8:Nat):Int)<8:=(by omega);go_wp2;go_loopw [14] (λi wx=>∃(q:Nat)(aY:List VV),q<=m/\i=O I (q:Int)/\J (aY.length=m)/\J (wx.heap[gt]? =Z (T (Hv aY) 98))/\J (wx.heap[nb]? =Z (T #[R (Z ⟨gt,0,Y⟩) m m,R va k vc,R oa k oc] 311))/\J (M (λj=>base<=j) w wx)) (λi _=>m-(intOf i).toNat)
     case atStart=>have h1:=HL.o.row;rw[HM.o]at h1;exact⟨0,_,by omega,rfl,by show lG _=_;rw[Qe,QM,QM,lE,lE];exact HM.o,HL.o.txs,h1,HT.o⟩
     case round=>
      have HGT:J (base<=gt):=HL.o.low.2;clear HL HT;obtain⟨q,aY,hq,rfl,HN,HG,HR,HT⟩:=hrel;have r0:wr.cell? ⟨nb,0,Y⟩=Z (R (Z ⟨gt,0,Y⟩) m m):=Ja HR.o
      by_cases hqm:q<m
      ·have hqi:(q:Int)<(m:Int):=(by omega);have HQ:J (q<aY.length):=(by show q<aY.length;rw[HN.o];exact hqm);obtain⟨f0,f1⟩:=Xp HG.o _ (Qd HQ.o);have fz:=Zf HG.o;obtain⟨p1,p2⟩:=JcS HG.o HQ.o (R Y 0 0) (R Y 0 0);have Hx:J (_=Z (Obj.cells _ _)):=p1;have kF:J (M _ wr _):=p2;clear p1 p2;go_wp2;go_roundw
       case rel=>
        refine⟨q+1,_,by omega,by go_num,?_,Hx,(kF.o.block _ (Jb HR.o) (λe=>?_)).trans HR.o,HT.o.trans kF.o (λj hj=>aM (by rw[hj];exact HGT.o))⟩
        ·show lG _=_;rw[List.length_set];exact HN.o
        ·have:=HR.o;rw[e,HG.o]at this;simp at this
       case measure=>simp[intOf];omega
      ·obtain rfl:q=m:=(by omega);have uV:¬(q:Int)<(q:Int):=(by omega);go_wp2;go_ret;exact⟨rfl,HT.o⟩

theorem Joq(w:aA)(wb lb rb:Nat)(x:OpL)(hB:B<=w.heap.size)(n:Nat)(sl:Nat->Sl×Sl)(c o:Nat->List VV)(hn:n<=1000000)(hv:TxV B w (R x.ts.1 x.ts.2.1 x.ts.2.2) n sl c o)(yh: -9223372036854775808<=x.a)(vM:x.a<9223372036854775808)(S:BA)(hS:S.size<=1000000)(code:Int)(Q:BA->Int->aA->Prop)(Fin:aA->Prop)
 (hL:∀V B' nb gt vi vo ga gb hb,M D w V->Xj B' V nb gt n vi vo c o ga gb hb 0->aB N 18 #[X (Z ⟨lb,0,Y⟩),R (Z ⟨gt,0,Y⟩) n (n+8)] V λe V'=>e=aC (aI #[L S,O I code])/\M D V V')
 (hR:∀V,M D w V->aB N 180 #[X (Z ⟨rb,0,Y⟩),R x.ts.1 x.ts.2.1 x.ts.2.2] V λe V'=>e=aC (aI #[L S,O I code])/\M D V V')
 (hM:∀q:BA,q.size<=S.size->∀V,M D w V->aB N 19 #[X (Z ⟨lb,0,Y⟩),L q] V λe V'=>∃k:Int,e=aC (O I k)/\(∃S,(∀j,S j->j<w.heap.size)/\M S V V')/\Q q k V')
 (hQ:∀q k V V',Q q k V->M D V V'->Q q k V')
 (hU:∀q k V,Q q k V->aB N 110 #[X (Z ⟨rb,0,Y⟩),L q] V λe V'=>e=aC (O I k)/\Fin V')
 (hF:∀V,M D w V->Fin V):
  aB N 117 #[X (Z ⟨wb,0,Y⟩),X (Z ⟨lb,0,Y⟩),X (Z ⟨rb,0,Y⟩),opV x] w λe w'=>e=aC (aL true)/\Fin w':=by
 obtain⟨kind,a,b,which,s,t,u,cx,cn,⟨oa,on,oc⟩,⟨ta,tn,tc⟩⟩:=x;simp only at *;obtain rfl:tn=n:=by obtain⟨a',c',e⟩:=hv.shape;simp only[Qy]at e;exact e.2.1
 obtain⟨w0,(xF:J _)⟩:∃w0,w0=w.alloc (T #[O I kind,O I a,O I b,O I which,L s,L t,L u,L cx,O I cn,R oa on oc,R ta tn tc] 75):=⟨_,rfl⟩
 have t0:M D w w0:=by rw[xF];exact Ta _ _ _
 have r0:w0.heap[w.heap.size]? =Z (T #[O I kind,O I a,O I b,O I which,L s,L t,L u,L cx,O I cn,R oa on oc,R ta tn tc] 75):=by rw[xF];exact Qf _ _
 have kJ:J _:=t0;have HZ0:J (w0.heap.size=w.heap.size+1):=by show _=_;rw[xF,l8]
 have kX:J (∀V S,M S w0 V->(∀j,S j->j<w.heap.size\/w0.heap.size<=j)->V.cell? ⟨w.heap.size,0,Y⟩=Z (O I kind)/\V.cell? ⟨w.heap.size,1,Y⟩=Z (O I a)/\V.cell? ⟨w.heap.size,2,Y⟩=Z (O I b)/\V.cell? ⟨w.heap.size,10,Y⟩=Z (R ta tn tc)):=λV S hV hS=>by
  have hr:=(hV.block w.heap.size (Jb r0) (λe=>by have:=hS _ e;have:=(Jb r0);omega)).trans r0;exact⟨Ja hr,Ja hr,Ja hr,Ja hr⟩
 have eD:J (aB N 179 #[R ta tn tc] w0 λe w'=>∃nb gt vi vo ga gb hb,e=aC (X (Z ⟨nb,0,Y⟩))/\Xj w0.heap.size w' nb gt tn vi vo c o ga gb hb 0/\M D w0 w'):=JpW w0 _ tn sl c o hn (Qm hB t0.size) (hv.tch t0 (λ_ e=>e.elim));obtain⟨q,hq,(yS:J _)⟩:=Jmw S hS a b yh vM;have xp:J (∀V B' nb gt vi vo ga gb hb,M D w V->w.heap.size<=B'->Xj B' V nb gt tn vi vo c o ga gb hb 0->_):=λV B' nb gt vi vo ga gb hb hV hB' hA=>JpV hA (hv.tch hV (λ_ e=>e.elim)) (Qm hB hB') hn;have HL:J _:=hL;have HR:J _:=hR;have HM:J _:=hM q hq;have HQ:J _:=hQ q;have HU:J _:=hU q;have HF:J _:=hF;obtain⟨t8,jt⟩:∃t8:Nat,tn+8=t8:=⟨_,rfl⟩
 have hl8:(tn:Int)<=(t8:Int):=by omega
 rw[jt]at HL;have gW:J _:=jt;clear hL hR hM hQ hU hF hv t0 r0 hq hS;go_enter func117,ntmps117;go_upto_region 1 with fail;rw[<-xF.o];obtain⟨c0,c1,c2,c9⟩:=kX w0 _ (Te D _) (λ_ e=>e.elim);go_wp2_with fail;refine eD.mono ?_;rintro _ w1⟨nb,gt,vi,vo,ga,gb,hb,rfl,(gd:J _),(H5:J _)⟩;have n0:w1.cell? ⟨nb,0,Y⟩=Z (R (Z ⟨gt,0,Y⟩) t8 t8):=by rw[<-gW.o];exact Ja gd.row
 clear c0 c1 c2 c9 eD;obtain⟨c0,c1,c2,c9⟩:=kX w1 _ H5 (λ_ e=>e.elim);go_upto_region 2 with fail;go_cut [10,11] (λv8 v9 wx=>v8=L S/\v9=O I code/\J (M D w1 wx))
 case first=>
  go_region_held3 (λV=>V.cell? ⟨nb,0,Y⟩=Z (R (Z ⟨gt,0,Y⟩) t8 t8)/\V.cell? ⟨w.heap.size,10,Y⟩=Z (R ta tn tc)) (go_keep) ((go_at_call 18;refine(HL _ _ nb gt vi vo ga gb hb ((kJ.go H5).go (Td _ w1 1)) (gd.tch0 (Td _ w1 1))).mono ?_;rintro _ w2⟨rfl,Ha⟩;have H6:J _:=(Td D w1 1).go Ha;obtain⟨d0,d1,d2,d9⟩:=kX w2 _ (H5.go H6) (λ_ e=>e.elim);have d10:w2.cell? ⟨nb,0,Y⟩=Z (R (Z ⟨gt,0,Y⟩) t8 t8):=(by rw[<-gW.o];exact Ja (gd.tch0 H6).row)))
  all_goals go_wp2;go_meet;exact⟨rfl,rfl,H6⟩
 case rest=>
 obtain⟨rfl,rfl,H6⟩:=hcut;obtain⟨w2,xd⟩:∃w2,w2=wc:=⟨wc,rfl⟩
 subst xd;have kI:J _:=H5.go H6.o;obtain⟨c0,c1,c2,c9⟩:=kX w2 _ kI (λ_ e=>e.elim);go_wp2_with fail;refine(HR w2 (kJ.go kI)).mono ?_;rintro _ w3⟨rfl,Hs⟩;have Hb:J _:=kI.go Hs;have sF:J _:=(gd.tch0 H6).tch0 Hs;obtain⟨c0,c1,c2,c9⟩:=kX w3 _ Hb (λ_ e=>e.elim);go_wp2_with fail;refine(xp w3 _ nb gt vi vo ga gb hb (kJ.go Hb) kJ.size sF).mono ?_;rintro _ w4⟨rfl,Hu⟩;have Hm:J _:=Hb.trans Hu (λj hj=>aN hj);obtain⟨c0,c1,c2,c9⟩:=kX w4 _ Hm (λ_ e=>e.elim);go_wp2_with fail;refine(Jb2 _ _).mono ?_;rintro _ _⟨rfl,rfl⟩
 by_cases hk:kind=3
 ·subst hk;go_wp2;go_ret;exact⟨rfl,HF _ (kJ.go Hm)⟩
 ·by_cases hc:code=0
  ·subst hc;go_wp2_with fail;refine(yS _).mono ?_;rintro _ w5⟨rfl,kR⟩;have kD:J _:=Hm.go kR;go_wp2_with fail;refine(HM w5 (kJ.go kD)).mono ?_;rintro _ w6⟨k,rfl,⟨S6,hS6,jN⟩,(HQ6:J _)⟩;obtain⟨c0,c1,c2,c9⟩:=kX w6 _ ((kD.mono noE).trans jN (λj hj=>aM hj)) (λj hj=>aM (hS6 j hj));clear jN;go_wp2_with fail;refine(yS _).mono ?_;rintro _ w7⟨rfl,gJ⟩;have HQ7:J _:=HQ _ _ _ HQ6 gJ;go_wp2_with fail;refine(HU k w7 HQ7).mono ?_;rintro _ w8⟨rfl,(HF8:J _)⟩;go_wp2_with fail;refine(Jb2 _ _).mono ?_;rintro _ _⟨rfl,rfl⟩;go_wp2;go_ret;exact⟨rfl,HF8⟩
  ·have h1:(code != 0)=true:=(by simpa using hc);go_wp2;go_ret;exact⟨rfl,HF _ (kJ.go Hm)⟩

theorem JgR{b:BA}(h:a.toList=b.toList):a=b:=by
 rw[ByteArray.toList_eq,ByteArray.toList_eq]at h
 cases a;cases b;simp only at h;rw[Array.toList_inj]at h;rw[h]
theorem Xa.of_row{c:Nat}{H4:List (Sl×Sl)}(h:w.heap[G]? =Z (T (Hv (H4.map encT)) 98))(hB:G<B):Xa B w (R (Z ⟨G,0,Y⟩) H4.length c) H4:=by
 refine aN ⟨G,0,c,rfl,hB,(Jb h),λi hi=>?_⟩;obtain⟨e0,e1⟩:=Yu (H4.map encT) i (by simpa using hi);rw[l6]at e0 e1;rw[lT];exact⟨(Ja h).trans e0,(Ja h).trans e1⟩
theorem JG.of_row{c:Nat}{H4:List (BA×Int)}(h:w.heap[G]? =Z (T (Hv (H4.map encC)) 49))(hB:G<B):JG B w (R (Z ⟨G,0,Y⟩) H4.length c) H4:=by
 refine aN ⟨G,0,c,rfl,hB,(Jb h),λi hi=>?_⟩;obtain⟨e0,e1⟩:=Yu (H4.map encC) i (by simpa using hi);rw[l6]at e0 e1;rw[lT];exact⟨(Ja h).trans e0,(Ja h).trans e1⟩
theorem ToB.txs{E:Nat->Addr}{g:Option Nat}{p:PS}{e:Ending}(h:ToB E w b g wj (Z (ts,p)) e w'):
  ∃(x:Sl)(g':Option Nat)(zs:List (Sl×Sl)),e=aC (R x.1 x.2.1 x.2.2)/\Jg E w' b g' wj (Z p)/\M (λk=>k=b\/Z k=g) w w'/\Xa w'.heap.size w' (R x.1 x.2.1 x.2.2) zs/\TxIn w'.heap.size w' zs ts:=by
 obtain⟨x,g',h1,h2,_,h4,h5⟩:=h;obtain⟨gp,zs,rfl,k2,k3,k4,k5,k6⟩:=h5 ts p rfl;have H7:=(Jb k4)
 refine⟨_,g',zs,h1,h2,h4,?_,k5,λj x t hx ht=>?_⟩
 ·have:=Xa.of_row (B:=w'.heap.size) (c:=ts.length) k4 H7;rw[k5]at this;exact this
 ·obtain⟨⟨gc,ec,_,_,rc⟩,go,eo,_,_,ro⟩:=k6 j x t hx ht;rw[ec,eo];exact⟨JG.of_row rc (Jb rc),Jr.of_row ro (Jb ro)⟩
theorem TxIn.next{l:List (Sl×Sl)}(h:TxIn w.heap.size w l ts)(k:M D w w'):TxIn w'.heap.size w' l ts:=
 ⟨h.1,λj x t h1 h2=>⟨((h.2 j x t h1 h2).1.tch k noE).up k.size,((h.2 j x t h1 h2).2.tch k noE).up k.size⟩⟩
theorem Xa.next{l:List (Sl×Sl)}(h:Xa w.heap.size w v l)(k:M D w w'):Xa w'.heap.size w' v l:=(h.tch k noE).up k.size
def subR(d:List UInt8->BA)(AT:Except Er (Option Tr))(root hd:BA):Except Er (BA×Option Tr):=match AT with
 | .error e=>.error e
 | .ok st'=>if root ≠ Xh d st' then .error .root else .ok (hd,st')
def JlI(E:Nat->Addr)(wj base:Nat)(F:Nat->Prop)(w:aA)(cb fl r:Nat)(bs:List BV)(lv:aG)(lg:List UInt8)(s:BA)(res:Except Er (BA×Option Tr))(e:Ending)(w':aA):Prop:=match res with
 | .error er=>NoTo E (erG er) w e w'
 | .ok (hd,st')=>e=aC aK/\∃q' kq,JR w' cb wj fl r (bs++[(hd,wj,q')]) kq/\StAt (H3 wj) F w' q' st'/\StOk wj st'/\Xy base w' kq (lg++ke [66] s.data.toList)/\M (λk=>k=cb\/k=r\/Z k=lv.ownBlock) w w'/\Jq w lv.ownBlock kq.ownBlock
theorem JeQ(E:Nat->Addr)(hE:Env E w)(Hn:1<=wj)(hw:wj<=32)(h:JR w cb wj fl r bs lv)(m:Nat)(hm:bs.length=m+1)(gK:m<2 ^ 31)(bh:BA)(q:Option Nat)(st:Option Tr)(hb:bs[m]? =Z (bh,wj,q))(ko:bh.size<=1000)(F:Nat->Prop)(hF:∀j,w.heap.size<=j->F j)(hs:StAt (H3 wj) F w q st)(Hg:StOk wj st)
 (base:Nat) (He:base<=w.heap.size) (lg:List UInt8) (zK:Xy base w lv lg) (vz:lg.length<=140737488000000) (s:BA) (eE:s.size<=60000) (y:HdL) (H4 body:List UInt8) (hh:(PS.rd [] s.data.toList).hdr wj (0,⟨#[]⟩,⟨#[]⟩,⟨#[]⟩)=Z (y,.rd H4 body)) (nU:s.data.toList=H4++body) (ts:List TxL) (q3:List UInt8) (bd:(PS.rd H4 body).body wj []=Z (ts,.rd q3 [])) (xA:∀t∈ts,TxOk wj t) (h3:ts.length<=3):
  aB N 46 #[X (Z ⟨cb,0,Y⟩),L s] w λe w'=>JlI E wj base F w cb fl r bs lv lg s (if y ≠ (m+1,H3 wj (72::bh.data.toList),H3 wj (66::body),y.2.2.2) then .error .tip else subR (H3 wj) (JH (H3 wj) st ts) y.2.2.2 ⟨H4.toArray⟩) e w':=by
 have Hp:=hE.size;obtain⟨aU,hM⟩:∃aU,aU=m+1:=⟨_,rfl⟩
 rw[<-hM];have HM:J _:=hM;obtain⟨RES,pm⟩:∃RES:Except Er (BA×Option Tr),RES=(if y ≠ (aU,H3 wj (72::bh.data.toList),H3 wj (66::body),y.2.2.2) then .error .tip else subR (H3 wj) (JH (H3 wj) st ts) y.2.2.2 ⟨H4.toArray⟩):=⟨_,rfl⟩
 rw[<-pm];have yv:=(Jb h.row)
 obtain⟨rv,kE⟩:∃rv,Jl q=X rv:=⟨_,rfl⟩
 have Hq:H4.length+body.length=s.size:=by have:=congrArg lG nU;simp only[QA,Qe]at this;exact this.symm
 have HE:J _:=hE;have gL:J _:=h;have po:J (Xy base w lv lg/\lg.length<=140737488000000/\base<=w.heap.size/\s.size<=60000/\bs.length=m+1/\m<2 ^ 31):=⟨zK,vz,He,eE,hm,gK⟩
 have qt:J (∀W,M D w W->aB N 40 #[X (Z ⟨cb,0,Y⟩)] W λe w'=>e=aC (O I (m:Int))/\W=w'):=λW hT=>(Jco (h.next hT) (by omega)).mono λe w' k=>⟨by rw[k.1,hm];congr 2;omega,k.2⟩
 have gu:J (∀W',M D w W'->ChS cb wj r (m:Int) (aH #[L bh,O I (wj:Int),X rv]) W'):=λW' hT=>by
  have:=(h.next hT).reads m _ hb;simp only[bV,kE]at this;exact this
 have zw:J (∀W,M D w W->Jd W w.heap.size Y (wj:Int) aK (.rd [] s.data.toList)->aB N 86 #[X (Z ⟨w.heap.size,0,Y⟩),aH #[O aD 0,L ⟨#[]⟩,L ⟨#[]⟩,L ⟨#[]⟩]] W λe w'=>e=aC (aH #[O aD (y.1:Int),L y.2.1,L y.2.2.1,L y.2.2.2])/\RdTo E W w' w.heap.size (wj:Int) (Z (.rd H4 body))):=λW hT hp=>Jji E hE wj hw s (by omega) y _ hh hT hp;have zu:J (∀W,M D w W->Jd W w.heap.size Y (wj:Int) aK (.rd H4 body)->aB N 78 #[X (Z ⟨w.heap.size,0,Y⟩),R Y 0 0] W λe w'=>∃(x:Sl)(g':Option Nat)(zs:List (Sl×Sl)),e=aC (R x.1 x.2.1 x.2.2)/\Jg E w' w.heap.size g' (wj:Int) (Z (.rd q3 []))/\M (λk=>k=w.heap.size\/Z k=Y) W w'/\Xa w'.heap.size w' (R x.1 x.2.1 x.2.2) zs/\TxIn w'.heap.size w' zs ts):=λW hT hp=>by
  refine(Jka E hE wj hw H4 body (by omega) hT hp).mono λe w' k=>?_;rw[bd]at k;exact k.txs
 have tQ:J (∀W g,M D w W->Jg E W w.heap.size g (wj:Int) (Z (.rd q3 []))->aB N 88 #[X (Z ⟨w.heap.size,0,Y⟩)] W λe w'=>M D W w'/\e=aC aK):=λW g hT hp=>
  Ja2 E w.heap.size wj (Z (.rd q3 [])) (λp hp=>⟨_,_,(lh.inj hp).symm⟩) W (hE.tch hT noE) g hp
 have xN:J (∀W v l,M D w W->Xa W.heap.size W v l->TxIn W.heap.size W l ts->aB N 81 #[O I (wj:Int),aH #[O I (wj:Int),X rv],v] W λe w'=>∃(u:Nat)(rv:Option Addr)(ev:aG),e=aC (aI #[aH #[O I (u:Int),X rv],ev])/\ZB E wj F (JH (H3 wj) st ts) u rv ev w'/\M D W w'):=λW v l hT hv gV=>by
  have:=Jfa E wj Hn hw F q st v l ts xA h3 W (hE.tch hT noE) (λj hj=>hF j (Qm hT.size hj)) hv gV (hs.next hT) Hg;unfold JB at this;rw[kE]at this;refine this.mono λe w' h=>?_;obtain⟨u,rv',ev,h1,h2⟩:=h.2.res;exact⟨u,rv',ev,h1,h2,h.1⟩
 have zi:J (∀W,M D w W->_):=λW hT=>hM ▸ Jhw E (hE.tch hT noE) Hn hw (h.next hT) m hm gK _ hb ko ⟨body.toArray⟩ (by show body.toArray.size<=_;simp;omega);have jR:J (∀W q1 kW,M D w W->StAt (H3 wj) F W q1 kW->_):=λW q1 kW hT k=>ZP E wj Hn hw F q1 kW W (hE.tch hT noE) k;have HRE:J (∀W,Jd W w.heap.size Y (wj:Int) aK (.rd H4 body)->aB N 87 #[X (Z ⟨w.heap.size,0,Y⟩)] W λe w'=>e=aC (L ⟨body.toArray⟩)/\M D W w'):=λW hp=>Jem w.heap.size Y (wj:Int) _ H4 body _ hp;have eF:(⟨body.toArray⟩:BA).size=body.length:=Ji _;have hcut:s.extract 0 H4.length=⟨H4.toArray⟩:=by
  have e:s=⟨(H4++body).toArray⟩:=by rw[<-nU,strL]
  rw[e,JnC,List.take_left'];rfl
 obtain⟨c0,c2,yH⟩:=gu.o w (Te _ _);have pq:J (s.extract 0 H4.length=⟨H4.toArray⟩/\(⟨body.toArray⟩:BA).size=body.length/\H4.length+body.length=s.size):=⟨hcut,eF,Hq⟩
 generalize hAT:JH (H3 wj) st ts=AT at *;generalize H3 wj (72::bh.data.toList)=sa at *;generalize H3 wj (66::body)=sb at *;obtain⟨y1,y2,y3,y4⟩:=y;dsimp only at zw pm;have jV:J _:=pm;clear pm;have be:∀W,(Instr.field 148 (aH #[L bh,O I (wj:Int),X rv]) 1).run N W=.ok (aH #[O I (wj:Int),X rv]) W:=λW=>by kernel_rfl
 clear hE h hb ko hF hs Hg xA h3 kE hAT hh bd zK vz He nU eE eF hcut Hq hm hM;generalize (⟨body.toArray⟩:BA)=bz at *;go_enter func46,ntmps46;go_wp2_with fail;refine(XT _ _ _).mono ?_;rintro _ w1⟨rfl,Hy,H9⟩;have H5:J (M D w w1):=H9;have Hx:J (Jd w1 w.heap.size Y (wj:Int) aK (.rd [] s.data.toList)):=Hy;clear H9 Hy c0 c2 yH;go_wp2_with fail;refine(zw.o w1 H5.o Hx.o).mono ?_;rintro _ w2⟨rfl,⟨kV,_⟩,Ha⟩;have hA:=Ta D w2 (T #[O aD (y1:Int),L y2,L y3,L y4] 167);have Hw:(w2.alloc (T #[O aD (y1:Int),L y2,L y3,L y4] 167)).heap[w2.heap.size]? =Z (T #[O aD (y1:Int),L y2,L y3,L y4] 167):=Qf _ _;have H6:J _:=(H5.o.trans Ha (λj hj=>aN (Nat.le_of_eq hj.symm))).go hA;have vC:J _:=kV.lt;have kF:J (Jd _ w.heap.size Y (wj:Int) aK (.rd H4 body)):=kV.tch hA (λh=>h) (λ_ _ h=>h);have jK:J _:=Hw;clear kV Ha zw Hx H5 hA Hw;go_wp2_with fail;refine(HRE.o _ kF.o).mono ?_;rintro _ w3⟨rfl,Hs⟩;have Hb:J _:=H6.o.go Hs;have qs:J (Jd w3 w.heap.size Y (wj:Int) aK (.rd H4 body)):=kF.o.tch Hs (λh=>h) (λ_ _ h=>h);have kw:J _:=(Hs.block _ (Jb jK.o) (λh=>h)).trans jK.o;clear Hs H6 kF jK HRE;go_wp2_with fail;refine(zu.o w3 Hb.o qs.o).mono ?_;rintro _ w4⟨⟨z1,z2,z3⟩,g4,zs,rfl,yj,Hu,tP,hi4⟩;have Hm:J _:=XD (b:=w.heap.size) (Ql _) Hb.o Hu;have pB:J _:=yj;have eG:J (Xa w4.heap.size w4 (R z1 z2 z3) zs/\TxIn w4.heap.size w4 zs ts):=⟨tP,hi4⟩
 have qz:J _:=(Hu.block _ (Jb kw.o) (λh=>by rcases h with h|h;have:=vC.o;omega;cases h)).trans kw.o;clear Hu yj Hb qs kw tP hi4 zu;go_wp2_with fail;refine(tQ.o w4 g4 Hm.o pB.o).mono ?_;rintro _ w5⟨kR,rfl⟩;have kD:J _:=Hm.o.go kR;have HV5:J (Xa w5.heap.size w5 (R z1 z2 z3) zs/\TxIn w5.heap.size w5 zs ts):=⟨eG.o.1.next kR,eG.o.2.next kR⟩
 have qF:J _:=(kR.block _ (Jb qz.o) (λh=>h)).trans qz.o;clear kR Hm pB qz eG tQ;go_wp2_with fail;refine(zi.o w5 kD.o).mono ?_;rintro _ w6⟨rfl,jN⟩;have kz:J _:=kD.o.go jN;have HV6:J (Xa w6.heap.size w6 (R z1 z2 z3) zs/\TxIn w6.heap.size w6 zs ts):=⟨HV5.o.1.next jN,HV5.o.2.next jN⟩
 have bg:J _:=(jN.block _ (Jb qF.o) (λh=>h)).trans qF.o;clear jN kD qF HV5 zi;go_upto_region 9 with fail;obtain⟨k6,bi⟩:∃k6,k6=w2.heap.size:=⟨_,rfl⟩
 obtain⟨k10,sY⟩:∃k10,k10=w6.heap.size:=⟨_,rfl⟩
 obtain⟨w7,tl⟩:∃w7,w7=w6.alloc (T #[O aD (aU:Int),L sa,L sb,L ⟨#[]⟩] 167):=⟨_,rfl⟩
 have hA7:M D w6 w7:=by rw[tl];exact Ta _ _ _
 have vO:w7.heap[k10]? =Z (T #[O aD (aU:Int),L sa,L sb,L ⟨#[]⟩] 167):=by rw[tl,sY];exact Qf _ _
 have gx:J _:=kz.o.go hA7;have bG:w7.heap[k6]? =Z (T #[O aD (y1:Int),L y2,L y3,L y4] 167):=by rw[bi];exact(hA7.block _ (Jb bg.o) (λh=>h)).trans bg.o
 have HKs:J (w.heap.size<k6/\k6<k10):=⟨by rw[bi];exact vC.o,by rw[bi,sY];exact(Jb bg.o)⟩
 rw[<-tl,<-bi,<-sY];have HA7:J (M D w6 w7/\k10=w6.heap.size):=⟨hA7,sY⟩
 clear bi sY tl hA7 kz bg vC;obtain⟨-, -, -,f3⟩:=rows bG;obtain⟨-, -, -,r3⟩:=rows vO;have rf:w7.frozen? ⟨k10,3,Y⟩=false:=Qg _ _ _ _ _ vO;have uM:J _:=bG;have jO:J _:=vO;clear bG vO;go_upto_region 10 with fail;have jg:w7.setCell ⟨k10,3,Y⟩ (L y4)=w7.setRow k10 #[O aD (aU:Int),L sa,L sb,L y4]:=by rw[Qj w7 k10 3 _ _ (0,0) _ jO.o];rfl
 rw[jg];have tS:=Ts w7 k10 #[O aD (aU:Int),L sa,L sb,L y4];have jh:(w7.setRow k10 #[O aD (aU:Int),L sa,L sb,L y4]).heap[k10]? =Z (T #[O aD (aU:Int),L sa,L sb,L y4] 167):=Qi _ _ _ _ _ _ jO.o;have hx8:=(tS.block _ (Jb uM.o) (λe=>by have:=HKs.o;omega)).trans uM.o;have gW:J _:=gx.o.trans tS (λj hj=>aN (by have:=HKs.o;omega));have t68:=HA7.o.1.trans tS (λj hj=>aN (by have:=HA7.o.2;omega));have eH:J (Xa (w7.setRow k10 #[O aD (aU:Int),L sa,L sb,L y4]).heap.size (w7.setRow k10 #[O aD (aU:Int),L sa,L sb,L y4]) (R z1 z2 z3) zs/\TxIn (w7.setRow k10 #[O aD (aU:Int),L sa,L sb,L y4]).heap.size (w7.setRow k10 #[O aD (aU:Int),L sa,L sb,L y4]) zs ts):=⟨HV6.o.1.next t68,HV6.o.2.next t68⟩
 clear jg f3 r3 rf uM jO tS gx HV6 t68 HA7;generalize w7.setRow k10 #[O aD (aU:Int),L sa,L sb,L y4]=w8 at *;obtain⟨f0,f1,f2,f3⟩:=rows hx8;obtain⟨r0,r1,r2,r3⟩:=rows jh;have HX8:J (w8.heap[k6]? =Z _):=hx8;clear hx8 jh;have eI:=HE.o.tch gW.o noE;have gT:=eI.tip;have gz:0<w8.heap.size:=Qk (by decide) eI.size;clear eI
 by_cases hy:(y1,y2,y3,y4)=(aU,sa,sb,y4)
 case neg=>
  have kP:RES=.error .tip:=by rw[jV.o,if_pos hy]
  subst kP;clear xN jR qt gu be po pq;have tipEnd:J (∀W,W=w8.alloc (T #[L ⟨#[104,101,97,100,101,114]⟩,eV E 0] 237)->JlI E wj base F w cb fl r bs lv lg s (.error .tip) (aC (aJ 235 (X (Z ⟨w8.heap.size,0,Y⟩)))) W):=λW e=>by
   subst e;exact⟨gW.o.go (Ta _ _ _),_,_,rfl,.wrap _ _ _ (Qf _ _) .base⟩
  by_cases e1:y1=aU
  ·by_cases e2:y2.toList=sa.toList
   ·by_cases e3:y3.toList=sb.toList
    ·exact absurd (by rw[e1,JgR e2,JgR e3]) hy
    ·obtain rfl:=JgR e2;subst e1;clear hy e2;go_wp2_with fail;refine(Xk _ _ _ _).mono ?_;rintro _ _⟨rfl,rfl⟩;go_wp2;go_ret;exact tipEnd.out _ rfl
   ·subst e1;clear hy;go_wp2_with fail;refine(Xk _ _ _ _).mono ?_;rintro _ _⟨rfl,rfl⟩;go_wp2;go_ret;exact tipEnd.out _ rfl
  ·have e1':¬(y1:Int)=(aU:Int):=(by omega);clear hy;go_wp2_with fail;refine(Xk _ _ _ _).mono ?_;rintro _ _⟨rfl,rfl⟩;go_wp2;go_ret;exact tipEnd.out _ rfl
 case pos=>
  simp only[Qw]at hy;obtain⟨pt,hy2,hy3,_⟩:=hy;subst pt hy2 hy3;have uy:J (RES=subR (H3 wj) AT y4 ⟨H4.toArray⟩):=(show RES=_ by rw[jV.o,if_neg (by simp)])
  clear gT gz jV;have zL:J (M D w w8.drew):=gW.o.dr 1;have hA8:M D w8 (w8.alloc (T #[O I 0,X Y] 146)).drew:=(Ta D w8 _).dr 1;have sZ:J (M D w (w8.alloc (T #[O I 0,X Y] 146)).drew):=gW.o.go hA8;have dQ:J ((w8.alloc (T #[O I 0,X Y] 146)).drew.heap[w8.heap.size]? =Z (T #[O I 0,X Y] 146)):=Qf _ _;have HZ:J (w8.heap.size<(w8.alloc (T #[O I 0,X Y] 146)).drew.heap.size):=(Jb dQ.o)
  have eJ:J (aB _ _ _ _ _):=xN.o w8.drew _ _ zL.o eH.o.1 eH.o.2;have eK:J (aB _ _ _ _ _):=xN.o (w8.alloc (T #[O I 0,X Y] 146)).drew _ _ sZ.o (eH.o.1.next hA8) (eH.o.2.next hA8);obtain⟨c0,c2,yH⟩:=gu.o w8.drew zL.o;obtain⟨a0,a2,pu⟩:=gu.o (w8.alloc (T #[O I 0,X Y] 146)).drew sZ.o;clear xN eH hA8;go_upto_region 12 with fail;clear f0 f1 f2 f3 r0 r1 r2 r3;go_cut [11,12] (λp11 ev4 wx=>∃(k9 u4:Nat)(ku:Option Addr),p11=X (Z ⟨k9,0,Y⟩)/\J (wx.heap[k9]? =Z (T #[O I (u4:Int),X ku] 146))/\J (w8.heap.size<=k9)/\J (M D w8 wx)/\J (ZB E wj F AT u4 ku ev4 wx))
  case first=>
   go_region_held3 (λW=>W.cell? ⟨cb,0,Y⟩=Z (O I (wj:Int))/\W.cell? ⟨cb,2,Y⟩=Z (.map (Z r))/\(Instr.lookup 141 (.map (Z r)) (O I (m:Int)) false).run N W=.ok (aH #[L bh,O I (wj:Int),X rv]) W) (go_keep) ((first|(go_at_call 40;refine(qt.o _ (by first|exact zL.o|exact sZ.o)).mono ?_;rintro _ _⟨rfl,rfl⟩)|(go_at_call 81;refine(eJ.o).mono ?_;rintro _ w4⟨u4,ku,ev4,rfl,jS,Hu⟩;have gX:M D w w4:=zL.o.go Hu;obtain⟨d0,d2,uZ⟩:=gu.o w4 gX;obtain⟨v0,v2,zM⟩:=gu.o (w4.alloc (T #[O I (u4:Int),X ku] 146)) (gX.go (Ta _ _ _));obtain⟨_,_,dR⟩:=gu.o (w4.alloc (T #[O I 0,X Y] 146)) (gX.go (Ta _ _ _));have u9:J (M D w8 w4):=(Td D w8 1).go Hu;have Hm:J (M D w w4):=gX;have qz:J (ZB _ _ _ _ _ _ _ _):=jS;have dS:J (w4.heap.size=w4.heap.size):=rfl;clear gX Hu jS)|(go_at_call 81;refine(eK.o).mono ?_;rintro _ w4⟨u4,ku,ev4,rfl,jS,Hu⟩;have gX:M D w w4:=sZ.o.go Hu;obtain⟨d0,d2,uZ⟩:=gu.o w4 gX;have yX:w4.heap[w8.heap.size]? =Z (T #[O I 0,X Y] 146):=(Hu.block _ HZ.o (λh=>h)).trans dQ.o;have s0:w4.cell? ⟨w8.heap.size,0,Y⟩=Z (O I 0):=Ja yX;have s1:w4.cell? ⟨w8.heap.size,1,Y⟩=Z (X Y):=Ja yX;have sf:∀j,w4.frozen? ⟨w8.heap.size,j,Y⟩=false:=λj=>Qg _ _ _ _ _ yX;obtain⟨v0,v2,zM⟩:=gu.o ((w4.setCell ⟨w8.heap.size,0,Y⟩ (O I (u4:Int))).setCell ⟨w8.heap.size,1,Y⟩ (X ku)) (by rw[set2 _ _ _ _ _ _ _ yX];exact gX.trans (Ts _ _ _) (λj hj=>aN (by have:=gW.o.size;omega)));have u9:J (M D w8 w4):=((Ta D w8 _).go (Td _ _ 1)).go Hu;have Hm:J (M D w w4):=gX;have qz:J (ZB _ _ _ _ _ _ _ _):=jS;have bj:J (w4.heap[w8.heap.size]? =Z _):=yX;clear gX Hu jS yX)))
   all_goals
    clear c0 c2 yH a0 a2 pu d0 d2 uZ
    first
    | (
     have tk:=dS;have xP:(w4.alloc (T #[O I (u4:Int),X ku] 146)).heap[w4.heap.size]? =Z (T #[O I (u4:Int),X ku] 146):=Qf _ _;have kD:J (M D w (w4.alloc (T #[O I (u4:Int),X ku] 146))):=Hm.o.go (Ta _ _ _);have zN:J (M D w8 (w4.alloc (T #[O I (u4:Int),X ku] 146))):=u9.o.go (Ta _ _ _);have bl:J (w8.heap.size<=w4.heap.size):=u9.o.size;have qF:J (ZB E wj F AT u4 ku ev4 (w4.alloc (T #[O I (u4:Int),X ku] 146))):=qz.o.kept (λq st h=>h.next (Ta _ _ _)) (λk v h=>h.next (Ta _ _ _));clear qz Hm tk dS dR;obtain⟨w5,xi⟩:∃w5,w5=w4.alloc (T #[O I (u4:Int),X ku] 146):=⟨_,rfl⟩
     rw[<-xi]at xP kD zN qF v0 v2 zM ⊢;clear xi;obtain⟨k9,ui⟩:∃k9,k9=w4.heap.size:=⟨_,rfl⟩
     rw[<-ui]at xP bl ⊢;clear ui u9)
    | (
     obtain⟨xP,eL,p3,p4⟩:=XF bj.o Hm.o gW.o.size (O I (u4:Int)) (X ku);have zN:J (M D w8 ((w4.setCell ⟨w8.heap.size,0,Y⟩ (O I (u4:Int))).setCell ⟨w8.heap.size,1,Y⟩ (X ku))):=(XF bj.o u9.o (Ql _) (O I (u4:Int)) (X ku)).2.1;have kD:J (M D w ((w4.setCell ⟨w8.heap.size,0,Y⟩ (O I (u4:Int))).setCell ⟨w8.heap.size,1,Y⟩ (X ku))):=eL;have qF:J (ZB E wj F AT u4 ku ev4 ((w4.setCell ⟨w8.heap.size,0,Y⟩ (O I (u4:Int))).setCell ⟨w8.heap.size,1,Y⟩ (X ku))):=qz.o.kept (λq st h=>p3 _ _ _ _ h) (λk v h=>p4 _ _ _ h);clear qz Hm bj p3 p4 eL s0 s1 sf;obtain⟨w5,xi⟩:∃w5,w5=((w4.setCell ⟨w8.heap.size,0,Y⟩ (O I (u4:Int))).setCell ⟨w8.heap.size,1,Y⟩ (X ku)):=⟨_,rfl⟩
     rw[<-xi]at xP kD zN qF v0 v2 zM ⊢;clear xi;obtain⟨k9,ui⟩:∃k9,k9=w8.heap.size:=⟨_,rfl⟩
     have bl:J (w8.heap.size<=k9):=Nat.le_of_eq ui.symm;rw[<-ui]at xP ⊢;clear ui u9)
    go_wp2;go_meet;exact⟨k9,u4,ku,rfl,xP,bl,zN,qF⟩
  case rest=>
  obtain⟨k9,u4,ku,rfl,xE,bl,zN,qF⟩:=hcut;obtain⟨w5,xi⟩:∃w5,w5=wc:=⟨wc,rfl⟩
  subst xi;have kD:J (M D w w5):=gW.o.trans zN.o noE;have s0:w5.cell? ⟨k9,0,Y⟩=Z (O I (u4:Int)):=Ja xE.o;have s1:w5.cell? ⟨k9,1,Y⟩=Z (X ku):=Ja xE.o;have pv:k9<w5.heap.size:=(Jb xE.o)
  clear zL sZ HZ dQ eJ eK c0 c2 yH a0 a2 pu
  cases AT with
  | error er=>
   obtain⟨tv,uv,rfl,hv⟩:=qF.o;have HV:J (Jn E (erG er) w5 (aJ tv uv)):=hv;have kP:RES=.error er:=uy.o;subst kP;clear hv qF jR gu qt uy;go_wp2_with fail;refine(Xk _ _ _ _).mono ?_;rintro _ _⟨rfl,rfl⟩;go_wp2;go_ret;exact⟨kD.o.go (Ta _ _ _),_,_,rfl,.wrap _ _ _ (Qf _ _) (HV.o.next (Ta _ _ _))⟩
  | ok st'=>
   obtain⟨q',rfl,hq,rfl,s5,pw⟩:=qF.o;have HQ:J (Jl q'=X ku):=hq;have zQ:J (StAt (H3 u4) F w5 q' st'/\StOk u4 st'):=⟨s5,pw⟩
   have bm:w5.heap[k6]? =Z (T #[O aD (y1:Int),L y2,L y3,L y4] 167):=(zN.o.block _ (Jb HX8.o) (λh=>h)).trans HX8.o;have f3:w5.cell? ⟨k6,3,Y⟩=Z (L y4):=Ja bm;have dU:k6<w5.heap.size:=(Jb bm)
   have HX5:J (w5.heap[k6]? =Z _):=bm;have uz:=jR.o w5.drew q' st' (kD.o.dr 1) (zQ.o.1.next (show M D w5 w5.drew from Td _ w5 1));unfold JB at uz;rw[HQ.o]at uz;have vP:J (aB _ _ _ _ _):=uz;have sM:=HE.o.tch kD.o noE;have gz:4<w5.heap.size:=Qk (by decide) sM.size;have HE5':J (Env E w5):=sM;clear hq s5 pw qF bm uz jR HX8 sM;obtain⟨sd,ye⟩:∃sd,sd=Xh (H3 u4) st':=⟨_,rfl⟩
   rw[<-ye]at vP;have uO:J (sd=Xh (H3 u4) st'):=ye;clear ye;go_upto_region 15 with fail;go_cut [74] (λvb wx=>vb=aL (decide (¬y4.toList=sd.toList))/\J (M D w5 wx))
   case first=>
    by_cases hyd:y4.toList=sd.toList
    ·obtain rfl:=JgR hyd;go_region_held3 (λW=>W.cell? ⟨k6,3,Y⟩=Z (L y4)/\W.cell? ⟨k9,0,Y⟩=Z (O I (u4:Int))/\W.cell? ⟨k9,1,Y⟩=Z (X ku)) (go_keep) ((go_at_call 83;refine vP.out.mono ?_;rintro _ w9⟨rfl,jX⟩;have xQ:M D w5 w9:=(Td D w5 1).go jX;have g3:w9.cell? ⟨k6,3,Y⟩=Z (L y4):=(xQ.cell (p:=⟨k6,3,Y⟩) dU (λh=>h)).trans f3;have g0:w9.cell? ⟨k9,0,Y⟩=Z (O I (u4:Int)):=(xQ.cell (p:=⟨k9,0,Y⟩) pv (λh=>h)).trans s0;have g1:w9.cell? ⟨k9,1,Y⟩=Z (X ku):=(xQ.cell (p:=⟨k9,1,Y⟩) pv (λh=>h)).trans s1;have zR:J (M D w5 w9):=xQ;clear jX xQ))
     all_goals go_wp2;go_meet;exact⟨by simp,zR⟩
    ·go_region_held3 (λW=>W.cell? ⟨k6,3,Y⟩=Z (L y4)/\W.cell? ⟨k9,0,Y⟩=Z (O I (u4:Int))/\W.cell? ⟨k9,1,Y⟩=Z (X ku)) (go_keep) ((go_at_call 83;refine vP.out.mono ?_;rintro _ w9⟨rfl,jX⟩;have xQ:M D w5 w9:=(Td D w5 1).go jX;have g3:w9.cell? ⟨k6,3,Y⟩=Z (L y4):=(xQ.cell (p:=⟨k6,3,Y⟩) dU (λh=>h)).trans f3;have g0:w9.cell? ⟨k9,0,Y⟩=Z (O I (u4:Int)):=(xQ.cell (p:=⟨k9,0,Y⟩) pv (λh=>h)).trans s0;have g1:w9.cell? ⟨k9,1,Y⟩=Z (X ku):=(xQ.cell (p:=⟨k9,1,Y⟩) pv (λh=>h)).trans s1;have zR:J (M D w5 w9):=xQ;clear jX xQ))
     all_goals go_wp2;go_meet;exact⟨by simp[hyd],zR⟩
   case rest=>
   obtain⟨rfl,zR⟩:=hcut;obtain⟨w9,eM⟩:∃w9,w9=wc:=⟨wc,rfl⟩
   subst eM;have j8:J (M D w w9):=kD.o.trans zR.o noE;have HE9:J (Env E w9):=HE.o.tch j8.o noE;clear f3 dU vP gz HE5' s0 s1
   by_cases hyd:y4.toList=sd.toList
   case neg=>
    have xB:(decide (¬y4.toList=sd.toList))=true:=(by simp[hyd]);have Hl:y4 ≠ Xh (H3 u4) st':=λe=>hyd (by rw[uO.o,<-e]);have kP:RES=.error .root:=(by rw[uy.o];show (if y4 ≠ Xh (H3 u4) st' then _ else _)=_;rw[if_pos Hl]);subst kP;have gR:=HE9.o.root;have gz:4<w9.heap.size:=Qk (by decide) HE9.o.size;rw[xB];clear hyd xB Hl uy gu qt po pq;go_wp2_with fail;refine(Xk _ _ _ _).mono ?_;rintro _ _⟨rfl,rfl⟩;go_wp2;go_ret;exact⟨j8.o.go (Ta _ _ _),_,_,rfl,.wrap _ _ _ (Qf _ _) .base⟩
   case pos=>
    have xB:(decide (¬y4.toList=sd.toList))=false:=(by simp[hyd]);have hye:=JgR hyd;obtain⟨hd,rZ⟩:∃hd:BA,hd=⟨H4.toArray⟩:=⟨_,rfl⟩
    obtain⟨pn,hpn⟩:∃pn,pn=H4.length:=⟨_,rfl⟩
    have kP:RES=.ok (hd,st'):=(by rw[uy.o,rZ];show (if y4 ≠ Xh (H3 u4) st' then _ else _)=_;rw[if_neg (by rw[<-uO.o,hye];simp)]);have mA:=pq.o;rw[<-rZ,<-hpn]at mA;obtain⟨hx1,hx2,hx3⟩:=mA;have zK:=po.o;have hple:pn<=s.size:=(by omega);have xK:I.wrap ((s.size:Int)-(bz.size:Int))=(pn:Int):=(by simp[l9,ld,l5];omega);have hsub2:wrap64 ((s.size:Int)-(bz.size:Int))=(pn:Int):=(by unfold wrap64;omega);have hMi:I.wrap ((m:Int)+1)=(y1:Int):=(by have:=HM.o;simp[l9,ld,l5];omega);have hMi2:wrap64 ((m:Int)+1)=(y1:Int):=(by have:=HM.o;unfold wrap64;omega);have xW:J (aB N 89 #[X (Z ⟨cb,0,Y⟩),L ⟨#[66]⟩,L s] w9 λe w'=>e=aC aK/\∃kq,JR w' cb u4 fl r bs kq/\Xy base w' kq (lg++ke [66] s.data.toList)/\M (λk=>k=cb\/Z k=lv.ownBlock) w9 w'/\Jq w9 lv.ownBlock kq.ownBlock):=
     Jek E HE9.o (gL.o.next j8.o) base (Qm zK.2.2.1 j8.o.size) lg (zK.1.next j8.o) zK.2.1 ⟨#[66]⟩ s rfl (by omega)
    have hhs:hd.size<=1000000:=(by rw[rZ,Ji];omega);have xl:J (∀W,aB N 90 #[L hd] W λe w'=>e=aC (L hd)/\M D W w'):=λW=>Jkp hd W hhs;have HS9:J (StAt (H3 u4) F w9 q' st'/\StOk u4 st'):=⟨zQ.o.1.next zR.o,zQ.o.2⟩
    have dV:J (w9.heap[k9]? =Z (T #[O I (u4:Int),X ku] 146)):=(zR.o.block _ pv (λh=>h)).trans xE.o;have HKC:J (w.heap.size<=k9):=Qm gW.o.size bl.o;rw[xB];clear hx2 hx3 xB hhs zK rZ hpn hyd hye zQ xE bl pq uy zN gW zR HX5 gu qt;subst kP;go_wp2_with fail;refine xW.o.mono ?_;rintro _ qN⟨rfl,kq,vO,eN,qG,eO⟩;have jO:J (JR qN cb u4 fl r bs kq):=vO;have eP:J (Xy base qN kq (lg++ke [66] s.data.toList)):=eN;have pz:J (M (λk=>k=cb\/Z k=lv.ownBlock) w9 qN):=qG;have HM10:J (Jq w9 lv.ownBlock kq.ownBlock):=eO;have uA:J (qN.heap[k9]? =Z (T #[O I (u4:Int),X ku] 146)):=(qG.block _ (Jb dV.o) (λe=>by
     rcases e with e|e
     ·have:=HKC.o;omega
     ·obtain⟨cu,mm,eQ⟩:=(po.o.1.next j8.o).kind k9 e.symm;rw[dV.o]at eQ;simp at eQ)).trans dV.o
    clear vO eN qG eO xW;go_upto_region 21 with fail;have HMB:J (bs.length=y1):=(po.o.2.2.2.2.1.trans HM.o.symm:bs.length=y1)
    have eR:J (∀W,M D qN W->aB N 40 #[X (Z ⟨cb,0,Y⟩)] W λe w'=>e=aC (O I (m:Int))/\W=w'):=λW hT=>(Jco (jO.o.next hT) (by have h5:=po.o.2.2.2.2.1;have h6:=po.o.2.2.2.2.2;omega)).mono λe w' k=>⟨by rw[k.1,po.o.2.2.2.2.1];congr 2;omega,k.2⟩
    have HPU:J (∀W,M D qN W->(Instr.mapUpdate 141 (.map (Z r)) (O I (y1:Int)) (aH #[L hd,O I (u4:Int),X ku])).run N W=.ok () (W.setBlocks r (bs++[(hd,u4,q')]))):=λW hT=>by
     have:=Jd7 (jO.o.next hT).map (hd,u4,q');rw[HMB.o]at this;unfold bV at this;rw[HQ.o]at this;exact this
    have c2:qN.cell? ⟨cb,2,Y⟩=Z (.map (Z r)):=Ja jO.o.row;have s0:qN.cell? ⟨k9,0,Y⟩=Z (O I (u4:Int)):=Ja uA.o;have s1:qN.cell? ⟨k9,1,Y⟩=Z (X ku):=Ja uA.o;have mB:cb<qN.heap.size:=(Jb jO.o.row)
    have uB:k9<qN.heap.size:=(Jb uA.o)
    have vp:J (¬cb=r/\¬k9=r):=⟨λe=>(by have:=jO.o.row;rw[e,jO.o.map]at this;cases this),λe=>(by have:=uA.o;rw[e,jO.o.map]at this;cases this)⟩
    have mC:J (M D qN qN.drew):=Td _ qN 1;go_cut [] (λwx=>∃W,wx=W.setBlocks r (bs++[(hd,u4,q')])/\J (M D qN W))
    case first=>
     go_region_held3 (λW=>W.cell? ⟨cb,2,Y⟩=Z (.map (Z r))/\W.cell? ⟨k9,0,Y⟩=Z (O I (u4:Int))/\W.cell? ⟨k9,1,Y⟩=Z (X ku)) (go_keep) ((first|(go_at_call 40;refine(eR.o _ (by first|exact mC.o|exact yB.o)).mono ?_;rintro _ _⟨rfl,rfl⟩)|(go_at_call 90;refine(xl.o _).mono ?_;rintro _ xR⟨rfl,yC⟩;have yY:M D qN xR:=mC.o.go yC;have e2:xR.cell? ⟨cb,2,Y⟩=Z (.map (Z r)):=(yY.cell (p:=⟨cb,2,Y⟩) mB (λh=>h)).trans c2;have e0:xR.cell? ⟨k9,0,Y⟩=Z (O I (u4:Int)):=(yY.cell (p:=⟨k9,0,Y⟩) uB (λh=>h)).trans s0;have e1:xR.cell? ⟨k9,1,Y⟩=Z (X ku):=(yY.cell (p:=⟨k9,1,Y⟩) uB (λh=>h)).trans s1;have hpu:=HPU.o xR yY;have hsB:=M.setBlocks xR r (bs++[(hd,u4,q')]);have p2:(xR.setBlocks r (bs++[(hd,u4,q')])).cell? ⟨cb,2,Y⟩=Z (.map (Z r)):=(hsB.cell (p:=⟨cb,2,Y⟩) (Qk mB yY.size) vp.o.1).trans e2;have p0:(xR.setBlocks r (bs++[(hd,u4,q')])).cell? ⟨k9,0,Y⟩=Z (O I (u4:Int)):=(hsB.cell (p:=⟨k9,0,Y⟩) (Qk uB yY.size) vp.o.2).trans e0;have p1:(xR.setBlocks r (bs++[(hd,u4,q')])).cell? ⟨k9,1,Y⟩=Z (X ku):=(hsB.cell (p:=⟨k9,1,Y⟩) (Qk uB yY.size) vp.o.2).trans e1;have yB:J (M D qN xR):=yY;clear yC yY hsB)))
     all_goals go_wp2;go_meet;exact⟨xR,rfl,yB⟩
    case rest=>
    obtain⟨xR,rfl,yB⟩:=hcut;go_wp2;go_ret;have tB:=M.setBlocks xR r (bs++[(hd,u4,q')]);have hR9:=gL.o.next j8.o;have hL9:=po.o.1.next j8.o;have dW:=jO.o.next yB.o;have kL:=HS9.o.1.refine (G:=λj=>F j/\¬j=cb/\¬j=r/\¬Z j=lv.ownBlock) (λj hj hc=>⟨hj,λe=>(by obtain⟨c,hc⟩:=hc;subst e;rw[hR9.row]at hc;simp at hc),λe=>(by obtain⟨c,hc⟩:=hc;subst e;rw[hR9.map]at hc;simp at hc),λe=>(by obtain⟨c,hc⟩:=hc;obtain⟨cu,mm,eQ⟩:=hL9.kind j e.symm;rw[hc]at eQ;simp at eQ)⟩);have h10:=kL.tch pz.o (λj hS hG=>by rcases hS with h|h;exact hG.2.1 h;exact hG.2.2.2 h);have p9:=(h10.next yB.o).tch tB (λj hS hG=>hG.2.2.1 hS);refine⟨rfl,q',kq,⟨(tB.block cb (Jb dW.row) vp.o.1).trans dW.row,Ja6 dW.map _⟩,p9.mono (λj h=>h.1),HS9.o.2,(eP.o.next yB.o).tch tB (λj hj e=>(eP.o.ne_row jO.o).2 (by rw[<-e];exact hj.symm)),?_,?_⟩
    ·exact(((j8.o.mono noE).trans pz.o (λj hj=>aM (by rcases hj with h|h;exact aM h;exact aN (aN h)))).trans yB.o noE).trans tB (λj hj=>aM (aN (aM hj)))
    ·rcases HM10.o with h|⟨k,h,hk⟩
     ·exact aM h
     ·exact aN ⟨k,h,Qm j8.o.size hk⟩

theorem Jf4(E:Nat->Addr)(hE:Env E w)(Hn:1<=wj)(hw:wj<=32)(h:JR w cb wj fl r bs lv)(m:Nat)(hm:bs.length=m+1)(gK:m<2 ^ 31)(bh:BA)(q:Option Nat)(st:Option Tr)(hb:bs[m]? =Z (bh,wj,q))(ko:bh.size<=1000)(F:Nat->Prop)(hF:∀j,w.heap.size<=j->F j)(hs:StAt (H3 wj) F w q st)(Hg:StOk wj st)
 (base:Nat) (He:base<=w.heap.size) (lg:List UInt8) (zK:Xy base w lv lg) (vz:lg.length<=140737488000000) (s:BA) (eE:s.size<=1100000):
  aB Tryz.prog 46 #[X (Z ⟨cb,0,Y⟩),L s] w λe w'=>JlI E wj base F w cb fl r bs lv lg s (subP (H3 wj) wj m bh st s.data.toList) e w':=by
 cases hh:(PS.rd [] s.data.toList).hdr wj (0,⟨#[]⟩,⟨#[]⟩,⟨#[]⟩) with
 | none=>
  have e:subP (H3 wj) wj m bh st s.data.toList=.error .form:=by unfold subP;rw[hh]
  rw[e];exact JgV E hE hw h s eE hh
 | some x=>
  obtain⟨y,p⟩:=x;obtain⟨H4,body,l1,e1,e2,_⟩:=JhP wj hw _ _ _ _ _ hh;rw[lN]at e2;subst e2;have Hq:H4.length+body.length=s.size:=by have:=congrArg lG e1;rw[Yz,Qe]at this;exact this.symm
  by_cases bQ:∃ts q3,(PS.rd H4 body).body wj []=Z (ts,.rd q3 [])
  ·obtain⟨ts,q3,bd⟩:=bQ;obtain⟨b2,r2,l2,e3,e4,h3,xA⟩:=Jam wj hw _ _ _ _ bd;simp only[PS.of.injEq,Sum.inl.injEq,Qw]at e4;obtain⟨_,rfl⟩:=e4;rw[QC]at e3;have qS:body.length<=385:=(by rw[e3];exact l2);have e:subP (H3 wj) wj m bh st s.data.toList=(if y ≠ (m+1,H3 wj (72::bh.data.toList),H3 wj (66::body),y.2.2.2) then .error .tip else subR (H3 wj) (JH (H3 wj) st ts) y.2.2.2 ⟨H4.toArray⟩):=by
    unfold subP subR;rw[hh];dsimp only;rw[bd];dsimp only;have ec:s.data.toList.take (s.data.toList.length-body.length)=H4:=(by rw[Yz,<-Hq,Nat.add_sub_cancel,e1,List.take_left'];rfl);rw[ec];rfl
   rw[e];exact JeQ E hE Hn hw h m hm gK bh q st hb ko F hF hs Hg base He lg zK vz s (by omega) y H4 body hh e1 ts q3 bd xA h3
  ·have Hl:∀ts q3,(PS.rd H4 body).body wj [] ≠ Z (ts,.rd q3 []):=λts q3 h=>bQ ⟨ts,q3,h⟩;have e:subP (H3 wj) wj m bh st s.data.toList=.error .form:=by
    unfold subP;rw[hh];dsimp only
    cases hx:(PS.rd H4 body).body wj [] with
    | none=>rfl
    | some z=>
     obtain⟨ts,p⟩:=z;obtain⟨b1,r1,_,_,e4,_⟩:=Jam wj hw _ _ _ _ hx;subst e4
     cases r1 with
     | nil=>exact absurd hx (Hl _ _)
     | cons a l=>rfl
   rw[e];exact JgW E hE hw h s eE y H4 body hh (by omega) Hl

def XN(wj:Nat)(outs:List (Nat×Nat)):List UInt8:=Hf wj 1 1++Jz outs
theorem Jnx(E:Nat->Addr)(b:Nat)(Hi:18<=b)(wj:Nat)(hw:wj<=32)(ia:Option Addr)(ic n:Nat)(outs:List (Nat×Nat))(ho:∀o∈outs,Jy o)(h1:1<=outs.length)(h3:outs.length<=3)(w:aA)(hE:Env E w)(hp:Jd w b Y (wj:Int) aK (.wr []))(hv:Jr b w (R ia n ic) outs):
  aB N 198 #[X (Z ⟨b,0,Y⟩),aH #[O I (wj:Int),R ia n ic]] w λe w'=>(∃v0,e=aC (aH #[O I (wj:Int),v0]))/\StTo E w w' b Y (wj:Int) (Z (.wr (XN wj outs))):=by
 have H7:=hp.lt;have gC:=Run.start Hi hE (show Jg E w b Y (wj:Int) (Z (.wr [])) from hp) (M.allocs D w (T #[O I (wj:Int),R ia n ic] 333) (T #[O I 0,R Y 0 0] 333));have s6:(PS.wr []).num wj 1=Z (wj,.wr (Hf wj 1 1)):=by simp only[PS.num];rw[if_pos (by omega)];rfl
 have HN:J (∀w1 g1,Jd w1 b g1 (wj:Int) aK (.wr [])->aB N 138 #[X (Z ⟨b,0,Y⟩),O aD (wj:Int),O I 1] w1 λe w'=>e=aC (O aD (wj:Int))/\StTo E w1 w' b g1 (wj:Int) (Z (.wr (Hf wj 1 1)))):=λw1 g1 h=>Xv b g1 wj wj 1 wj (.wr []) _ w1 h (by omega) (by simp[PS.len]) s6;have HF:J (∀w1 g1,Env E w1->Jd w1 b g1 (wj:Int) aK (.wr (Hf wj 1 1))->Jr b w1 (R ia n ic) outs->aB N 188 #[X (Z ⟨b,0,Y⟩),R ia n ic] w1 λe w'=>∃gp,e=aC (R (Z ⟨gp,0,Y⟩) outs.length outs.length)/\StTo E w1 w' b g1 (wj:Int) (Z (.wr (XN wj outs)))):=λw1 g1 nq Hy qM=>by
  have hr:=(Jes 1 3 outs ho h1 h3 (by omega)).wr (Hf wj 1 1);have:=Jbr E b Hi g1 wj _ outs (.wr (Hf wj 1 1)) w1 nq Hy qM (by omega) (XS _ _) (λx hx=>(ho x hx).2) (by simp only[PS.len,Jf];omega);rw[hr]at this;refine this.mono λe w' k=>?_;obtain⟨gp,k1,_,_,g',k4,_,k6,k7⟩:=k;exact⟨gp,k1,g',k4,k6,k7⟩
 have hu:lY.wrap (wj:Int)=(wj:Int):=JK _ (by omega) (by omega);have hi:I.wrap (wj:Int)=(wj:Int):=Jo _ (by omega) (by omega);have HV:J (Jr b w (R ia n ic) outs):=hv;have RUN:J _:=gC;clear hE hp gC s6 hv ho h1 h3;go_enter func198,ntmps198;go_wp2_with fail;refine(HN.o _ _ RUN.out.port).mono ?_;rintro _ w1⟨rfl,h⟩;obtain⟨g1,R1⟩:=RUN.out.step h;have qj:=(R1.box (k:=w.heap.size) (Ql _) (heap_alloc2_old _ _ _)).1;have c1:w1.cell? ⟨w.heap.size,1,Y⟩=Z (R ia n ic):=Ja qj;have Hz:J _:=R1;have vQ:J (Jr b w1 (R ia n ic) outs):=by obtain⟨g',_,_,t1⟩:=R1.to;exact HV.o.tch t1 (λj hj=>by rcases hj with h|h;omega;cases h)
 clear R1 qj h HN HV;go_wp2_with fail;refine(HF.o _ _ Hz.out.env Hz.out.port vQ.o).mono ?_;rintro _ w4⟨gp,rfl,h⟩;obtain⟨g4,R4⟩:=Hz.out.step h;have rR:=(R4.box (k:=w.heap.size+1) (by omega) (heap_alloc2_new _ _ _)).1;have e0:w4.cell? ⟨w.heap.size+1,0,Y⟩=Z (O I 0):=Ja rR;have e1:w4.cell? ⟨w.heap.size+1,1,Y⟩=Z (R Y 0 0):=Ja rR;have fR:∀j,w4.frozen? ⟨w.heap.size+1,j,Y⟩=false:=λj=>Qg _ _ _ _ _ rR;have jp:J _:=R4;have RR:J (_=_):=rR;clear R4 rR h HF c1;go_wp2;rw[Jpw _ _ _ _ _ _ _ RR.out];exact QK (v:=aH #[O I (wj:Int),R (Z ⟨gp,0,Y⟩) outs.length outs.length]) (Qq results198 _ _ (w.heap.size+1) _ _ (0,0) _ rfl (Qi _ _ _ _ _ _ RR.out) underlying333 rfl (by kernel_rfl)) rfl ⟨⟨_,rfl⟩,jp.out.done (k:=w.heap.size+1) (by omega) (heap_alloc2_new _ _ _) (by decide)⟩
theorem Jdk(E:Nat->Addr)(hE:Env E w)(hw:wj<=32)(h:JR w cb wj fl r bs lv)(base:Nat)(He:base<=w.heap.size)(lg:List UInt8)(hl:Xy base w lv lg)(vz:lg.length<=140737488000000)(v:aG)(outs:List (Nat×Nat))(ho:∀o∈outs,Jy o)(h1:1<=outs.length)(h3:outs.length<=3)(hv:Jr w.heap.size w v outs):
  aB N 129 #[X (Z ⟨cb,0,Y⟩),v] w λe w'=>e=aC aK/\∃kq,JR w' cb wj fl r bs kq/\Xy base w' kq (lg++ke [71] (XN wj outs))/\M (λk=>k=cb\/Z k=lv.ownBlock) w w'/\Jq w lv.ownBlock kq.ownBlock:=by
 have Hp:=hE.size;have yv:=(Jb h.row)
 have c0:w.cell? ⟨cb,0,Y⟩=Z (O I (wj:Int)):=Ja h.row;obtain⟨ia,ic,kG⟩:=hv.shape;subst kG;have Hq:(XN wj outs).length<=100:=by
  have:∀l:List (Nat×Nat),(l.flatMap outB).length=l.length*9:=by
   intro l
   induction l with
   | nil=>rfl
   | cons x r ih=>rw[QG,Qe,ih];unfold outB;simp only[Qe,Jf,Qp];omega
  unfold XN Jz;rw[Qe,Qe,Jf,Jf,this];omega
 obtain⟨sb,bO⟩:∃sb:BA,sb=⟨(XN wj outs).toArray⟩:=⟨_,rfl⟩
 have jW:J (∀W,M D w W->Jd W w.heap.size Y (wj:Int) aK (.wr [])->aB N 198 #[X (Z ⟨w.heap.size,0,Y⟩),aH #[O I (wj:Int),R ia outs.length ic]] W λe w'=>(∃v0,e=aC (aH #[O I (wj:Int),v0]))/\StTo E W w' w.heap.size Y (wj:Int) (Z (.wr (XN wj outs)))):=λW hT hp=>
  Jnx E w.heap.size Hp wj hw ia ic outs.length outs ho h1 h3 W (hE.tch hT noE) hp (hv.tch hT noE)
 have nA:J (∀W g,Jg E W w.heap.size g (wj:Int) (Z (.wr (XN wj outs)))->aB N 79 #[X (Z ⟨w.heap.size,0,Y⟩)] W λe w'=>M D W w'/\e=aC (aI #[L sb,aK])):=λW g hp=>by
  rw[bO];exact Jas E w.heap.size g wj (Z (.wr (XN wj outs))) (λp hp=>⟨_,(lh.inj hp).symm⟩) W hp
 have xW:J (∀W,M D w W->aB N 89 #[X (Z ⟨cb,0,Y⟩),L ⟨#[71]⟩,L sb] W λe w'=>e=aC aK/\∃kq,JR w' cb wj fl r bs kq/\Xy base w' kq (lg++ke [71] (XN wj outs))/\M (λk=>k=cb\/Z k=lv.ownBlock) W w'/\Jq W lv.ownBlock kq.ownBlock):=λW hT=>by
  have:=Jek E (hE.tch hT noE) (h.next hT) base (Qm He hT.size) lg (hl.next hT) vz ⟨#[71]⟩ sb rfl (by rw[bO,Ji];omega);have e:sb.data.toList=XN wj outs:=by rw[bO]
  rw[e]at this;exact this
 clear hE h He hl vz ho h1 h3 hv Hq bO;go_enter func129,ntmps129;go_wp2_with fail;refine(JY _ _).mono ?_;rintro _ w1⟨rfl,Hy,H9⟩;have H5:J _:=H9;have dX:J (M D w w1.drew):=H9.dr 1;have Hx:J (Jd w1.drew w.heap.size Y (wj:Int) aK (.wr [])):=Hy.tch (Td D w1 1) (λh=>h) (λ_ _ h=>h);have d0:w1.cell? ⟨cb,0,Y⟩=Z (O I (wj:Int)):=(H9.cell (p:=⟨cb,0,Y⟩) yv (λh=>h)).trans c0;have hcb1:cb<w1.heap.size:=Qk yv H9.size;clear H9 Hy c0;go_upto_region 2 with fail;go_cut [] (λwx=>∃g2,J (Jg E wx w.heap.size g2 (wj:Int) (Z (.wr (XN wj outs))))/\J (M D w wx))
 case first=>
  go_region_held3 (λW=>W.cell? ⟨cb,0,Y⟩=Z (O I (wj:Int))) (go_keep) ((go_at_call 198;refine(jW.o w1.drew dX.o Hx.o).mono ?_;rintro _ w2⟨⟨v0,rfl⟩,g2,kV,gK,Ha⟩;have qm:M D w w2:=XD (b:=w.heap.size) (Ql _) dX.o Ha;have e0:w2.cell? ⟨cb,0,Y⟩=Z (O I (wj:Int)):=(Ha.cell (p:=⟨cb,0,Y⟩) hcb1 (λe=>by rcases e with e|e;simp only at e;omega;cases e)).trans d0;have H6:J _:=qm;have kF:J _:=kV;clear kV gK Ha qm))
  all_goals go_wp2;go_meet;exact⟨g2,kF,H6⟩
 case rest=>
 obtain⟨g2,kF,H6⟩:=hcut;obtain⟨w2,xd⟩:∃w2,w2=wc:=⟨wc,rfl⟩
 subst xd;clear jW dX Hx d0;go_wp2_with fail;refine(nA.o w2 g2 kF.o).mono ?_;rintro _ w3⟨Hs,rfl⟩;have Hb:J (M D w w3):=H6.o.go Hs;clear Hs kF H6 nA;go_wp2_with fail;refine(xW.o w3 Hb.o).mono ?_;rintro _ w4⟨rfl,kq,k1,k2,k3,k4⟩;have HK:J (JR w4 cb wj fl r bs kq/\Xy base w4 kq (lg++ke [71] (XN wj outs))/\M (λk=>k=cb\/Z k=lv.ownBlock) w3 w4/\Jq w3 lv.ownBlock kq.ownBlock):=⟨k1,k2,k3,k4⟩
 clear k1 k2 k3 k4 xW;go_wp2;go_ret;refine⟨rfl,kq,HK.o.1,HK.o.2.1,(Hb.o.mono noE).trans HK.o.2.2.1 (λj hj=>aM hj),?_⟩
 rcases HK.o.2.2.2 with h|⟨k,h,hk⟩
 ·exact aM h
 ·exact aN ⟨k,h,Qm Hb.o.size hk⟩
