import Derived.Test.YtighkdnooglfjaaGreatDoorQzTxS
import Derived.RangeFuncNested
import Derived.RangeFuncBound
import Derived.Shelf.RegionOpen
import Derived.OwnWalkIn
import Derived.LoopNIn
import Derived.LoopIn
open Go renaming Calls->aB,Value->aG,World->aA
open Go.Ending renaming returned->aC
open Go.IntKind renaming i64->I,u64->aD,u8->aE
open Go.Obj renaming cells->T
open Go.Proofs.Tryz renaming prog->N
open Go.RowKit renaming Hid->J
open Go.Value renaming agg->aH,bool->aL,iface->aJ,int->O,nilIface->aK,pointer->X,slice->R,string->L,tuple->aI,pointer->lC
open Option renaming none->Y,some->Z
open List renaming append_assoc->lD
set_option maxRecDepth 100000
set_option maxHeartbeats 2000000
namespace Go.Proofs.YtighkdnooglfjaaGreatDoor
open Tryz
open Go.RowKit

variable {cs:Array aG}{id:BA}{c:BA×Int}{k:Key}{l:List Stp}{d:List UInt8->BA}{aZ b base g n n₀ wj:Nat}{F S:Nat->Prop}{o:Nat×Nat}{q:Option Nat}{st st':Option Tr}{P:Program}{s:Stp}{t:Tr}{aY ty:TypeId}{v:aG}{W W' a w w':aA}{wy:Wy}
theorem JaR(n:Nat)(dg:BA)(k:Key)(o:Nat×Nat)(w:aA)(h:w.heap[n]? =Z (T (JaH dg k o) 243)):
  aB N 224 #[X (Z ⟨n,0,Y⟩)] w λe w'=>e=aC (aL true)/\w'=w:=by
 have c5:w.cell? ⟨n,5,Y⟩=Z (X Y):=Ja h;clear h;go_enter func224,ntmps224;go_wp2;go_ret;exact⟨rfl,rfl⟩
theorem Jbc(n:Nat)(dg:BA)(b nl nr:Nat)(w:aA)(h:w.heap[n]? =Z (T (brC dg b nl nr) 243)):
  aB N 224 #[X (Z ⟨n,0,Y⟩)] w λe w'=>e=aC (aL false)/\w'=w:=by
 have c5:w.cell? ⟨n,5,Y⟩=Z (X (Z ⟨nl,0,Y⟩)):=Ja h;clear h;go_enter func224,ntmps224;go_wp2;go_ret;exact⟨rfl,rfl⟩
theorem Jay(n one:Option Addr)(at_:Nat)(w:aA):
  aB N 333 #[X n,X one,O I (at_:Int)] w λe w'=>e=aC (if at_=0 then aH #[X one,X n] else aH #[X n,X one])/\M D w w':=by
 by_cases h:at_=0
 ·subst h;rw[if_pos rfl];go_enter func333,ntmps333;go_wp2;exact QK (v:=aH #[X one,X n]) (Qq results333 _ _ w.heap.size _ _ (0,0) _ rfl (Qf _ _) underlying241 rfl (by kernel_rfl)) rfl ⟨rfl,Ta _ _ _⟩
 ·rw[if_neg h];have hb:((at_:Int) == 0)=false:=by rw[beq_eq_false_iff_ne];omega
  go_enter func333,ntmps333;go_wp2;exact QK (v:=aH #[X n,X one]) (Qq results333 _ _ w.heap.size _ _ (0,0) _ rfl (Qf _ _) underlying241 rfl (by kernel_rfl)) rfl ⟨rfl,Ta _ _ _⟩
theorem Jfh(E:Nat->Addr)(wj:Nat)(Hf:1<=wj)(hw:wj<=32)(F:Nat->Prop)(rv:Option Addr)(k:Key)(o:Nat×Nat)(hk:TrOk wj (.leaf k o))(d:Nat)(hd:d<8*(wj+1))(t:Tr)(n ln:Nat)(w:aA)(hE:Env E w)(hF:∀j,w.heap.size<=j->F j)(hn:Jl (dgW wj) F w n t)(jh:Jl (dgW wj) F w ln (.leaf k o))
 (hc:(∀W,M D w W->aB N 224 #[X (Z ⟨n,0,Y⟩)] W λe w'=>e=aC (aL true)/\w'=W)\/∃b:Nat,(∀W,M D w W->aB N 224 #[X (Z ⟨n,0,Y⟩)] W λe w'=>e=aC (aL false)/\w'=W)/\w.cell? ⟨n,4,Y⟩=Z (O I (b:Int))/\(d:Int)<(b:Int)):
  aB N 270 #[aH #[O I (wj:Int),X rv],X (Z ⟨n,0,Y⟩),X (Z ⟨ln,0,Y⟩),O I (d:Int)] w λe w'=>∃m,e=aC (aI #[X (Z ⟨m,0,Y⟩),aK])/\Jl (dgW wj) F w' m (Tr.pair t (.leaf k o) d (bt k d))/\M D w w':=by
 have nU:=hn.own.2
 rcases hc with hc|⟨b,hc,hb4,hdi⟩
 all_goals
  have HC:J _:=hc;have jW:=hk.1;have H5:=jh.own.2;have clk:w.cell? ⟨ln,1,Y⟩=Z (L ⟨k.toArray⟩):=by cases jh with|leaf _ _ _ _ hr=>exact Ja hr
  have ye:J (∀W,_):=λW=>XL k d (by omega) (by omega) W;have HF:J _:=hF;have ed:J (∃a b l r,(if bt k d=0 then Value.agg #[X (Z ⟨ln,0,Y⟩),X (Z ⟨n,0,Y⟩)] else aH #[X (Z ⟨n,0,Y⟩),X (Z ⟨ln,0,Y⟩)])=aH #[X (Z ⟨a,0,Y⟩),X (Z ⟨b,0,Y⟩)]/\Tr.pair t (.leaf k o) d (bt k d)=.br d l r/\Jl (dgW wj) F w a l/\Jl (dgW wj) F w b r):=by
   unfold Tr.pair
   by_cases hb:bt k d=0
   ·rw[if_pos hb,if_pos hb];exact⟨_,_,_,_,rfl,rfl,jh,hn⟩
   ·rw[if_neg hb,if_neg hb];exact⟨_,_,_,_,rfl,rfl,hn,jh⟩
  obtain⟨pa,pb,pl,pr,uN,hpt,jw,hpr⟩:=ed.o;have dN:J (∀W,aB N 333 #[X (Z ⟨n,0,Y⟩),X (Z ⟨ln,0,Y⟩),O I (bt k d:Int)] W λe w'=>e=aC (aH #[X (Z ⟨pa,0,Y⟩),X (Z ⟨pb,0,Y⟩)])/\M D W w'):=λW=>by
   have:=Jay (Z ⟨n,0,Y⟩) (Z ⟨ln,0,Y⟩) (bt k d) W;rw[uN]at this;exact this
  have yx:J (∀W,M D w W->aB N 332 #[O I (wj:Int),O I (d:Int),aH #[X (Z ⟨pa,0,Y⟩),X (Z ⟨pb,0,Y⟩)]] W λe w'=>∃m,e=aC (aI #[X (Z ⟨m,0,Y⟩),aK])/\Jl (dgW wj) F w' m (Tr.pair t (.leaf k o) d (bt k d))/\M D W w'):=λW hT=>by
   refine(Zi E wj Hf hw d pa pb pl pr F hd W (hE.tch hT noE) (jw.next hT) (hpr.next hT)).mono ?_;rintro e w'⟨m,rfl,h1,h2,h3⟩;refine⟨m,rfl,?_,h3⟩;rw[hpt];exact .br m d pa pb pl pr (HF m (Qm hT.size h1)) h2 ((jw.next hT).next h3) ((hpr.next hT).next h3)
  generalize (⟨k.toArray⟩:BA)=kb at *;generalize Tr.pair t (.leaf k o) d (bt k d)=tr at *;generalize bt k d=bk at *;go_enter func270,ntmps270;go_wp2_with fail;refine(HC.o _ (Ta _ _ _)).mono ?_;rintro _ _⟨rfl,rfl⟩;have HA:J (M D w (w.alloc (T #[O I (wj:Int),X rv] 146)).drew):=(Ta D w _).trans (Td _ _ 1) (λ_ h=>.inl h);go_wp2_with fail;go_region_held3 (λW=>W.cell? ⟨w.heap.size,0,Y⟩=Z (O I (wj:Int))/\W.cell? ⟨ln,1,Y⟩=Z (L kb)) (go_keep) ((first|(go_at_call 288;refine(ye _).mono ?_;rintro _ _⟨rfl,rfl⟩)|(go_at_call 333;refine(dN _).mono ?_;rintro _ w1⟨rfl,H6⟩;have gQ:w.heap.size<w1.heap.size:=Qk (by simp) H6.size;have hk0:w1.cell? ⟨w.heap.size,0,Y⟩=Z (O I (wj:Int)):=(H6.cell (p:=⟨w.heap.size,0,Y⟩) (by simp) (λh=>h)).trans (Ja (Qf _ _));have jg:w1.cell? ⟨ln,1,Y⟩=Z (L kb):=((HA.trans H6 noE).cell (p:=⟨ln,1,Y⟩) H5 (λh=>h)).trans clk;have H3:J (M D w w1):=HA.trans H6 noE)|(go_at_call 332;refine(yx _ H3).mono ?_;rintro _ w2⟨m,rfl,hm,H7⟩;have hj0:=(H7.cell (p:=⟨w.heap.size,0,Y⟩) gQ (λh=>h)).trans hk0;have hj1:=(H7.cell (p:=⟨ln,1,Y⟩) (by have:=H3.o.size;show ln<_;omega) (λh=>h)).trans jg;have HM:J _:=hm;have H4:J (M D w w2):=H3.trans H7 noE)))
  all_goals go_wp2;go_ret2;exact⟨m,rfl,HM,H4⟩
theorem Jl9(E:Nat->Addr)(wj:Nat)(Hf:1<=wj)(hw:wj<=32)(F:Nat->Prop)(rv:Option Addr)(k:Key)(o:Nat×Nat)(hk:TrOk wj (.leaf k o))(d:Nat)(b:Nat)(hb:b<8*(wj+1))(mi:¬d<b)(l r:Tr)(n nl nr ln:Nat)(w:aA)(hE:Env E w)(hF:∀j,w.heap.size<=j->F j)(hZ:w.heap[n]? =Z (T (brC (Tr.dig (dgW wj) (.br b l r)) b nl nr) 243))(jH:Jl (dgW wj) F w nl l)(rJ:Jl (dgW wj) F w nr r)(jh:Jl (dgW wj) F w ln (.leaf k o))
 (ih:∀(s:Nat)(tg:Tr),((s=nl/\tg=l.graft k o d/\bt k b=0)\/(s=nr/\tg=r.graft k o d/\bt k b ≠ 0))->∀W,M D w W->aB N 270 #[aH #[O I (wj:Int),X rv],X (Z ⟨s,0,Y⟩),X (Z ⟨ln,0,Y⟩),O I (d:Int)] W λe w'=>∃m,e=aC (aI #[X (Z ⟨m,0,Y⟩),aK])/\Jl (dgW wj) F w' m tg/\M D W w'):
  aB N 270 #[aH #[O I (wj:Int),X rv],X (Z ⟨n,0,Y⟩),X (Z ⟨ln,0,Y⟩),O I (d:Int)] w λe w'=>∃m,e=aC (aI #[X (Z ⟨m,0,Y⟩),aK])/\Jl (dgW wj) F w' m (Tr.graft k o d (.br b l r))/\M D w w':=by
 have jW:=hk.1;have H5:=jh.own.2;have nU:=(Jb hZ)
 have clk:w.cell? ⟨ln,1,Y⟩=Z (L ⟨k.toArray⟩):=by cases jh with|leaf _ _ _ _ hr=>exact Ja hr
 obtain⟨-, -, -, -,c4,c5,c6⟩:=rows hZ;have ye:J (∀W,_):=λW=>XL k b (by omega) (by omega) W;have ey:J (∀W,M D w W->_):=λW hT=>Jbc n _ b nl nr W ((hT.block n nU (λh=>h)).trans hZ);have hdi:¬(d:Int)<(b:Int):=by omega
 have hbt:=Yv k b;have cW:J _:=ih;have xl:(bt k b=0/\Tr.graft k o d (.br b l r)=.br b (l.graft k o d) r)\/(bt k b=1/\Tr.graft k o d (.br b l r)=.br b l (r.graft k o d)):=by
  simp only[Tr.graft];rw[if_neg mi]
  by_cases h0:bt k b=0
  ·exact .inl ⟨h0,by rw[if_pos h0]⟩
  ·exact .inr ⟨by omega,by rw[if_neg h0]⟩
 generalize (⟨k.toArray⟩:BA)=kb at *;have HE:J _:=hE;have HF:J _:=hF;have nK:J _:=jH;have zx:J _:=rJ
 rcases xl with⟨(j6:J _),hg⟩|⟨h1,hg⟩
 case' inl=>
  rw[hg];rw[j6]at ye;have pP:J _:=cW nl (l.graft k o d) (.inl ⟨rfl,rfl,j6⟩);have dN:J (∀(m:Nat) W,_):=λm W=>Jay (Z ⟨nr,0,Y⟩) (Z ⟨m,0,Y⟩) 0 W;have yx:J (∀(m:Nat) W,M D w W->Jl (dgW wj) F W m (l.graft k o d)->aB N 332 #[O I (wj:Int),O I (b:Int),aH #[X (Z ⟨m,0,Y⟩),X (Z ⟨nr,0,Y⟩)]] W λe w'=>∃q,e=aC (aI #[X (Z ⟨q,0,Y⟩),aK])/\Jl (dgW wj) F w' q (.br b (l.graft k o d) r)/\M D W w'):=λm W hT hm=>by
   refine(Zi E wj Hf hw b m nr (l.graft k o d) r F hb W (HE.tch hT noE) hm (zx.next hT)).mono ?_;rintro e w'⟨q,rfl,h1,h2,h3⟩;exact⟨q,rfl,.br q b m nr (l.graft k o d) r (HF q (Qm hT.size h1)) h2 (hm.next h3) ((zx.next hT).next h3),h3⟩
  clear hg cW
 case' inr=>
  rw[hg];have j6:J _:=h1;rw[h1]at ye;have pP:J _:=cW nr (r.graft k o d) (.inr ⟨rfl,rfl,by omega⟩);have dN:J (∀(m:Nat) W,_):=λm W=>Jay (Z ⟨nl,0,Y⟩) (Z ⟨m,0,Y⟩) 1 W;have yx:J (∀(m:Nat) W,M D w W->Jl (dgW wj) F W m (r.graft k o d)->aB N 332 #[O I (wj:Int),O I (b:Int),aH #[X (Z ⟨nl,0,Y⟩),X (Z ⟨m,0,Y⟩)]] W λe w'=>∃q,e=aC (aI #[X (Z ⟨q,0,Y⟩),aK])/\Jl (dgW wj) F w' q (.br b l (r.graft k o d))/\M D W w'):=λm W hT hm=>by
   refine(Zi E wj Hf hw b nl m l (r.graft k o d) F hb W (HE.tch hT noE) (nK.next hT) hm).mono ?_;rintro e w'⟨q,rfl,h1,h2,h3⟩;exact⟨q,rfl,.br q b nl m l (r.graft k o d) (HF q (Qm hT.size h1)) h2 ((nK.next hT).next h3) (hm.next h3),h3⟩
 all_goals
  go_enter func270,ntmps270;go_wp2_with fail;refine(ey _ (Ta _ _ _)).mono ?_;rintro _ _⟨rfl,rfl⟩;have qP:M D w (w.alloc (T #[O I (wj:Int),X rv] 146)):=Ta _ _ _;obtain⟨wA,gH⟩:∃wA,wA=w.alloc (T #[O I (wj:Int),X rv] 146):=⟨_,rfl⟩
  rw[<-gH]at qP ⊢;have nX:=qu gH;have hzA:=(Jb nX)
  have xA:J (∀W,M D wA W->(W.cell? ⟨w.heap.size,0,Y⟩=Z (O I (wj:Int))/\W.cell? ⟨w.heap.size,1,Y⟩=Z (X rv)/\W.cell? ⟨ln,1,Y⟩=Z (L kb)/\W.cell? ⟨n,4,Y⟩=Z (O I (b:Int))/\W.cell? ⟨n,5,Y⟩=Z (X (Z ⟨nl,0,Y⟩))/\W.cell? ⟨n,6,Y⟩=Z (X (Z ⟨nr,0,Y⟩)))/\M D w W):=λW hT=>
   ⟨⟨(hT.cell (p:=⟨w.heap.size,0,Y⟩) hzA (λh=>h)).trans (Ja nX),(hT.cell (p:=⟨w.heap.size,1,Y⟩) hzA (λh=>h)).trans (Ja nX),((qP.trans hT noE).cell (p:=⟨ln,1,Y⟩) H5 (λh=>h)).trans clk,((qP.trans hT noE).cell (p:=⟨n,4,Y⟩) nU (λh=>h)).trans c4,((qP.trans hT noE).cell (p:=⟨n,5,Y⟩) nU (λh=>h)).trans c5,((qP.trans hT noE).cell (p:=⟨n,6,Y⟩) nU (λh=>h)).trans c6⟩,qP.trans hT noE⟩
  obtain⟨⟨a0,a1,a2,a3,a4,a5⟩,_⟩:=xA wA (Te _ _);clear qP nX gH clk c4 c5 c6;go_wp2_with fail;go_region_held3 (λW=>W.cell? ⟨ln,1,Y⟩=Z (L kb)/\W.cell? ⟨n,4,Y⟩=Z (O I (b:Int))) (go_keep) ((go_at_call 288;refine(ye _).mono ?_;rintro _ _⟨rfl,rfl⟩));have gF:J (∀q,_):=λq=>(xA _ (Td _ wA q)).2;go_wp2_with fail;go_region_held3 (λW=>W.cell? ⟨w.heap.size,0,Y⟩=Z (O I (wj:Int))/\W.cell? ⟨w.heap.size,1,Y⟩=Z (X rv)/\W.cell? ⟨n,5,Y⟩=Z (X (Z ⟨nl,0,Y⟩))/\W.cell? ⟨n,6,Y⟩=Z (X (Z ⟨nr,0,Y⟩))) (go_keep) ((go_at_call 270;refine(pP _ (gF 2)).mono ?_;rintro _ w2⟨m,rfl,(HM:J _),H7⟩;have jr:=(Td D wA 2).trans H7 noE;obtain⟨⟨b0,b1,b2,b3,b4,b5⟩,(gM:J _)⟩:=xA w2 jr;have H4:J _:=jr;clear H7 jr))
  all_goals
   have q9:I.wrap 0=0:=(by decide);have gQ:I.wrap 1=1:=(by decide);have gF:J (∀q,_):=λq=>H4.trans (Td D w2 q) noE;go_wp2_with fail;go_region_held3 (λW=>W.cell? ⟨w.heap.size,0,Y⟩=Z (O I (wj:Int))/\W.cell? ⟨n,4,Y⟩=Z (O I (b:Int))/\W.cell? ⟨n,5,Y⟩=Z (X (Z ⟨nl,0,Y⟩))/\W.cell? ⟨n,6,Y⟩=Z (X (Z ⟨nr,0,Y⟩))) (go_keep) ((first|(go_at_call 333;refine(dN m _).mono ?_;rintro _ w3⟨rfl,Hm⟩;have zg:=(gF 1).trans Hm noE;obtain⟨⟨d0,d1,d2,d3,d4,d5⟩,(jR:J _)⟩:=xA w3 zg;have cP:J _:=(HM.next (Td D w2 1)).next Hm;have H8:J _:=zg;clear Hm zg)|(go_at_call 332;refine(yx m _ jR cP).mono ?_;rintro _ w4⟨q,rfl,(HQ:J _),Ho⟩;have qN:=H8.trans Ho noE;obtain⟨⟨f0,f1,f2,f3,f4,f5⟩,(tH:J _)⟩:=xA w4 qN;clear Ho qN)))
   all_goals go_wp2;go_ret2;exact⟨q,rfl,HQ,tH⟩
theorem Jkw(E:Nat->Addr)(wj:Nat)(Hf:1<=wj)(hw:wj<=32)(F:Nat->Prop)(rv:Option Addr)(k:Key)(o:Nat×Nat)(hk:TrOk wj (.leaf k o))(d:Nat)(hd:d<8*(wj+1))(ln:Nat):∀(t:Tr)(n:Nat)(w:aA),TrOk wj t->Env E w->(∀j,w.heap.size<=j->F j)->Jl (dgW wj) F w n t->Jl (dgW wj) F w ln (.leaf k o)->
  aB N 270 #[aH #[O I (wj:Int),X rv],X (Z ⟨n,0,Y⟩),X (Z ⟨ln,0,Y⟩),O I (d:Int)] w λe w'=>∃m,e=aC (aI #[X (Z ⟨m,0,Y⟩),aK])/\Jl (dgW wj) F w' m (t.graft k o d)/\M D w w':=by
 intro t
 induction t with
 | leaf k' o'=>
  intro n w _ hE hF hn jh;refine Jfh E wj Hf hw F rv k o hk d hd (.leaf k' o') n ln w hE hF hn jh (.inl λW hT=>?_)
  cases hn with
  | leaf _ _ _ _ hr=>exact JaR n _ k' o' W ((hT.block n (Jb hr) (λh=>h)).trans hr)
 | br b l r ihl ihr=>
  intro n w Hb hE hF hn jh;obtain⟨hb,zb,zd⟩:=Hb;have mj:=hn
  cases hn with
  | br _ _ nl nr _ _ hFn hr jH rJ=>
   by_cases mi:d<b
   ·have:=Jfh E wj Hf hw F rv k o hk d hd (.br b l r) n ln w hE hF mj jh (.inr ⟨b,λW hT=>Jbc n _ b nl nr W ((hT.block n (Jb hr) (λh=>h)).trans hr),Ja hr,by omega⟩);have e:Tr.graft k o d (.br b l r)=Tr.pair (.br b l r) (.leaf k o) d (bt k d):=(by simp only[Tr.graft];rw[if_pos mi]);rw[e];exact this
   ·refine Jl9 E wj Hf hw F rv k o hk d b hb mi l r n nl nr ln w hE hF hr jH rJ jh ?_;rintro s tg (⟨rfl,rfl,_⟩|⟨rfl,rfl,_⟩) W hT
    ·exact ihl s W zb (hE.tch hT noE) (λj hj=>hF j (Qm hT.size hj)) (jH.next hT) (jh.next hT)
    ·exact ihr s W zd (hE.tch hT noE) (λj hj=>hF j (Qm hT.size hj)) (rJ.next hT) (jh.next hT)

def StAt(d:List UInt8->BA)(F:Nat->Prop)(w:aA):Option Nat->Option Tr->Prop
 | none,Y=>True
 | some n,Z t=>Jl d F w n t
 | _,_=>False
abbrev Jm(q:Option Nat):aG:=X (q.map λn=>⟨n,0,Y⟩)
theorem StAt.tch(h:StAt d F w q st)(k:M S w w')(hs:∀j,S j->¬F j):StAt d F w' q st:=by
 cases q<;>cases st<;>first|exact h|exact Jl.tch h k hs
theorem StAt.next(h:StAt d F w q st)(k:M D w w'):StAt d F w' q st:=h.tch k noE
theorem StAt.mono{F':Nat->Prop}(h:StAt d F w q st)(hF:∀j,F j->F' j):StAt d F' w q st:=by
 cases q<;>cases st<;>first|exact h|exact Jl.mono h hF
def StOk(wj:Nat):Option Tr->Prop
 | none=>True
 | some t=>TrOk wj t
abbrev JgC(wj:Nat)(F:Nat->Prop)(r:Option Tr)(W:aA)(e:Ending)(w':aA):Prop:=∃q,e=aC (aI #[Jm q,aK])/\StAt (dgW wj) F w' q r/\M D W w'
theorem StAt.of_some(h:StAt d F w q (Z t)):∃m,q=Option.some m/\Jl d F w m t:=by
 cases q with
 | none=>exact h.elim
 | some m=>exact⟨m,rfl,h⟩
theorem StAt.of_none(h:StAt d F w q Option.none):q=Option.none:=by
 cases q with
 | none=>rfl
 | some m=>exact h.elim
theorem JlX(wj:Nat)(F:Nat->Prop)(rv:Option Addr)(k:Key)(n:Nat)(w:aA)(k':Key)(o':Nat×Nat)(hn:Jl (dgW wj) F w n (.leaf k' o')):
  aB N 339 #[aH #[O I (wj:Int),X rv],X (Z ⟨n,0,Y⟩),L ⟨k.toArray⟩] w λe w'=>JgC wj F Y w e w':=by
 have ey:J (∀W,M D w W->aB N 224 #[X (Z ⟨n,0,Y⟩)] W λe w'=>e=aC (aL true)/\w'=W):=λW hT=>by
  cases hn with
  | leaf _ _ _ _ hr=>exact JaR n _ k' o' W ((hT.block n (Jb hr) (λh=>h)).trans hr)
 clear hn;generalize (⟨k.toArray⟩:BA)=kb at *;go_enter func339,ntmps339;go_wp2_with fail;refine(ey.o _ (Ta _ _ _)).mono ?_;rintro _ _⟨rfl,rfl⟩;go_wp2;go_ret2;exact⟨Y,rfl,trivial,Ta _ _ _⟩
theorem JlW(wj:Nat)(F:Nat->Prop)(rv:Option Addr)(k:Key)(jW:k.length=wj+1)(hw:wj<=32)(b:Nat)(hb:b<8*(wj+1))(n nl nr:Nat)(w:aA)(d:BA)(hZ:w.heap[n]? =Z (T (brC d b nl nr) 243))(v nc no:Nat)(hv:(v=0/\nl=nc/\nr=no)\/(v=1/\nl=no/\nr=nc))(hbt:bt k b=v)(st res:Option Tr)
 (ih:∀W,M D w W->aB N 339 #[aH #[O I (wj:Int),X rv],X (Z ⟨nc,0,Y⟩),L ⟨k.toArray⟩] W λe w'=>JgC wj F st W e w')
 (hN:st=Y->∀W,M D w W->StAt (dgW wj) F W (Z no) res)
 (hS:∀s,st=Z s->∀(m:Nat) W,M D w W->Jl (dgW wj) F W m s->aB N 332 #[O I (wj:Int),O I (b:Int),if v=0 then aH #[X (Z ⟨m,0,Y⟩),X (Z ⟨no,0,Y⟩)] else aH #[X (Z ⟨no,0,Y⟩),X (Z ⟨m,0,Y⟩)]] W λe w'=>∃q,e=aC (aI #[X (Z ⟨q,0,Y⟩),aK])/\StAt (dgW wj) F w' (Z q) res/\M D W w'):
  aB N 339 #[aH #[O I (wj:Int),X rv],X (Z ⟨n,0,Y⟩),L ⟨k.toArray⟩] w λe w'=>JgC wj F res w e w':=by
 have nU:=(Jb hZ)
 obtain⟨-, -, -, -,c4,c5,c6⟩:=rows hZ;have ye:J (∀W,aB N 288 #[L ⟨k.toArray⟩,O I (b:Int)] W λe w'=>e=aC (O I (v:Int))/\W=w'):=λW=>by
  have:=XL k b (by omega) (by omega) W;rw[hbt]at this;exact this.mono λe w' h=>⟨h.1,h.2.symm⟩
 have ey:J (∀W,M D w W->_):=λW hT=>Jbc n _ b nl nr W ((hT.block n nU (λh=>h)).trans hZ);have pP:J _:=ih;have dN:J (∀(m:Nat) W,_):=λm W=>Jay (Z ⟨no,0,Y⟩) (Z ⟨m,0,Y⟩) v W;have HN:J _:=hN;have HS:J _:=hS;generalize (⟨k.toArray⟩:BA)=kb at *;have qP:M D w (w.alloc (T #[O I (wj:Int),X rv] 146)):=Ta _ _ _;obtain⟨wA,(HWA:J _)⟩:∃wA,wA=w.alloc (T #[O I (wj:Int),X rv] 146):=⟨_,rfl⟩
 rw[<-HWA]at qP;have nX:wA.heap[w.heap.size]? =Z (T #[O I (wj:Int),X rv] 146):=by rw[HWA];exact Qf _ _
 have hzA:=(Jb nX)
 have xA:J (∀W,M D wA W->(W.cell? ⟨w.heap.size,0,Y⟩=Z (O I (wj:Int))/\W.cell? ⟨w.heap.size,1,Y⟩=Z (X rv)/\W.cell? ⟨n,4,Y⟩=Z (O I (b:Int))/\W.cell? ⟨n,5,Y⟩=Z (X (Z ⟨nl,0,Y⟩))/\W.cell? ⟨n,6,Y⟩=Z (X (Z ⟨nr,0,Y⟩)))/\M D w W):=λW hT=>by
  have h1:=(hT.block _ hzA (λh=>h)).trans nX;have h2:=qP.trans hT noE;have h3:=(h2.block n nU (λh=>h)).trans hZ;exact⟨⟨Ja h1,Ja h1,Ja h3,Ja h3,Ja h3⟩,h2⟩
 have gF:J (∀q,_):=λq=>(xA _ (Td _ wA q)).2;have q9:I.wrap 0=0:=by decide
 have gQ:I.wrap 1=1:=by decide
 clear qP nX hZ
 rcases hv with⟨rfl,rfl,rfl⟩|⟨rfl,rfl,rfl⟩
 all_goals
  simp only[if_true,Nat.succ_ne_self,if_false,Int.natCast_zero,Int.natCast_one]at dN HS ye;go_enter func339,ntmps339;go_wp2_with fail;refine(ey _ (Ta _ _ _)).mono ?_;rintro _ _⟨rfl,rfl⟩;rw[<-HWA.o];obtain⟨⟨a0,a1,a3,a4,a5⟩,_⟩:=xA wA (Te _ _);go_wp2_with fail;refine(ye _).mono ?_;rintro _ _⟨rfl,rfl⟩;go_wp2_with fail
  cases st
  all_goals go_region_held3 (λW=>W.cell? ⟨w.heap.size,0,Y⟩=Z (O I (wj:Int))/\W.cell? ⟨w.heap.size,1,Y⟩=Z (X rv)/\W.cell? ⟨n,5,Y⟩=Z (X (Z ⟨nl,0,Y⟩))/\W.cell? ⟨n,6,Y⟩=Z (X (Z ⟨nr,0,Y⟩))) (go_keep) ((go_at_call 339;refine(pP _ (gF 1)).mono ?_;rintro _ w2⟨q,rfl,hq,H7⟩;have jr:=(Td D wA 1).trans H7 noE;obtain⟨⟨b0,b1,b3,b4,b5⟩,(gM:J _)⟩:=xA w2 jr;(first|(obtain⟨m,rfl,(HM:J _)⟩:=hq.of_some)|(obtain rfl:=hq.of_none));have H4:J _:=jr;clear H7 jr))
  ·go_wp2;go_ret2;exact⟨Z _,rfl,HN (by trivial) _ gM,gM⟩
  ·have gF:J (∀q,_):=λq=>H4.trans (Td D w2 q) noE;go_wp2_with fail;go_region_held3 (λW=>W.cell? ⟨w.heap.size,0,Y⟩=Z (O I (wj:Int))/\W.cell? ⟨n,4,Y⟩=Z (O I (b:Int))) (go_keep) ((first|(go_at_call 333;refine(dN m _).mono ?_;rintro _ w3⟨rfl,Hm⟩;have zg:=(gF 1).trans Hm noE;obtain⟨⟨d0,d1,d3,d4,d5⟩,(jR:J _)⟩:=xA w3 zg;have cP:J _:=(HM.next (Td D w2 1)).next Hm;have H8:J _:=zg;clear Hm zg)|(go_at_call 332;refine(HS _ rfl m _ jR cP).mono ?_;rintro _ w4⟨q,rfl,(HQ:J _),Ho⟩;have qN:=H8.trans Ho noE;obtain⟨⟨f0,f1,f3,f4,f5⟩,(tH:J _)⟩:=xA w4 qN;clear Ho qN)))
   all_goals go_wp2;go_ret2;exact⟨Z q,rfl,HQ,tH⟩
theorem Jn0(E:Nat->Addr)(wj:Nat)(Hf:1<=wj)(hw:wj<=32)(F:Nat->Prop)(rv:Option Addr)(k:Key)(jW:k.length=wj+1):∀(t:Tr)(n:Nat)(w:aA),TrOk wj t->Env E w->(∀j,w.heap.size<=j->F j)->Jl (dgW wj) F w n t->
  aB N 339 #[aH #[O I (wj:Int),X rv],X (Z ⟨n,0,Y⟩),L ⟨k.toArray⟩] w λe w'=>JgC wj F (t.cut k) w e w':=by
 intro t
 induction t with
 | leaf k' o'=>
  intro n w _ _ _ hn;exact JlX wj F rv k n w k' o' hn
 | br b l r ihl ihr=>
  intro n w Hb hE hF hn;obtain⟨hb,zb,zd⟩:=Hb
  cases hn with
  | br _ _ nl nr _ _ hFn hr jH rJ=>
   have il:∀W,M D w W->_:=λW (hT:M D w W)=>ihl nl W zb (hE.tch hT noE) (λj hj=>hF j (Qm hT.size hj)) (jH.next hT);have ir:∀W,M D w W->_:=λW (hT:M D w W)=>ihr nr W zd (hE.tch hT noE) (λj hj=>hF j (Qm hT.size hj)) (rJ.next hT);have nb:∀(a c:Tr)(x y:Nat) W,M D w W->Jl (dgW wj) F W x a->Jl (dgW wj) F W y c->aB N 332 #[O I (wj:Int),O I (b:Int),aH #[X (Z ⟨x,0,Y⟩),X (Z ⟨y,0,Y⟩)]] W λe w'=>∃q,e=aC (aI #[X (Z ⟨q,0,Y⟩),aK])/\StAt (dgW wj) F w' (Z q) (Z (.br b a c))/\M D W w':=λa c x y W hT hx hy=>by
    refine(Zi E wj Hf hw b x y a c F hb W (hE.tch hT noE) hx hy).mono ?_;rintro e w'⟨q,rfl,h1,h2,h3⟩;exact⟨q,rfl,.br q b x y a c (hF q (Qm hT.size h1)) h2 (hx.next h3) (hy.next h3),h3⟩
   simp only[Tr.cut]
   by_cases h0:bt k b=0
   ·rw[if_pos h0];refine JlW wj F rv k jW hw b hb n nl nr w _ hr 0 nl nr (.inl ⟨rfl,rfl,rfl⟩) h0 _ _ il (λh W hT=>?_) (λs h m W hT hm=>?_)
    ·rw[h];exact rJ.next hT
    ·rw[h];exact nb s r m nr W hT hm (rJ.next hT)
   ·have h1:bt k b=1:=(by have:=Yv k b;omega);rw[if_neg h0];refine JlW wj F rv k jW hw b hb n nl nr w _ hr 1 nr nl (.inr ⟨rfl,rfl,rfl⟩) h1 _ _ ir (λh W hT=>?_) (λs h m W hT hm=>?_)
    ·rw[h];exact jH.next hT
    ·rw[h];exact nb l s nl m W hT (jH.next hT) hm
open Go.RowKit Go.Shelf

attribute [local go_sem] Oper.semAt_some

theorem Jh5(n:Nat)(dg:BA)(k':Key)(o:Nat×Nat)(k:Key)(hk:1<=k.length)(kt:k.length<=1000000)(w:aA)(h:w.heap[n]? =Z (T (JaH dg k' o) 243)):
  aB N 296 #[X (Z ⟨n,0,Y⟩),L ⟨k.toArray⟩] w λe w'=>e=aC (X Y)/\∃m,w'=w.drewN m:=by
 obtain⟨-, -, -, -,c4,c5,c6⟩:=rows h;have HB:J (∀W,_):=λW=>XL k 0 (by omega) kt W;have hb:=Yv k 0;generalize (⟨k.toArray⟩:BA)=kb at *;generalize bt k 0=a at *;obtain rfl|rfl:a=0\/a=1:=by omega
 all_goals
  go_enter func296,ntmps296;go_wp2;go_region_with (go_at_call 288;refine(HB _).mono ?_;rintro _ _⟨rfl,rfl⟩)
  all_goals go_wp2
  all_goals go_ret
  all_goals exact⟨rfl,1,rfl⟩
theorem Jli(n:Nat)(dg:BA)(b nl nr:Nat)(k:Key)(hk:b<8*k.length)(kt:k.length<=1000000)(w:aA)(h:w.heap[n]? =Z (T (brC dg b nl nr) 243)):
  aB N 296 #[X (Z ⟨n,0,Y⟩),L ⟨k.toArray⟩] w λe w'=>e=aC (X (Z ⟨if bt k b=0 then nl else nr,0,Y⟩))/\∃m,w'=w.drewN m:=by
 obtain⟨-, -, -, -,c4,c5,c6⟩:=rows h;have HB:J (∀W,_):=λW=>XL k b hk kt W;have hb:=Yv k b;generalize (⟨k.toArray⟩:BA)=kb at *;generalize bt k b=a at *;obtain rfl|rfl:a=0\/a=1:=by omega
 ·rw[if_pos rfl];go_enter func296,ntmps296;go_wp2;go_region_with (go_at_call 288;refine(HB _).mono ?_;rintro _ _⟨rfl,rfl⟩)
  all_goals go_wp2
  all_goals go_ret
  all_goals exact⟨rfl,1,rfl⟩
 ·rw[if_neg (by decide)];go_enter func296,ntmps296;go_wp2;go_region_with (go_at_call 288;refine(HB _).mono ?_;rintro _ _⟨rfl,rfl⟩)
  all_goals go_wp2
  all_goals go_ret
  all_goals exact⟨rfl,1,rfl⟩

attribute [local go_sem] Oper.semAt_some

def Way(n₀:Nat)(k:Key)(W:aA):Option Nat->List Nat->Prop
 | q,[]=>q=Y
 | q,x::xs=>q=Z x/\x<n₀/\((∃dg k' o,W.heap[x]? =Z (T (JaH dg k' o) 243)/\xs=[])\/(∃dg b nl nr,W.heap[x]? =Z (T (brC dg b nl nr) 243)/\b<8*k.length/\Way n₀ k W (Z (if bt k b=0 then nl else nr)) xs))
theorem Way.below{A B:aA}(h:Below n₀ A B):∀{q:Option Nat} {xs:List Nat},Way n₀ k A q xs->Way n₀ k B q xs
 | _,[],hl=>hl
 | _,x::xs,⟨h1,h2,h3⟩=>⟨h1,h2,by
   rcases h3 with⟨dg,k',o,hr,he⟩|⟨dg,b,nl,nr,hr,hb,hw⟩
   ·exact .inl ⟨dg,k',o,(h.block x h2).trans hr,he⟩
   ·exact .inr ⟨dg,b,nl,nr,(h.block x h2).trans hr,hb,Way.below h hw⟩⟩
theorem JfF{x:Nat}{dg dg':BA}{k':Key}{nl nr:Nat}(h:W.heap[x]? =Z (T (JaH dg k' o) 243))(h':W.heap[x]? =Z (T (brC dg' b nl nr) 243)):False:=by
 rw[h]at h';simp[JaH,brC]at h'
theorem Way.unique:∀{q:Option Nat} {xs ys:List Nat},Way n₀ k W q xs->Way n₀ k W q ys->xs=ys
 | _,[],[],_,_=>rfl
 | _,[],_::_,h,⟨h',_⟩=>by rw[h]at h';cases h'
 | _,_::_,[],⟨h',_⟩,h=>by rw[h]at h';cases h'
 | _,x::xs,y::ys,⟨h1,_,h3⟩,⟨k1,_,k3⟩=>by
  rw[h1]at k1
  cases k1
  rcases h3 with⟨dg,k',o,hr,rfl⟩|⟨dg,b,nl,nr,hr,hb,hw⟩
  ·rcases k3 with⟨_,_,_,_,rfl⟩|⟨_,_,_,_,kL,_⟩
   ·rfl
   ·exact(JfF hr kL).elim
  ·rcases k3 with⟨_,_,_,kL,_⟩|⟨dg',b',nl',nr',kL,_,yT⟩
   ·exact(JfF kL hr).elim
   ·rw[hr]at kL;simp only[brC,Qh,Obj.cells.injEq,and_true]at kL;have e4:=congrArg (λa=>a[4]?) kL;have e5:=congrArg (λa=>a[5]?) kL;have e6:=congrArg (λa=>a[6]?) kL;simp at e4 e5 e6;obtain rfl:b=b':=(by omega);subst e5 e6;rw[Way.unique hw yT]
open Classical in
noncomputable def Jdx(n₀:Nat)(k:Key)(W:aA)(v:aG):Nat:=
 if h:∃r:Option Nat×List Nat,v=Jm r.1/\Way n₀ k W r.1 r.2 then (Classical.choose h).2.length else 0
theorem Jk3{q':Option Nat}(h:Jm q=Jm q'):q=q':=by
 cases q<;>cases q'<;>simp[Jm]at h ⊢
 exact h
theorem JbN{xs:List Nat}(h:Way n₀ k W q xs):Jdx n₀ k W (Jm q)=xs.length:=by
 have cp:∃r:Option Nat×List Nat,Jm q=Jm r.1/\Way n₀ k W r.1 r.2:=⟨(q,xs),rfl,h⟩
 unfold Jdx;rw[dif_pos cp];obtain⟨e,hl⟩:=Classical.choose_spec cp;rw[<-Jk3 e]at hl;rw[Way.unique hl h]
theorem Jl.way(hk:k.length=wj+1)(h:Jl d F w n t)(Hb:TrOk wj t):∃xs m,Way w.heap.size k w (Z n) xs/\xs.getLast? =Z m/\Jl d F w m (.leaf (t.near k).1 (t.near k).2):=by
 induction h with
 | leaf n k' o hF hr=>exact⟨[n],n,⟨rfl,(Jb hr),.inl ⟨_,_,_,hr,rfl⟩⟩,rfl,.leaf n k' o hF hr⟩
 | br n b nl nr l r hF hr hl kL ihl ihr=>
  obtain⟨hb,zb,zd⟩:=Hb;simp only[Tr.near]
  by_cases h0:bt k b=0
  ·obtain⟨xs,m,h1,h2,h3⟩:=ihl zb;refine⟨n::xs,m,⟨rfl,(Jb hr),.inr ⟨_,b,nl,nr,hr,by omega,by rw[if_pos h0];exact h1⟩⟩,?_,by rw[if_pos h0];exact h3⟩
   cases xs with
   | nil=>cases h2
   | cons x xs=>rw[List.getLast?_cons_cons];exact h2
  ·obtain⟨xs,m,h1,h2,h3⟩:=ihr zd;refine⟨n::xs,m,⟨rfl,(Jb hr),.inr ⟨_,b,nl,nr,hr,by omega,by rw[if_neg h0];exact h1⟩⟩,?_,by rw[if_neg h0];exact h3⟩
   cases xs with
   | nil=>cases h2
   | cons x xs=>rw[List.getLast?_cons_cons];exact h2
theorem JjB(wj:Int)(rv:Option Addr)(kb:BA)(w:aA):
  CallsIn Fence.wide 3 N 223 #[aH #[O I wj,X rv],L kb] w λe w'=>e=aC (.func (.func 295) #[] #[X (Z ⟨w.heap.size,0,Y⟩),X (Z ⟨w.heap.size+1,0,Y⟩)])/\w'=(w.alloc (T #[O I wj,X rv] 146)).alloc (T #[L kb] 9):=by
 refine callsIn_wide.2 ?_;have vF:∀(fn:Fn)(first cap:Array aG)(w:aA),(Instr.makeFunc fn first cap).run N w=.ok (.func fn first cap) w:=λ_ _ _ _=>rfl;go_enter func223,ntmps223;go_wp2;go_ret;exact⟨rfl,rfl⟩
def JgE(n₀ Bk:Nat)(W W':aA):Prop:=Below n₀ W W'/\∀v,W.cell? ⟨Bk,0,Y⟩=Z v->W'.cell? ⟨Bk,0,Y⟩=Z v
theorem JgV(n:Nat)(hn:2<=n)(l Bt Bk n₀:Nat)(k:Key)(jg:1<=k.length)(kt:k.length<=1000000)(q:Option Nat)(xs:List Nat)(aR Jx:List Nat->aA->Prop)
 (hJ:∀pre W m,aR pre W->aR pre (W.drewN m))
 (hY:∀pre x W,aR pre W->xs[pre.length]? =Z x->YieldAt Fence.wide (n-1) N l #[X (Z ⟨x,0,Y⟩)] W λe W'=>
 (e=aC (aL true)/\aR (pre++[x]) W'/\JgE n₀ Bk W W')\/(e=aC (aL false)/\Jx (pre++[x]) W'))
 (W:aA) (hBt:W.cell? ⟨Bt,1,Y⟩=Z (Jm q)) (iA:W.cell? ⟨Bk,0,Y⟩=Z (L ⟨k.toArray⟩)) (hL:Way n₀ k W q xs) (h0:aR [] W):
  CallsIn Fence.wide n N 295 #[.func (.yield l) #[] #[],X (Z ⟨Bt,0,Y⟩),X (Z ⟨Bk,0,Y⟩)] W λe W'=>(∃v,e=aC v)/\
   ((∃ys,ys=xs/\aR ys W')\/(∃pre,pre <+:xs/\Jx pre W')):=by
 refine callsIn_of_wp func295 rfl trivial ?_ rfl;simp only[ntmps295,List.size_toArray,Qp,Qv,Nat.reduceAdd,Nat.reduceSub,Array.replicate_succ,Array.replicate_zero,List.push_toArray,List.append_toArray,List.nil_append,List.cons_append];gi_wp2;gi_loopw [4] (λp wr=>∃(pre rest:List Nat)(q:Option Nat),p=Jm q/\xs=pre++rest/\Way n₀ k wr q rest/\wr.cell? ⟨Bk,0,Y⟩=Z (L ⟨k.toArray⟩)/\aR pre wr)
  (λp wr=>Jdx n₀ k wr p)
 case atStart=>exact⟨[],xs,q,rfl,rfl,hL,iA,h0⟩
 case round=>
  obtain⟨pre,rest,q,rfl,hx,hl,hbk',hJs⟩:=hrel
  cases rest with
  | nil=>
   obtain rfl:q=Y:=hl;rw[show Jm Y=X Y from rfl];gi_wp2;refine⟨λ_ h=>(by cases h),?_⟩;gi_wp2;exact bodyPost_end (v:=aI #[]) (results_none results295 _ _ _) rfl ⟨⟨_,rfl⟩,.inl ⟨pre,by simp[hx],hJs⟩⟩
  | cons x rest=>
   have tQ:=hl;obtain⟨rfl,H5,hr⟩:=hl;obtain⟨fn,tmps,assign,body,hy,hR⟩:=hY pre x wr hJs (by rw[hx];simp);rw[show Jm (Z x)=X (Z ⟨x,0,Y⟩) from rfl];gi_wp2;refine⟨λ_=>by omega,hR.mono ?_⟩;clear hR hy hY;rintro e W3 (⟨rfl,iB,yp⟩|⟨rfl,sE⟩)
   ·have hb3:W3.cell? ⟨Bk,0,Y⟩=Z (L ⟨k.toArray⟩):=yp.2 _ hbk';have jX:=Way.below yp.1 tQ;obtain⟨_,_,kP⟩:=jX;have nY:Jdx n₀ k wr (Jm (Z x))=rest.length+1:=JbN tQ;have ah:J (_=_):=nY;clear hr tQ nY;generalize xR:(⟨k.toArray⟩:BA)=kb at *;have qE:J (_=kb):=xR;clear xR
    rcases kP with⟨dg,k',o,hZ,rfl⟩|⟨dg,b,nl,nr,hZ,tN,hw⟩
    ·have ht:=Jh5 x dg k' o k jg kt W3 hZ;rw[qE.o]at ht;gi_wp2;refine⟨trivial,λ_=>by omega,(callsIn_wide.2 ht).mono ?_⟩;rintro _ _⟨rfl,m,rfl⟩;gi_wp2;go_roundw
     case rel=>exact⟨pre++[x],[],Y,rfl,by simp[hx],rfl,by rw[qE.o];exact hb3,hJ _ _ m iB⟩
     case measure=>rw[show lC Y=Jm Y from rfl,JbN (xs:=[]) (show Way n₀ k _ Y [] from rfl),show lC (Z ⟨x,0,Y⟩)=Jm (Z x) from rfl,ah.out];simp
    ·have ht:=Jli x dg b nl nr k tN kt W3 hZ;rw[qE.o]at ht;gi_wp2;refine⟨trivial,λ_=>by omega,(callsIn_wide.2 ht).mono ?_⟩;rintro _ _⟨rfl,m,rfl⟩;have ii:Way n₀ k (W3.drewN m) (Z (if bt k b=0 then nl else nr)) rest:=Way.below (A:=W3) (B:=W3.drewN m) ⟨rfl,rfl,rfl,Ql _,λ_ _=>rfl⟩ hw;generalize (if bt k b=0 then nl else nr)=nx at *;gi_wp2;go_roundw
     case rel=>exact⟨pre++[x],rest,Z nx,rfl,by simp[hx],ii,by rw[qE.o];exact hb3,hJ _ _ m iB⟩
     case measure=>rw[show lC (Z ⟨nx,0,Y⟩)=Jm (Z nx) from rfl,JbN ii,show lC (Z ⟨x,0,Y⟩)=Jm (Z x) from rfl,ah.out];omega
   ·gi_wp2;refine bodyPost_end (v:=aI #[]) (results_none results295 _ _ _) rfl ?_;exact⟨⟨_,rfl⟩,.inr ⟨pre++[x],⟨rest,by simp[hx]⟩,sE⟩⟩
theorem JgW(n:Nat)(hn:2<=n)(Bt Bk n₀:Nat)(k:Key)(jg:1<=k.length)(kt:k.length<=1000000)(q:Option Nat)(xs:List Nat)(w:aA)(hBt:Bt<w.heap.size)(iA:Bk<w.heap.size)(hn₀:n₀<=w.heap.size)(c1:w.cell? ⟨Bt,1,Y⟩=Z (Jm q))(c2:w.cell? ⟨Bk,0,Y⟩=Z (L ⟨k.toArray⟩))(hL:Way n₀ k w q xs):
  SeqStopsK Fence.wide n N 295 #[X (Z ⟨Bt,0,Y⟩),X (Z ⟨Bk,0,Y⟩)] (λx:Nat=> #[lC (Z ⟨x,0,Y⟩)]) (JgE n₀ Bk) (λys=>ys=xs) (λpre=>pre <+:xs) xs.length w:=λl aR Jx W hW hJ _ hY h0=>
 JgV n hn l Bt Bk n₀ k jg kt q xs aR Jx (λpre W' m h=>hJ pre W' (W'.drewN m) Y h ⟨rfl,rfl,rfl,Ql _,λ_ _ _=>rfl⟩ (λr e=>by cases e)) (λpre x W hJ hx=>hY pre x W hJ (Qo.1 hx).1) W ((hW.cell (p:=⟨Bt,1,Y⟩) hBt).trans c1) ((hW.cell (p:=⟨Bk,0,Y⟩) iA).trans c2) (Way.below (hW.mono hn₀) hL) h0
theorem JdY(wj:Int)(q:Option Nat)(k:Key)(jg:1<=k.length)(kt:k.length<=1000000)(xs:List Nat)(w:aA)(hL:Way w.heap.size k w q xs):
  CallsIn Fence.wide 4 N 269 #[aH #[O I wj,Jm q],L ⟨k.toArray⟩] w λe W'=>e=aC (Jm xs.getLast?)/\Below w.heap.size w W':=by
 have h1:1<=4:=by omega
 have xH:Fence.wide.round=Y:=rfl;have HL:J _:=hL;clear hL;obtain⟨rv,Hv⟩:∃rv,rv=(q.map λn=>(⟨n,0,Y⟩:Addr)):=⟨_,rfl⟩
 have jY:J (Jm q=X rv):=by rw[Hv];rfl
 rw[jY.o];clear Hv;refine callsIn_of_wp_marks func269 rfl trivial ?_ xH;simp only[ntmps269,List.size_toArray,Qp,Qv,Nat.reduceAdd,Nat.reduceSub,Array.replicate_succ,Array.replicate_zero,List.push_toArray,List.append_toArray,List.nil_append,List.cons_append];gi_wp2;refine⟨trivial,(JjB _ _ _ _).mono ?_⟩;rintro _ _⟨rfl,rfl⟩;gi_wp2;obtain⟨WD,jI⟩:∃WD,WD=(((w.alloc (T #[O I wj,X rv] 146)).alloc (T #[X Y] 144)).alloc (T #[O I wj,X rv] 146)).alloc (T #[L ⟨k.toArray⟩] 9):=⟨_,rfl⟩
 rw[<-jI];have qF:Below w.heap.size w WD:=by rw[jI];exact((((Below.refl _ w).alloc (Ql _) _).alloc (by simp) _).alloc (by simp;omega) _).alloc (by simp;omega) _
 have hz:WD.heap.size=w.heap.size+4:=by rw[jI];simp
 have r1:WD.heap[w.heap.size+1]? =Z (T #[X Y] 144):=by rw[jI];exact(Below.heap_alloc _ _ _ (by simp)).trans (JQ _ _ _ _)
 have r2:WD.heap[w.heap.size+2]? =Z (T #[O I wj,X rv] 146):=by rw[jI];exact(Below.heap_alloc _ _ _ (by simp)).trans (JE _ _ _ _)
 have r3:WD.heap[w.heap.size+3]? =Z (T #[L ⟨k.toArray⟩] 9):=by rw[jI];have:=Qf (((w.alloc (T #[O I wj,X rv] 146)).alloc (T #[X Y] 144)).alloc (T #[O I wj,X rv] 146)) (T #[L ⟨k.toArray⟩] 9);simpa using this
 have qq:WD.cell? ⟨w.heap.size+1,0,Y⟩=Z (X Y):=Ja r1;have kO:WD.frozen? ⟨w.heap.size+1,0,Y⟩=false:=Qg _ _ _ _ _ r1;refine wpIn_rangeFunc_ownF xH h1 (gf:=295) (lb:= #[X (Z ⟨w.heap.size+1+1,0,Y⟩),X (Z ⟨w.heap.size+1+1+1,0,Y⟩)]) rfl trivial (enters_of func295 (by kernel_rfl) rfl)
  (JgW 3 (by omega) (w.heap.size+1+1) (w.heap.size+1+1+1) w.heap.size k jg kt q xs WD (by omega) (by omega) (by omega) (by rw[jY.o];exact Ja r2) (Ja r3) (Way.below qF HL.o)) (λh k=>⟨h.1.trans k.1,λv hv=>k.2 v (h.2 v hv)⟩)
  (λW l o o' hl ho hc yT=>⟨belowK_b (w:=w) (Ql _) W l o o' (by omega) ho hc yT,λv hv=>cell_kept hv (grownBy_putObj' _ l o') (λr e=>by cases e;exact⟨o,ho,hc⟩)⟩) (Below.refl _ _) (λ_=>rfl)
  (λpre W=>(W.cell? ⟨w.heap.size+1,0,Y⟩=Z (Jm pre.getLast?)/\W.frozen? ⟨w.heap.size+1,0,Y⟩=false)/\Below w.heap.size w W)
  (λ_ _ _=>False)
  (OwnFrom.and (Own.from (λs A B row hs hg hr=>⟨cell_kept hs.1 hg hr,(frozen_kept hs.1 hg hr).trans hs.2⟩) _) (ownFrom_below (Ql _) (by omega)))
  (λ_ _ _ _ _ hs _ _=>hs)
  ⟨⟨qq,kO⟩,qF⟩
  (λx=>{ tmps:= #[aH #[O I wj,X rv],L ⟨k.toArray⟩,X (Z ⟨w.heap.size,0,Y⟩),undef,X Y,X (Z ⟨w.heap.size+1,0,Y⟩),X (Z ⟨x,0,Y⟩),aH #[O I wj,X rv],L ⟨k.toArray⟩,.func (.func 295) #[] #[X (Z ⟨w.heap.size+1+1,0,Y⟩),X (Z ⟨w.heap.size+1+1+1,0,Y⟩)],X (Z ⟨x,0,Y⟩),undef,undef],defers:=[] }) ?assign ?body ?done ?stop
 case assign=>intro l x W K hK;gi_wp2;exact hK
 case body=>
  rintro l pre x W⟨⟨hc,hf⟩,hB⟩ _;gi_wp2;refine⟨KeepsOthers.setCell _ _ _,⟨(Below.refl w.heap.size W).setCell (p:=⟨w.heap.size+1,0,Y⟩) (by simp) _,λv hv=>?_⟩,⟨?_,by rw[World.frozen?_setCell];exact hf⟩,hB.setCell (p:=⟨w.heap.size+1,0,Y⟩) (by simp) _⟩
  ·rw[World.cell?_setCell_other _ _ _ _ (by simp)];exact hv
  ·rw[List.getLast?_concat];exact World.cell?_setCell_same' _ _ _ (by rw[hc];rfl)
 case done=>rintro aV ys W hD rfl⟨⟨hc,_⟩,hB⟩ hK;gi_wp2;refine⟨by simp,.inl ⟨_,_,rfl,run_takeDeferred hK,?_⟩⟩;exact⟨_,results_tmp rfl _ _ _,rfl,hB.trans (belowK_b (w:=w) (Ql _) W aV _ _ (by omega) hK rfl rfl)⟩
 case stop=>rintro aV c pre W _ _ h _;exact h.elim
theorem Jb5(wj:Int)(k:Key)(jg:1<=k.length)(kt:k.length<=1000000)(w:aA):
  aB N 269 #[aH #[O I wj,X Y],L ⟨k.toArray⟩] w λe w'=>e=aC (X Y)/\M D w w':=
 (callsIn_wide.1 (JdY wj Y k jg kt [] w rfl)).mono λ_ _ h=>⟨h.1,(M.of_below h.2).mono (λ_ hj=>.inr hj)⟩
theorem Jb6(wj:Nat)(hw:wj<=1000)(d:List UInt8->BA)(F:Nat->Prop)(n:Nat)(t:Tr)(k:Key)(hk:k.length=wj+1)(w:aA)(h:Jl d F w n t)(Hb:TrOk wj t):
  aB N 269 #[aH #[O I (wj:Int),X (Z ⟨n,0,Y⟩)],L ⟨k.toArray⟩] w λe w'=>∃m,e=aC (X (Z ⟨m,0,Y⟩))/\Jl d F w' m (.leaf (t.near k).1 (t.near k).2)/\M D w w':=by
 obtain⟨xs,m,h1,h2,h3⟩:=h.way hk Hb;refine(callsIn_wide.1 (JdY (wj:Int) (Z n) k (by omega) (by omega) xs w h1)).mono ?_;rintro e w'⟨rfl,hB⟩;have hT:M D w w':=(M.of_below hB).mono (λ_ hj=>.inr hj);exact⟨m,by rw[h2];rfl,h3.next hT,hT⟩

abbrev JA(wj:Nat)(q:Option Nat):aG:=aH #[O I (wj:Int),Jm q]
theorem Jbe(E:Nat->Addr)(wj:Nat)(hw:wj<=32)(c:BA×Int)(hc:Ji wj c)(w:aA)(hE:Env E w):
  aB N 145 #[O I (wj:Int),aH #[L c.1,O I c.2]] w λe w'=>e=aC (aI #[L ⟨(Jc c).toArray⟩,aK])/\M D w w':=by
 refine(JdQ E wj (by omega) c w hE).mono ?_;rintro e w'⟨h1,h2⟩;have:=(Jdc wj c c (.wr []) _ ((JjU wj c c hc).wr [])).1;rw[this]at h2;exact⟨h2,h1⟩
theorem Jba(hc:Ji wj c)(ho:JC o):TrOk wj (.leaf (Jc c) o):=by
 obtain⟨h1,h2,h3⟩:=hc;have hl:c.1.data.toList.length=wj:=by simpa using h1
 refine⟨by simp[Jc,Jf];exact h1,?_,ho⟩;have hx:=Zk c.2 h2 (by omega);have e:(Jc c).getD wj 0=UInt8.ofNat (JD c.2):=by unfold Jc;rw[Qn,Qz (by omega),hl,Nat.sub_self];simp[beL]
 rw[e,UInt8.toNat_ofNat'];omega
theorem ZN(E:Nat->Addr)(wj:Nat)(Hf:1<=wj)(hw:wj<=32)(F:Nat->Prop)(q:Option Nat)(st:Option Tr)(w:aA)(hE:Env E w)(h:StAt (dgW wj) F w q st):
  aB N 83 #[JA wj q] w λe w'=>e=aC (L (Xh (dgW wj) st))/\M D w w':=by
 cases st with
 | none=>
  obtain rfl:=h.of_none;have HO:J (∀W,M D w W->_):=λW hT=>JaX E wj ⟨#[69]⟩ W (hE.tch hT noE) Hf hw (by decide);show aB _ _ #[aH #[_,X Y]] _ _;go_enter func83,ntmps83;go_wp2_with fail;refine(HO _ (Ta _ _ _)).mono ?_;rintro _ w1⟨rfl,ht⟩;have HT:J _:=(Ta D w _).trans ht noE;go_wp2;go_ret;exact⟨rfl,HT⟩
 | some t=>
  obtain⟨n,rfl,hn⟩:=h.of_some;have c0:=hn.digCell;have H5:=hn.own.2;show aB _ _ #[aH #[_,X (Z ⟨n,0,Y⟩)]] _ _;go_enter func83,ntmps83;go_wp2;go_ret;exact⟨rfl,Ta _ _ _⟩
theorem Je{fn:Func}{p t:Tmp}(h:fn.results= #[.cell p ty,.tmp t])(tmps:Array aG)(w:aA)(g:Nat)(aY:TypeId)(cs:Array aG)(fr:Nat×Nat)(d:TypeDesc)
 (hp:tmps.getD p undef=X (Z ⟨g,0,Y⟩)) (hg:w.heap[g]? =Z (T cs aY fr))
 (hu:P.underlying ty=Z d) (hd:(match d with | .struct _ | .array _ _=>true|_=>false)=true) (hi:(P.info? ty).map (·.size)=Z cs.size):
  (results fn tmps).run P w=.ok (aI #[aH cs,tmps.getD t undef]) w:=by
 have yy:tmps[p]?.getD undef=X (Z ⟨g,0,Y⟩):=by simpa using hp
 simp[results,h,yy,asAddr,run_loadVar_row w g aY ty cs fr d hg hu hd hi]
structure JbS(w W:aA)(wj:Nat)(q:Option Nat)(c:BA×Int)(o:Nat×Nat):Prop where
 t:W.heap[w.heap.size]? =Z (T #[O I (wj:Int),Jm q] 146)
 c:W.heap[w.heap.size+1]? =Z (T #[L c.1,O I c.2] 49)
 oo:W.heap[w.heap.size+2]? =Z (T #[O aD (o.1:Int),O aE (o.2:Int)] 80)
 r:W.heap[w.heap.size+3]? =Z (T #[O I 0,X Y] 146)
theorem JbS.next(h:JbS w W wj q c o)(k:M D W W'):JbS w W' wj q c o:=
 ⟨(k.block _ (Jb h.t) (λh=>h)).trans h.t,(k.block _ (Jb h.c) (λh=>h)).trans h.c,(k.block _ (Jb h.oo) (λh=>h)).trans h.oo,(k.block _ (Jb h.r) (λh=>h)).trans h.r⟩
theorem Jbq(w:aA)(o0 o1 o2 o3:Obj):((((w.alloc o0).alloc o1).alloc o2).alloc o3).heap[w.heap.size+3]? =Z o3:=by
 have:=Qf (((w.alloc o0).alloc o1).alloc o2) o3;simpa using this
theorem Xs(w:aA)(o0 o1 o2 o3:Obj)(k:Nat)(h:k<w.heap.size+3):((((w.alloc o0).alloc o1).alloc o2).alloc o3).heap[k]? =(((w.alloc o0).alloc o1).alloc o2).heap[k]? :=Below.heap_alloc _ _ _ (by simp;omega)
theorem Jif(w:aA)(wj:Nat)(q:Option Nat)(c:BA×Int)(o:Nat×Nat):JbS w ((((w.alloc (T #[O I (wj:Int),Jm q] 146)).alloc (T #[L c.1,O I c.2] 49)).alloc (T #[O aD (o.1:Int),O aE (o.2:Int)] 80)).alloc (T #[O I 0,X Y] 146)) wj q c o:=
 ⟨(Xs _ _ _ _ _ _ (by omega)).trans (JU _ _ _ _),(Xs _ _ _ _ _ _ (by omega)).trans (JQ _ _ _ _),(Xs _ _ _ _ _ _ (by omega)).trans (JE _ _ _ _),Jbq _ _ _ _ _⟩
theorem Jl.tchT(h:Jl d F w n t)(k:M S w w')(hs:∀j cs,S j->w.heap[j]? ≠ Z (T cs 243)):Jl d F w' n t:=by
 induction h with
 | leaf n key o hF hr=>exact .leaf n key o hF ((k.block n (Jb hr) (λe=>hs n _ e hr)).trans hr)
 | br n b nl nr l r hF hr _ _ ihl ihr=>exact .br n b nl nr l r hF ((k.block n (Jb hr) (λe=>hs n _ e hr)).trans hr) ihl ihr
theorem StAt.row{cur:Array aG}(h:StAt d F w q st)(hr:w.heap[g]? =Z (T cur aY))(hT:aY ≠ 243):StAt d F (w.setRow g cs) q st:=by
 have hs:∀j c,j=g->w.heap[j]? ≠ Z (T c 243):=λj c e e'=>by
  subst e;rw[hr]at e';simp at e';exact hT e'.2
 cases q<;>cases st<;>first|exact h|exact Jl.tchT h (Ts w g cs) hs
def JlC(E:Nat->Addr)(wj:Nat)(F:Nat->Prop)(r:Except Er (Option Tr))(e:Ending)(w':aA):Prop:=match r with
 | .ok st'=>∃q',e=aC (aI #[JA wj q',aK])/\StAt (dgW wj) F w' q' st'
 | .error _=>e=aC (aI #[aH #[O I 0,X Y],eV E 2])
theorem TrOk.near(h:TrOk wj t):(t.near k).1.length=wj+1:=by
 induction t with
 | leaf k' o=>exact h.1
 | br b l r ihl ihr=>
  simp only[Tr.near]
  split
  ·exact ihl h.2.1
  ·exact ihr h.2.2
theorem JnE(E:Nat->Addr)(wj:Nat)(Hf:1<=wj)(hw:wj<=32)(F:Nat->Prop)(q:Option Nat)(st:Option Tr)(c:BA×Int)(hc:Ji wj c)(o:Nat×Nat)(ho:JC o)(w:aA)(hE:Env E w)(hF:∀j,w.heap.size<=j->F j)(hs:StAt (dgW wj) F w q st)(Hb:StOk wj st):
  aB N 191 #[JA wj q,aH #[L c.1,O I c.2],aH #[O aD (o.1:Int),O aE (o.2:Int)]] w λe w'=>M D w w'/\JlC E wj F (Zn st (Jc c) o) e w':=by
 have jW:=Xg hc;have HL:J _:=Jba hc ho;have bC:J (∀W,M D w W->_):=λW hT=>Jbe E wj hw c hc W (hE.tch hT noE);have nK:J (∀W,M D w W->aB N 268 #[O I (wj:Int),L ⟨(Jc c).toArray⟩,aH #[O aD (o.1:Int),O aE (o.2:Int)]] W λe w'=>∃n,e=aC (aI #[X (Z ⟨n,0,Y⟩),aK])/\Jl (dgW wj) F w' n (.leaf (Jc c) o)/\M D W w'):=λW hT=>(Jhp E wj Hf hw (Jc c) o HL W (hE.tch hT noE)).mono λe w' ⟨n,h1,h2,h3,h4⟩=>⟨n,h1,.leaf n _ _ (hF n (Qm hT.size h2)) h3,h4⟩
 have HS:J (StAt (dgW wj) F w q st):=hs;have HE:J _:=hE;have HF:J _:=hF;have xL:J _:=Hb;have kF:=Jif w wj q c o;obtain⟨rv,Hv⟩:∃rv,rv=(q.map λn=>(⟨n,0,Y⟩:Addr)):=⟨_,rfl⟩
 have dO:Jm q=X rv:=by rw[Hv]
 obtain⟨cs,cn⟩:=c;obtain⟨oa,oo⟩:=o;dsimp only at bC nK kF ⊢;show aB _ _ #[aH #[_,Jm q],_,_] _ _;rw[dO];have yY:J _:=dO;clear dO Hv;have qP:M D w ((((w.alloc (T #[O I (wj:Int),X rv] 146)).alloc (T #[L cs,O I cn] 49)).alloc (T #[O aD (oa:Int),O aE (oo:Int)] 80)).alloc (T #[O I 0,X Y] 146)):=(M.allocs3 D w _ _ _).trans (Ta _ _ _) (λ_ h=>.inl h);have bD:J _:=qP;have j6:J (JbS w ((((w.alloc (T #[O I (wj:Int),X rv] 146)).alloc (T #[L cs,O I cn] 49)).alloc (T #[O aD (oa:Int),O aE (oo:Int)] 80)).alloc (T #[O I 0,X Y] 146)) wj q (cs,cn) (oa,oo)):=by rw[<-yY.o];exact kF
 go_enter func191,ntmps191;go_wp2_with fail;refine(bC _ bD).mono ?_;rintro _ w1⟨rfl,H6⟩;have H3:J (M D w w1):=bD.trans H6 noE;have b1:=j6.o.next H6;have kS:J _:=b1;obtain⟨a0, -⟩:=rows b1.t;obtain⟨a1,a2⟩:=rows b1.oo;generalize xR:(⟨(Jc (cs,cn)).toArray⟩:BA)=kb at *;have qE:J _:=xR;go_wp2_with fail;refine(nK.o _ H3.o).mono ?_;rintro _ w2⟨ln,rfl,(gD:J _),H7⟩;have H4:J _:=H3.trans H7 noE;have b2:=kS.o.next H7;have jM:J _:=b2;obtain⟨d0, -⟩:=rows b2.t;have d1:w2.cell? ⟨w.heap.size,1,Y⟩=Z (X rv):=by rw[<-yY.o];exact Ja b2.t
 clear H7 b2 nK kS H3 a0 a1 a2
 cases st with
 | none=>
  obtain rfl:=HS.of_none;obtain rfl:rv=Y:=by have:=yY.o;simpa [Jm]using this.symm
  have HN:J (aB N 269 #[aH #[O I (wj:Int),X Y],L kb] w2 λe w'=>e=aC (X Y)/\M D w2 w'):=by have:=Jb5 (wj:Int) (Jc (cs,cn)) (by omega) (by omega) w2;rw[qE.o]at this;exact this
  go_wp2_with fail;refine HN.o.mono ?_;rintro _ w3⟨rfl,Hm⟩;have b3:=jM.o.next Hm;obtain⟨e0, -⟩:=rows b3.t;obtain⟨r0,r1⟩:=rows b3.r;have fR:∀j,w3.frozen? ⟨w.heap.size+1+1+1,j,Y⟩=false:=λj=>Qg _ _ _ _ _ b3.r;have RR:J _:=b3.r;have H8:J _:=H4.trans Hm noE;have tV:J _:=gD.next Hm;go_wp2;rw[set2 _ _ _ _ _ _ _ RR.out];refine QK (v:=aI #[aH #[O I (wj:Int),X (Z ⟨ln,0,Y⟩)],aK]) (Je results191 _ _ (w.heap.size+1+1+1) _ _ (0,0) _ rfl (Qi _ _ _ _ _ _ RR) underlying146 rfl (by kernel_rfl)) rfl ⟨?_,Z ln,rfl,?_⟩
  ·exact H8.trans (Ts _ _ _) (λj hj=>.inr (by omega))
  ·exact StAt.row (q:=Z ln) (st:=Z _) tV RR (by decide)
 | some t=>
  obtain⟨n,rfl,hn⟩:=HS.of_some;obtain rfl:rv=Z ⟨n,0,Y⟩:=by have:=yY.o;simpa [Jm]using this.symm
  have sV:J _:=xL.o;have s5:J _:=hn.next H4.o;have HN:J (aB N 269 #[aH #[O I (wj:Int),X (Z ⟨n,0,Y⟩)],L kb] w2 λe w'=>∃m,e=aC (X (Z ⟨m,0,Y⟩))/\Jl (dgW wj) F w' m (.leaf (t.near (Jc (cs,cn))).1 (t.near (Jc (cs,cn))).2)/\M D w2 w'):=by have:=Jb6 wj (by omega) (dgW wj) F n t (Jc (cs,cn)) jW w2 s5 sV.o;rw[qE.o]at this;exact this
  go_wp2_with fail;refine HN.mono ?_;rintro _ w3⟨m,rfl,hm,Hm⟩;have b3:=jM.o.next Hm;obtain⟨e0,e1⟩:=rows b3.t;obtain⟨r0,r1⟩:=rows b3.r;have fR:∀j,w3.frozen? ⟨w.heap.size+1+1+1,j,Y⟩=false:=λj=>Qg _ _ _ _ _ b3.r;have jp:w3.cell? ⟨m,1,Y⟩=Z (L ⟨(t.near (Jc (cs,cn))).1.toArray⟩):=by cases hm with|leaf _ _ _ _ hr=>exact Ja hr
  have qy:=hm.own.2;have hnk:=sV.o.near (k:=Jc (cs,cn));have H8:J _:=H4.trans Hm noE;have tV:J _:=gD.next Hm;have dP:J _:=s5.next Hm;have xj:J _:=b3;have cp:=(HE.tch H8 noE).exist;generalize hNB:(⟨(t.near (Jc (cs,cn))).1.toArray⟩:BA)=nb at *;have yx:J _:=hNB
  by_cases jb:(t.near (Jc (cs,cn))).1=Jc (cs,cn)
  ·have rG:nb=kb:=(by rw[<-yx.o,jb];exact qE.o);have HWE:J (Zn (Z t) (Jc (cs,cn)) (oa,oo)=.error .exist):=if_pos jb;subst rG;go_wp2;go_region
   all_goals
    go_wp2;rw[set2 _ _ _ _ _ _ _ xj.o.r];refine QK (v:=aI #[aH #[O I 0,X Y],eV E 2]) (Je results191 _ _ (w.heap.size+1+1+1) _ _ (0,0) _ rfl (Qi _ _ _ _ _ _ xj.r) underlying146 rfl (by kernel_rfl)) rfl ⟨?_,?_⟩
    ·exact(H8.trans (Td D w3 1) noE).trans (Ts _ _ _) (λj hj=>.inr (by omega))
    ·rw[HWE.o];rfl
  ·have jH:nb.data.toList=(t.near (Jc (cs,cn))).1:=(by rw[<-yx.o]);have sF:kb.data.toList=Jc (cs,cn):=(by rw[<-qE.o]);have Hd:(nb.toList == kb.toList)=false:=by
    rw[ByteArray.toList_eq,ByteArray.toList_eq,jH,sF];simpa using jb
   have yr:J (Zn (Z t) (Jc (cs,cn)) (oa,oo)=.ok (Z (t.graft (Jc (cs,cn)) (oa,oo) (fd (t.near (Jc (cs,cn))).1 (Jc (cs,cn)))))):=if_neg jb;have hfd:=JjD (t.near (Jc (cs,cn))).1 (Jc (cs,cn)) (by omega) jb;have HFD:J (∀W,aB N 271 #[L nb,L kb] W λe w'=>e=aC (O I (fd (t.near (Jc (cs,cn))).1 (Jc (cs,cn)):Int))/\∃n,w'=W.drewN n):=λW=>by
    have:=Jkr (t.near (Jc (cs,cn))).1 (Jc (cs,cn)) (by omega) jb (by omega) W;rw[yx.o,qE.o]at this;exact this
   have vj:J (∀W,M D w3 W->aB N 270 #[aH #[O I (wj:Int),X (Z ⟨n,0,Y⟩)],X (Z ⟨n,0,Y⟩),X (Z ⟨ln,0,Y⟩),O I (fd (t.near (Jc (cs,cn))).1 (Jc (cs,cn)):Int)] W λe w'=>∃m,e=aC (aI #[X (Z ⟨m,0,Y⟩),aK])/\Jl (dgW wj) F w' m (t.graft (Jc (cs,cn)) (oa,oo) (fd (t.near (Jc (cs,cn))).1 (Jc (cs,cn))))/\M D W w'):=λW hT=>
    Jkw E wj Hf hw F _ _ _ HL _ (by have:=hfd.1;omega) ln t n W sV (HE.tch (H8.trans hT noE) noE) (λj hj=>HF j (Qm (H8.trans hT noE).size hj)) (dP.next hT) (tV.next hT)
   generalize fd (t.near (Jc (cs,cn))).1 (Jc (cs,cn))=dd at *;have hz3:=(Jb xj.r)
   go_wp2_with fail;go_region_held3 (λW=>W.cell? ⟨w.heap.size,0,Y⟩=Z (O I (wj:Int))/\W.cell? ⟨w.heap.size,1,Y⟩=Z (X (Z ⟨n,0,Y⟩))/\W.cell? ⟨m,1,Y⟩=Z (L nb)) (go_keep) ((first|(go_at_call 271;refine(HFD _).mono ?_;rintro _ _⟨rfl,m5,rfl⟩)|(go_at_call 270;refine(vj _ (Td D w3 _)).mono ?_;rintro _ w4⟨g4,rfl,(uS:J _),Ho⟩;have qN:=(Td D w3 _).trans Ho noE;have f0:=(qN.cell (p:=⟨w.heap.size,0,Y⟩) (by show w.heap.size<_;omega) (λh=>h)).trans e0;have f1:=(qN.cell (p:=⟨w.heap.size,1,Y⟩) (by show w.heap.size<_;omega) (λh=>h)).trans e1;have f2:=(qN.cell (p:=⟨m,1,Y⟩) qy (λh=>h)).trans jp;have He:J _:=qN;clear Ho qN)))
   all_goals
    have b4:=xj.o.next He.o;obtain⟨s0,s1⟩:=rows b4.r;have fS:∀j,w4.frozen? ⟨w.heap.size+1+1+1,j,Y⟩=false:=λj=>Qg _ _ _ _ _ b4.r;have RR:J _:=b4.r;go_wp2;rw[set2 _ _ _ _ _ _ _ RR.out];refine QK (v:=aI #[aH #[O I (wj:Int),X (Z ⟨g4,0,Y⟩)],aK]) (Je results191 _ _ (w.heap.size+1+1+1) _ _ (0,0) _ rfl (Qi _ _ _ _ _ _ RR) underlying146 rfl (by kernel_rfl)) rfl ⟨?_,?_⟩
    ·exact(H8.trans He noE).trans (Ts _ _ _) (λj hj=>.inr (by omega))
    ·rw[yr.o];exact⟨Z g4,rfl,StAt.row (q:=Z g4) (st:=Z _) uS RR (by decide)⟩

theorem YO{fn:Func}{p p2 t:Tmp}{ty2:TypeId}(h:fn.results= #[.cell p ty,.cell p2 ty2,.tmp t])(tmps:Array aG)(w:aA)(g g2:Nat)(aY T2:TypeId)(cs cs2:Array aG)(fr fr2:Nat×Nat)(d d2:TypeDesc)
 (hp:tmps.getD p undef=X (Z ⟨g,0,Y⟩)) (hg:w.heap[g]? =Z (T cs aY fr))
 (hu:P.underlying ty=Z d) (hd:(match d with | .struct _ | .array _ _=>true|_=>false)=true) (hi:(P.info? ty).map (·.size)=Z cs.size)
 (kJ:tmps.getD p2 undef=X (Z ⟨g2,0,Y⟩)) (sA:w.heap[g2]? =Z (T cs2 T2 fr2))
 (dQ:P.underlying ty2=Z d2) (qj:(match d2 with | .struct _ | .array _ _=>true|_=>false)=true) (nZ:(P.info? ty2).map (·.size)=Z cs2.size):
  (results fn tmps).run P w=.ok (aI #[aH cs,aH cs2,tmps.getD t undef]) w:=by
 have yy:tmps[p]?.getD undef=X (Z ⟨g,0,Y⟩):=by simpa using hp
 have sG:tmps[p2]?.getD undef=X (Z ⟨g2,0,Y⟩):=by simpa using kJ
 simp[results,h,yy,sG,asAddr,run_loadVar_row w g aY ty cs fr d hg hu hd hi,run_loadVar_row w g2 T2 ty2 cs2 fr2 d2 sA dQ qj nZ]
structure Jcu(w W:aA)(wj:Nat)(q:Option Nat)(c:BA×Int):Prop where
 t:W.heap[w.heap.size]? =Z (T #[O I (wj:Int),Jm q] 146)
 c:W.heap[w.heap.size+1]? =Z (T #[L c.1,O I c.2] 49)
 r:W.heap[w.heap.size+2]? =Z (T #[O I 0,X Y] 146)
 oo:W.heap[w.heap.size+3]? =Z (T #[O aD 0,O aE 0] 80)
theorem Jcu.next(h:Jcu w W wj q c)(k:M D W W'):Jcu w W' wj q c:=
 ⟨(k.block _ (Jb h.t) (λh=>h)).trans h.t,(k.block _ (Jb h.c) (λh=>h)).trans h.c,(k.block _ (Jb h.r) (λh=>h)).trans h.r,(k.block _ (Jb h.oo) (λh=>h)).trans h.oo⟩
theorem JiK(w:aA)(wj:Nat)(q:Option Nat)(c:BA×Int):Jcu w ((((w.alloc (T #[O I (wj:Int),Jm q] 146)).alloc (T #[L c.1,O I c.2] 49)).alloc (T #[O I 0,X Y] 146)).alloc (T #[O aD 0,O aE 0] 80)) wj q c:=
 ⟨(Xs _ _ _ _ _ _ (by omega)).trans (JU _ _ _ _),(Xs _ _ _ _ _ _ (by omega)).trans (JQ _ _ _ _),(Xs _ _ _ _ _ _ (by omega)).trans (JE _ _ _ _),Jbq _ _ _ _ _⟩
theorem JbG(h:Jcu w W wj q c)(hT:M D w W)(v0 v1 u0 u1:aG):
  ((((W.setCell ⟨w.heap.size+2,0,Y⟩ v0).setCell ⟨w.heap.size+2,1,Y⟩ v1).setCell ⟨w.heap.size+3,0,Y⟩ u0).setCell ⟨w.heap.size+3,1,Y⟩ u1).heap[w.heap.size+2]? =Z (T #[v0,v1] 146)/\
  ((((W.setCell ⟨w.heap.size+2,0,Y⟩ v0).setCell ⟨w.heap.size+2,1,Y⟩ v1).setCell ⟨w.heap.size+3,0,Y⟩ u0).setCell ⟨w.heap.size+3,1,Y⟩ u1).heap[w.heap.size+3]? =Z (T #[u0,u1] 80)/\
  M D w ((((W.setCell ⟨w.heap.size+2,0,Y⟩ v0).setCell ⟨w.heap.size+2,1,Y⟩ v1).setCell ⟨w.heap.size+3,0,Y⟩ u0).setCell ⟨w.heap.size+3,1,Y⟩ u1)/\
  ∀q' st',StAt d F W q' st'->StAt d F ((((W.setCell ⟨w.heap.size+2,0,Y⟩ v0).setCell ⟨w.heap.size+2,1,Y⟩ v1).setCell ⟨w.heap.size+3,0,Y⟩ u0).setCell ⟨w.heap.size+3,1,Y⟩ u1) q' st':=by
 rw[set2 W (w.heap.size+2) _ _ _ _ _ h.r];have t1:=Ts W (w.heap.size+2) #[v0,v1];have o1:=(t1.block _ (Jb h.oo) (by omega)).trans h.oo;have r1:(W.setRow (w.heap.size+2) #[v0,v1]).heap[w.heap.size+2]? =Z (T #[v0,v1] 146):=Qi _ _ _ _ _ _ h.r;rw[set2 _ (w.heap.size+3) _ _ _ _ _ o1];have t2:=Ts (W.setRow (w.heap.size+2) #[v0,v1]) (w.heap.size+3) #[u0,u1];refine⟨(t2.block _ (Jb r1) (by omega)).trans r1,Qi _ _ _ _ _ _ o1,(hT.trans t1 (λj hj=>.inr (by omega))).trans t2 (λj hj=>.inr (by omega)),λq' st' hs=>?_⟩;exact(hs.row h.r (by decide)).row o1 (by decide)
def WoTo(E:Nat->Addr)(wj:Nat)(F:Nat->Prop)(r:Except Er (Option Tr×(Nat×Nat)))(e:Ending)(w':aA):Prop:=match r with
 | .ok (st',o)=>∃q',e=aC (aI #[JA wj q',aH #[O aD (o.1:Int),O aE (o.2:Int)],aK])/\StAt (dgW wj) F w' q' st'
 | .error _=>e=aC (aI #[aH #[O I 0,X Y],aH #[O aD 0,O aE 0],eV E 1])
theorem Jig(E:Nat->Addr)(wj:Nat)(Hf:1<=wj)(hw:wj<=32)(F:Nat->Prop)(q:Option Nat)(st:Option Tr)(c:BA×Int)(hc:Ji wj c)(w:aA)(hE:Env E w)(hF:∀j,w.heap.size<=j->F j)(hs:StAt (dgW wj) F w q st)(Hb:StOk wj st):
  aB N 284 #[JA wj q,aH #[L c.1,O I c.2]] w λe w'=>M D w w'/\WoTo E wj F (JW st (Jc c)) e w':=by
 have jW:=Xg hc;have bC:J (∀W,M D w W->_):=λW hT=>Jbe E wj hw c hc W (hE.tch hT noE);have HS:J (StAt (dgW wj) F w q st):=hs;have HE:J _:=hE;have HF:J _:=hF;have xL:J _:=Hb;have kF:=JiK w wj q c;obtain⟨rv,Hv⟩:∃rv,rv=(q.map λn=>(⟨n,0,Y⟩:Addr)):=⟨_,rfl⟩
 have dO:Jm q=X rv:=by rw[Hv]
 clear hs hE hF Hb hc;obtain⟨cs,cn⟩:=c;dsimp only at bC kF ⊢;show aB _ _ #[aH #[_,Jm q],_] _ _;rw[dO];have yY:J _:=dO;clear dO Hv;have bD:J (M D w ((((w.alloc (T #[O I (wj:Int),X rv] 146)).alloc (T #[L cs,O I cn] 49)).alloc (T #[O I 0,X Y] 146)).alloc (T #[O aD 0,O aE 0] 80))):=(M.allocs3 D w _ _ _).trans (Ta _ _ _) (λ_ h=>.inl h);have j6:J (Jcu w ((((w.alloc (T #[O I (wj:Int),X rv] 146)).alloc (T #[L cs,O I cn] 49)).alloc (T #[O I 0,X Y] 146)).alloc (T #[O aD 0,O aE 0] 80)) wj q (cs,cn)):=by rw[<-yY.o];exact kF
 clear kF;go_enter func284,ntmps284;go_wp2_with fail;refine(bC _ bD).mono ?_;rintro _ w2⟨rfl,H6⟩;have H4:J _:=bD.trans H6 noE;have b2:=j6.o.next H6;have jM:J _:=b2;obtain⟨d0, -⟩:=rows b2.t;have d1:w2.cell? ⟨w.heap.size,1,Y⟩=Z (X rv):=by rw[<-yY.o];exact Ja b2.t
 generalize xR:(⟨(Jc (cs,cn)).toArray⟩:BA)=kb at *;have qE:J _:=xR;clear xR H6 b2 bC j6 bD
 cases st with
 | none=>
  obtain rfl:=HS.of_none;obtain rfl:rv=Y:=by have:=yY.o;simpa [Jm]using this.symm
  have HN:J (aB N 269 #[aH #[O I (wj:Int),X Y],L kb] w2 λe w'=>e=aC (X Y)/\M D w2 w'):=by have:=Jb5 (wj:Int) (Jc (cs,cn)) (by omega) (by omega) w2;rw[qE.o]at this;exact this
  go_wp2_with fail;refine HN.mono ?_;rintro _ w3⟨rfl,Hm⟩;have b3:=jM.o.next Hm;have H8:J _:=H4.trans Hm noE;have ku:=(HE.tch H8 noE).input;obtain⟨r0,r1⟩:=rows b3.r;have fR:∀j,w3.frozen? ⟨w.heap.size+1+1,j,Y⟩=false:=λj=>Qg _ _ _ _ _ b3.r;obtain⟨o0,o1⟩:=rows b3.oo;have fO:∀j,w3.frozen? ⟨w.heap.size+1+1+1,j,Y⟩=false:=λj=>Qg _ _ _ _ _ b3.oo;have xj:J _:=b3;clear Hm b3 HN d0 d1;go_wp2;go_region
  all_goals go_wp2;obtain⟨q1,q2,q3,_⟩:=JbG (d:=dgW wj) (F:=F) (W:=w3.drew) (xj.next (Td D w3 1)) (H8.trans (Td D w3 1) noE) (O I 0) (X Y) (O aD 0) (O aE 0);refine QK (v:=aI #[aH #[O I 0,X Y],aH #[O aD 0,O aE 0],eV E 1]) (YO results284 _ _ (w.heap.size+1+1) (w.heap.size+1+1+1) _ _ _ _ (0,0) (0,0) _ _ rfl q1 underlying146 rfl (by kernel_rfl) rfl q2 underlying80 rfl (by kernel_rfl)) rfl ⟨q3,?_⟩;rfl
 | some t=>
  obtain⟨n,rfl,hn⟩:=HS.of_some;obtain rfl:rv=Z ⟨n,0,Y⟩:=by have:=yY.o;simpa [Jm]using this.symm
  have sV:J _:=xL.o;have s5:J _:=hn.next H4.o;have HN:J (aB N 269 #[aH #[O I (wj:Int),X (Z ⟨n,0,Y⟩)],L kb] w2 λe w'=>∃m,e=aC (X (Z ⟨m,0,Y⟩))/\Jl (dgW wj) F w' m (.leaf (t.near (Jc (cs,cn))).1 (t.near (Jc (cs,cn))).2)/\M D w2 w'):=by have:=Jb6 wj (by omega) (dgW wj) F n t (Jc (cs,cn)) jW w2 s5 sV.o;rw[qE.o]at this;exact this
  clear hn;go_wp2_with fail;refine HN.mono ?_;rintro _ w3⟨m,rfl,hm,Hm⟩;have b3:=jM.o.next Hm;obtain⟨e0,e1⟩:=rows b3.t;obtain⟨r0,r1⟩:=rows b3.r;have fR:∀j,w3.frozen? ⟨w.heap.size+1+1,j,Y⟩=false:=λj=>Qg _ _ _ _ _ b3.r;obtain⟨o0,o1⟩:=rows b3.oo;have fO:∀j,w3.frozen? ⟨w.heap.size+1+1+1,j,Y⟩=false:=λj=>Qg _ _ _ _ _ b3.oo;have jp:w3.cell? ⟨m,1,Y⟩=Z (L ⟨(t.near (Jc (cs,cn))).1.toArray⟩):=by cases hm with|leaf _ _ _ _ hr=>exact Ja hr
  have kn:w3.cell? ⟨m,2,Y⟩=Z (O aD ((t.near (Jc (cs,cn))).2.1:Int)):=by cases hm with|leaf _ _ _ _ hr=>exact Ja hr
  have qY:w3.cell? ⟨m,3,Y⟩=Z (O aE ((t.near (Jc (cs,cn))).2.2:Int)):=by cases hm with|leaf _ _ _ _ hr=>exact Ja hr
  have qy:=hm.own.2;have H8:J _:=H4.trans Hm noE;have dP:J _:=s5.next Hm;have xj:J _:=b3;have ku:=(HE.tch H8 noE).input;clear Hm b3 HN d0 d1 hm s5 jM;generalize hNB:(⟨(t.near (Jc (cs,cn))).1.toArray⟩:BA)=nb at *;have yx:J _:=hNB;clear hNB;have jH:nb.data.toList=(t.near (Jc (cs,cn))).1:=by rw[<-yx.o]
  have sF:kb.data.toList=Jc (cs,cn):=by rw[<-qE.o]
  by_cases jb:(t.near (Jc (cs,cn))).1=Jc (cs,cn)
  ·have rG:nb=kb:=(by rw[<-yx.o,jb];exact qE.o);have yr:J (JW (Z t) (Jc (cs,cn))=.ok (t.cut (Jc (cs,cn)),(t.near (Jc (cs,cn))).2)):=if_pos jb;have HCU:J (∀W,M D w3 W->aB N 339 #[aH #[O I (wj:Int),X (Z ⟨n,0,Y⟩)],X (Z ⟨n,0,Y⟩),L kb] W λe w'=>JgC wj F (t.cut (Jc (cs,cn))) W e w'):=λW hT=>by
    have:=Jn0 E wj Hf hw F (Z ⟨n,0,Y⟩) (Jc (cs,cn)) jW t n W sV (HE.tch (H8.trans hT noE) noE) (λj hj=>HF j (Qm (H8.trans hT noE).size hj)) (dP.next hT);rw[qE.o]at this;exact this
   subst rG;clear jb jH sF;have hz3:=(Jb xj.oo)
   obtain⟨xa,hXA⟩:∃x,(t.near (Jc (cs,cn))).2.1=x:=⟨_,rfl⟩
   obtain⟨xo,hXO⟩:∃x,(t.near (Jc (cs,cn))).2.2=x:=⟨_,rfl⟩
   rw[hXA]at kn;rw[hXO]at qY;have HX:J ((t.near (Jc (cs,cn))).2=(xa,xo)):=Prod.ext hXA hXO;clear hXA hXO;go_wp2_with fail;refine(HCU _ (Te _ _)).mono ?_;rintro _ w4⟨q4,rfl,(HQ4:J _),Ho⟩;have b4:=xj.o.next Ho;have pU:J _:=b4;have He:J (M D w w4):=H8.trans Ho noE;obtain⟨s0,s1⟩:=rows b4.r;have gR:∀j,w4.frozen? ⟨w.heap.size+1+1,j,Y⟩=false:=λj=>Qg _ _ _ _ _ b4.r;have p0:w4.cell? ⟨w.heap.size+1+1+1,0,Y⟩=Z (O aD 0):=Ja b4.oo;have p1:w4.cell? ⟨w.heap.size+1+1+1,1,Y⟩=Z (O aE 0):=Ja b4.oo;have gO:∀j,w4.frozen? ⟨w.heap.size+1+1+1,j,Y⟩=false:=λj=>Qg _ _ _ _ _ b4.oo;have f0:w4.cell? ⟨w.heap.size,0,Y⟩=Z (O I (wj:Int)):=Ja b4.t;have n2:w4.cell? ⟨m,2,Y⟩=Z (O aD (xa:Int)):=(Ho.cell (p:=⟨m,2,Y⟩) qy (λh=>h)).trans kn;have n3:w4.cell? ⟨m,3,Y⟩=Z (O aE (xo:Int)):=(Ho.cell (p:=⟨m,3,Y⟩) qy (λh=>h)).trans qY;clear Ho b4 e0 e1 r0 r1 fR o0 o1 fO kn qY jp HCU;obtain⟨v4,uA⟩:∃v,Jm q4=X v:=⟨_,rfl⟩
   rw[uA];have fM:J (Jm q4=X v4):=uA;clear uA;go_wp2;go_region
   all_goals go_wp2;obtain⟨q1,q2,q3,q5⟩:=JbG (d:=dgW wj) (F:=F) (W:=w4) pU.o He.o (O I (wj:Int)) (X v4) (O aD (xa:Int)) (O aE (xo:Int));refine QK (v:=aI #[aH #[O I (wj:Int),X v4],aH #[O aD (xa:Int),O aE (xo:Int)],aK]) (YO results284 _ _ (w.heap.size+1+1) (w.heap.size+1+1+1) _ _ _ _ (0,0) (0,0) _ _ rfl q1 underlying146 rfl (by kernel_rfl) rfl q2 underlying80 rfl (by kernel_rfl)) rfl ⟨q3.trans (Td D _ 1) noE,?_⟩;rw[yr.o,HX.o];refine⟨q4,?_,(q5 _ _ HQ4.o).next (Td D _ 1)⟩;rw[JA,fM.o]
  ·have Hd:(nb.toList == kb.toList)=false:=by
    rw[ByteArray.toList_eq,ByteArray.toList_eq,jH,sF];simpa using jb
   have yM:(nb.toList != kb.toList)=true:=(by rw[bne,Hd];rfl);have yr:J (JW (Z t) (Jc (cs,cn))=.error .input):=if_neg jb;clear jH sF jb kn qY;go_wp2;go_region
   all_goals go_wp2;obtain⟨q1,q2,q3,_⟩:=JbG (d:=dgW wj) (F:=F) (W:=w3.drew) (xj.o.next (Td D w3 1)) (H8.o.trans (Td D w3 1) noE) (O I 0) (X Y) (O aD 0) (O aE 0);refine QK (v:=aI #[aH #[O I 0,X Y],aH #[O aD 0,O aE 0],eV E 1]) (YO results284 _ _ (w.heap.size+1+1) (w.heap.size+1+1+1) _ _ _ _ (0,0) (0,0) _ _ rfl q1 underlying146 rfl (by kernel_rfl) rfl q2 underlying80 rfl (by kernel_rfl)) rfl ⟨q3,?_⟩;rw[yr.o];rfl

theorem M.go{b c:aA}(h:M S a b)(k:M D b c):M S a c:=h.trans k noE
theorem M.dr{b:aA}(h:M S a b)(n:Nat):M S a (b.drewN n):=h.go (Td _ _ _)
theorem TrOk.pair{n one:Tr}{a:Nat}(h1:TrOk wj n)(h2:TrOk wj one)(hb:b<8*(wj+1)):TrOk wj (Tr.pair n one b a):=by
 unfold Tr.pair
 split
 ·exact⟨hb,h2,h1⟩
 ·exact⟨hb,h1,h2⟩
theorem TrOk.graft{d:Nat}(h:TrOk wj t)(hl:TrOk wj (.leaf k o))(hd:d<8*(wj+1)):TrOk wj (t.graft k o d):=by
 induction t with
 | leaf k' o'=>exact TrOk.pair h hl hd
 | br b l r ihl ihr=>
  unfold Tr.graft
  split
  ·exact TrOk.pair h hl hd
  ·split
   ·exact⟨h.1,ihl h.2.1,h.2.2⟩
   ·exact⟨h.1,h.2.1,ihr h.2.2⟩
theorem TrOk.cut(h:TrOk wj t):StOk wj (t.cut k):=by
 induction t with
 | leaf k' o'=>exact trivial
 | br b l r ihl ihr=>
  unfold Tr.cut
  split
  ·have:=ihl h.2.1
   split
   ·exact h.2.2
   ·rename_i l' tQ;rw[tQ]at this;exact⟨h.1,this,h.2.2⟩
  ·have:=ihr h.2.2
   split
   ·exact h.2.1
   ·rename_i l' tQ;rw[tQ]at this;exact⟨h.1,h.2.1,this⟩
theorem TrOk.nearO(h:TrOk wj t):JC (t.near k).2:=by
 induction t with
 | leaf k' o=>exact h.2.2
 | br b l r ihl ihr=>
  unfold Tr.near
  split
  ·exact ihl h.2.1
  ·exact ihr h.2.2
theorem StOk.with(h:StOk wj st)(hc:Ji wj c)(ho:JC o)(e:Zn st (Jc c) o=.ok st'):StOk wj st':=by
 have jW:(Jc c).length=wj+1:=Xg hc;have iC:TrOk wj (.leaf (Jc c) o):=Jba hc ho
 cases st with
 | none=>cases e;exact iC
 | some t=>
  unfold Zn at e;simp only at e
  split at e
  ·cases e
  ·rename_i Hd
   cases e
   have jH:(t.near (Jc c)).1.length=wj+1:=TrOk.near h;have:=(JjD (t.near (Jc c)).1 (Jc c) (by omega) Hd).1;exact TrOk.graft h iC (by omega)
theorem StOk.without(h:StOk wj st)(e:JW st k=.ok (st',o)):StOk wj st'/\JC o:=by
 cases st with
 | none=>cases e
 | some t=>
  unfold JW at e;simp only at e
  split at e
  ·cases e
   exact⟨TrOk.cut h,TrOk.nearO h⟩
  ·cases e
structure YF(w:aA)(aZ wj:Nat)(q:Option Nat)(id:BA):Prop where
 s:w.heap[aZ]? =Z (T #[O I (wj:Int),Jm q] 146)
 i:w.heap[aZ+1]? =Z (T #[L id] 9)
theorem YF.next(h:YF w aZ wj q id)(k:M D w w'):YF w' aZ wj q id:=
 ⟨(k.block _ (Jb h.s) (λh=>h)).trans h.s,(k.block _ (Jb h.i) (λh=>h)).trans h.i⟩
theorem YF.put(h:YF W aZ wj q id)(hT:M D w W)(width':Int)(q':Option Nat)(v':Option Addr)(hv:Jm q'=X v'):
  M (λk=>k=aZ) w ((W.setCell ⟨aZ,0,Y⟩ (O I width')).setCell ⟨aZ,1,Y⟩ (X v'))/\
  ((W.setCell ⟨aZ,0,Y⟩ (O I width')).setCell ⟨aZ,1,Y⟩ (X v')).heap[aZ]? =Z (T #[O I width',Jm q'] 146)/\
  ((W.setCell ⟨aZ,0,Y⟩ (O I width')).setCell ⟨aZ,1,Y⟩ (X v')).heap[aZ+1]? =Z (T #[L id] 9)/\
  ∀d F q' st',StAt d F W q' st'->StAt d F ((W.setCell ⟨aZ,0,Y⟩ (O I width')).setCell ⟨aZ,1,Y⟩ (X v')) q' st':=by
 rw[set2 W aZ _ _ _ _ _ h.s,hv];have t1:=Ts W aZ #[O I width',X v'];exact⟨(hT.mono (S':=λk=>k=aZ) noE).trans t1 (λj hj=>.inl hj),Qi _ _ _ _ _ _ h.s,(t1.block _ (Jb h.i) (by omega)).trans h.i,λd F q' st' hs=>hs.row h.s (by decide)⟩
def Jqi(E:Nat->Addr)(wj:Nat)(F:Nat->Prop)(aZ:Nat)(id:BA)(r:Except Er (Option Tr))(e:Ending)(w':aA):Prop:=match r with
 | .ok st'=>∃q',e=aC aK/\YF w' aZ wj q' id/\StAt (dgW wj) F w' q' st'
 | .error _=>e=aC (eV E 2)/\YF w' aZ 0 Y id
theorem JhI(E:Nat->Addr)(wj:Nat)(Hf:1<=wj)(hw:wj<=32)(F:Nat->Prop)(aZ:Nat)(q:Option Nat)(st:Option Tr)(id:BA)(i:Nat)(hc:Ji wj (id,(i:Int)))(o:Nat×Nat)(ho:JC o)(w:aA)(hE:Env E w)(hF:∀j,w.heap.size<=j->F j)(hB:YF w aZ wj q id)(hs:StAt (dgW wj) F w q st)(Hb:StOk wj st):
  aB N 190 #[O I (i:Int),aH #[O aD (o.1:Int),O aE (o.2:Int)],X (Z ⟨aZ,0,Y⟩),X (Z ⟨aZ+1,0,Y⟩)] w λe w'=>M (λk=>k=aZ) w w'/\Jqi E wj F aZ id (Zn st (Jc (id,(i:Int))) o) e w':=by
 have HW:J (∀W,M D w W->aB N 191 #[JA wj q,aH #[L id,O I (i:Int)],aH #[O aD (o.1:Int),O aE (o.2:Int)]] W λe w'=>M D W w'/\JlC E wj F (Zn st (Jc (id,(i:Int))) o) e w'):=λW hT=>
  JnE E wj Hf hw F q st (id,(i:Int)) hc o ho W (hE.tch hT noE) (λj hj=>hF j (Qm hT.size hj)) (hs.next hT) Hb
 have kF:J (YF w aZ wj q id):=hB;obtain⟨rv,Hv⟩:∃rv,Jm q=X rv:=⟨_,rfl⟩
 have hNb:aZ+1<w.heap.size:=(Jb hB.i)
 have hNs:aZ<w.heap.size:=by omega
 have a0:w.cell? ⟨aZ,0,Y⟩=Z (O I (wj:Int)):=Ja hB.s;have a1:w.cell? ⟨aZ,1,Y⟩=Z (X rv):=by rw[<-Hv];exact Ja hB.s
 have a2:w.cell? ⟨aZ+1,0,Y⟩=Z (L id):=Ja hB.i;have jY:J (Jm q=X rv):=Hv;unfold JA at HW;rw[Hv]at HW;generalize hR:Zn st (Jc (id,(i:Int))) o=aW at *;clear hE hF hB hs Hb Hv hc ho;obtain⟨oa,oo⟩:=o;dsimp only at HW ⊢;have Hz:J (∀k,M D w ((w.alloc (T #[O aD (oa:Int),O aE (oo:Int)] 80)).drewN k)):=λk=>(Ta _ _ _).dr k;go_enter func190,ntmps190;go_wp2_with fail;refine(HW.o _ (Hz.o 0)).mono ?_;have HR:J (_=aW):=hR;clear hR HW a0 a1 a2
 cases aW with
 | ok st'=>
  rintro _ w2⟨H7,q2,rfl,kO⟩;have hT:M D w w2:=(Hz.o 0).go H7;have b2:=kF.o.next hT;have jM:J (YF w2 aZ wj q id):=b2;have c0:w2.cell? ⟨aZ,0,Y⟩=Z (O I (wj:Int)):=Ja b2.s;have c1:w2.cell? ⟨aZ,1,Y⟩=Z (X rv):=by rw[<-jY.o];exact Ja b2.s
  have fN:∀j,w2.frozen? ⟨aZ,j,Y⟩=false:=λj=>Qg _ _ _ _ _ b2.s;have HT:J (M D w w2):=hT;have jL:J (StAt (dgW wj) F w2 q2 st'):=kO;clear hT H7 kO b2 Hz;unfold JA;obtain⟨v2,kW⟩:∃v,Jm q2=X v:=⟨_,rfl⟩
  rw[kW];have kz:J (Jm q2=X v2):=kW;clear kW;go_wp2;go_ret;obtain⟨p1,p2,p3,p4⟩:=jM.o.put HT.o wj q2 v2 kz.o;exact⟨p1,q2,rfl,⟨p2,p3⟩,p4 _ _ _ _ jL.o⟩
 | error er=>
  rintro _ w2⟨H7,rfl⟩;have hT:M D w w2:=(Hz.o 0).go H7;have b2:=kF.o.next hT;have jM:J (YF w2 aZ wj q id):=b2;have c0:w2.cell? ⟨aZ,0,Y⟩=Z (O I (wj:Int)):=Ja b2.s;have c1:w2.cell? ⟨aZ,1,Y⟩=Z (X rv):=by rw[<-jY.o];exact Ja b2.s
  have fN:∀j,w2.frozen? ⟨aZ,j,Y⟩=false:=λj=>Qg _ _ _ _ _ b2.s;have HT:J (M D w w2):=hT;clear hT H7 b2 Hz;go_wp2;go_ret;obtain⟨p1,p2,p3,p4⟩:=jM.o.put HT.o 0 Y Y rfl;exact⟨p1,rfl,p2,p3⟩

def erG:Er->Nat
 | .form=>7
 | .tip=>0
 | .input=>1
 | .exist=>2
 | .sum=>3
 | .root=>4
 | .range=>5
theorem Jln{er:Er}(h:Zn st k o=.error er):er=.exist:=by
 unfold Zn at h
 split at h
 ·cases h
 ·split at h
  ·cases h;rfl
  ·cases h
theorem Jgz{er:Er}(h:JW st k=.error er):er=.input:=by
 unfold JW at h
 split at h
 ·cases h;rfl
 ·split at h
  ·cases h
  ·cases h;rfl
theorem Jkl(fv:aG)(what:BA)(w:aA):aB N 189 #[L what,R Y 0 0,fv] w λe w'=>e=aC aK/\w=w':=by
 go_enter func189,ntmps189;go_wp2;go_loopw [12] (λi wr=>i=O I 0/\w=wr) (λi _=>0)
 case atStart=>exact⟨rfl,rfl⟩
 case round=>obtain⟨rfl,rfl⟩:=hrel;go_wp2;go_ret;exact⟨rfl,rfl⟩
theorem Je1(id:BA)(i:Nat)(outs:List (Nat×Nat))(h:i<outs.length)(st:Option Tr):Jz id i (outs.drop i) st=match Zn st (Jc (id,(i:Int))) outs[i] with
  | .error e=>.error e
  | .ok st1=>Jz id (i+1) (outs.drop (i+1)) st1:=by
 rw[List.drop_eq_getElem_cons h];rfl
theorem XF{a b:aG}(h:W.heap[g]? =Z (T #[a,b] 146))(hT:M S w W)(hg:w.heap.size<=g)(v0 v1:aG):
  ((W.setCell ⟨g,0,Y⟩ v0).setCell ⟨g,1,Y⟩ v1).heap[g]? =Z (T #[v0,v1] 146)/\M S w ((W.setCell ⟨g,0,Y⟩ v0).setCell ⟨g,1,Y⟩ v1)/\
  (∀d F q' st',StAt d F W q' st'->StAt d F ((W.setCell ⟨g,0,Y⟩ v0).setCell ⟨g,1,Y⟩ v1) q' st')/\∀E k v,Jn E k W v->Jn E k ((W.setCell ⟨g,0,Y⟩ v0).setCell ⟨g,1,Y⟩ v1) v:=by
 rw[set2 W g _ _ _ _ _ h];have t1:=Ts W g #[v0,v1];refine⟨Qi _ _ _ _ _ _ h,hT.trans t1 (λj hj=>.inr (by omega)),λd F q' st' hs=>hs.row h (by decide),λE k v he=>he.tch t1 ?_⟩;rintro p s u hp rfl;rw[h]at hp
 injection hp with hp
 injection hp with _ h2
 exact absurd h2 (by decide)
structure Jij(wj:Nat)(F:Nat->Prop)(id:BA)(outs:List (Nat×Nat))(aW:Except Er (Option Tr))(w0:aA)(aZ:Nat)(i:Nat)(w:aA)(q:Option Nat)(st:Option Tr):Prop where
 box:YF w aZ wj q id
 at_:StAt (dgW wj) F w q st
 ok:StOk wj st
 eq:Jz id i (outs.drop i) st=aW
 tch:M (λk=>k=aZ) w0 w
def Jlt(E:Nat->Addr)(id:BA)(aW:Except Er (Option Tr))(w0:aA)(aZ:Nat)(v:aG)(w:aA):Prop:=v=eV E 2/\aW=.error .exist/\YF w aZ 0 Y id/\M (λk=>k=aZ) w0 w
theorem Je2(E:Nat->Addr)(wj:Nat)(Hf:1<=wj)(hw:wj<=32)(F:Nat->Prop)(id:BA)(jS:id.size=wj)(outs:List (Nat×Nat))(ho:∀o∈outs,JC o)(h3:outs.length<=3)(aW:Except Er (Option Tr))(w0:aA)(hE:Env E w0)(hF:∀j,w0.heap.size<=j->F j)(aZ:Nat)(hN:18<=aZ)(g off:Nat)(hg:g<aZ)(hz:g<w0.heap.size)
 (hr:∀i (h:i<outs.length),w0.cell? ⟨g,off+i*2,Y⟩=Z (O aD ((outs[i].1:Nat):Int))/\w0.cell? ⟨g,off+i*2+1,Y⟩=Z (O aE ((outs[i].2:Nat):Int))):
  JcW 190 #[X (Z ⟨aZ,0,Y⟩),X (Z ⟨aZ+1,0,Y⟩)] g off outs.length (λi=>(outs.map encO).getD i zO) (λi w=>∃q st,Jij wj F id outs aW w0 aZ i w q st) (Jlt E id aW w0 aZ):=by
 have hx:∀i (h:i<outs.length),(outs.map encO).getD i zO=encO outs[i]:=λi h=>by simp[List.getD_eq_getElem?_getD,h]
 refine⟨λ_ _=>rfl,?_,?_,?_⟩
 ·rintro i w hi⟨q,st,aT⟩;rw[hx i hi];have hc:∀o,w.cell? ⟨g,o,Y⟩=w0.cell? ⟨g,o,Y⟩:=λo=>aT.tch.cell (p:=⟨g,o,Y⟩) hz (by show ¬g=aZ;omega);rw[hc,hc];exact hr i hi
 ·rintro i w o⟨q,st,aT⟩;have ha:=Ta D w o;exact⟨q,st,aT.box.next ha,aT.at_.next ha,aT.ok,aT.eq,aT.tch.go ha⟩
 ·rintro i w hi⟨q,st,aT⟩;rw[hx i hi];have xg:Ji wj (id,(i:Int)):=⟨jS,by omega,by show (i:Int)<3;omega⟩
  have be:JC outs[i]:=ho _ (Qx hi);refine(JhI E wj Hf hw F aZ q st id i xg outs[i] be w (hE.tch aT.tch (λj hj=>by subst hj;exact hN)) (λj hj=>hF j (Qm aT.tch.size hj)) aT.box aT.at_ aT.ok).mono ?_;rintro e w'⟨ht,hr⟩;have e1:=aT.eq;rw[Je1 id i outs hi]at e1;have hT:M (λk=>k=aZ) w0 w':=aT.tch.trans ht (λj hj=>.inl hj)
  cases kG:Zn st (Jc (id,(i:Int))) outs[i] with
  | ok st'=>
   rw[kG]at hr e1;obtain⟨q',rfl,hb,hs⟩:=hr;exact .inl ⟨rfl,q',st',hb,hs,aT.ok.with xg be kG,e1,hT⟩
  | error er=>
   rw[kG]at hr e1;obtain⟨rfl,hb⟩:=hr;have:=Jln kG;subst this;exact .inr ⟨_,_,rfl,rfl,e1.symm,hb,hT⟩
def Jo9(E:Nat->Addr)(wj:Nat)(F:Nat->Prop)(r:Except Er (Option Tr))(e:Ending)(w':aA):Prop:=match r with
 | .ok st'=>∃q',e=aC (aI #[JA wj q',aK])/\StAt (dgW wj) F w' q' st'/\StOk wj st'
 | .error er=>∃v,e=aC (aI #[JA 0 Y,v])/\Jn E (erG er) w' v/\er=.exist
theorem Jc9(E:Nat->Addr)(wj:Nat)(Hf:1<=wj)(hw:wj<=32)(F:Nat->Prop)(q:Option Nat)(st:Option Tr)(id:BA)(jS:id.size=wj)(v:aG)(outs:List (Nat×Nat))(ho:∀o∈outs,JC o)(h3:outs.length<=3)(w:aA)(hE:Env E w)(hF:∀j,w.heap.size<=j->F j)(hv:Jr w.heap.size w v outs)(hs:StAt (dgW wj) F w q st)(Hb:StOk wj st):
  aB N 126 #[JA wj q,L id,v] w λe w'=>M D w w'/\Jo9 E wj F (Jz id 0 outs st) e w':=by
 obtain⟨rv,Hv⟩:∃rv,Jm q=X rv:=⟨_,rfl⟩
 obtain⟨W,hW⟩:∃W,W=((w.alloc (T #[O I (wj:Int),X rv] 146)).alloc (T #[L id] 9)).alloc (T #[O I 0,X Y] 146):=⟨_,rfl⟩
 have hA:M D w W:=by rw[hW];exact M.allocs3 _ _ _ _ _
 have gu:YF W w.heap.size wj q id:=by rw[hW,Hv.symm];exact⟨JU _ _ _ _,JQ _ _ _ _⟩
 have xH:W.heap[w.heap.size+1+1]? =Z (T #[O I 0,X Y] 146):=by rw[hW];exact JE _ _ _ _
 generalize hR:Jz id 0 outs st=aW;have xh:=hE.tch hA noE;have vD:Jij wj F id outs aW W w.heap.size 0 W q st:=⟨gu,hs.next hA,Hb,hR,Te _ _⟩
 have xI:J (∀what:BA,what.size<=1000->aB N 189 #[L what,v,.func (.func 190) #[] #[X (Z ⟨w.heap.size,0,Y⟩),X (Z ⟨w.heap.size+1,0,Y⟩)]] W λe w'=>ToE (λi w'=>∃q st,Jij wj F id outs aW W w.heap.size i w' q st) (Jlt E id aW W w.heap.size) outs.length e w'):=λwhat kq=>by
  rcases hv with⟨rfl,rfl⟩|⟨gi,oi,c,rfl,h1,h2,vu⟩
  ·refine(Jkl _ _ _).mono ?_;rintro _ _⟨rfl,rfl⟩;exact .inl ⟨rfl,q,st,vD⟩
  ·refine Jqn _ _ _ _ _ _ _ _ (λi hi=>?_) _ _ (Je2 E wj Hf hw F id jS outs ho h3 aW W xh (λj hj=>hF j (Qm hA.size hj)) w.heap.size hE.size gi oi h1 (Qk h2 hA.size) (λi hi=>?_)) h3 kq W ⟨q,st,vD⟩
   ·simp only[Qn,List.getElem?_map,Qd hi];exact⟨_,_,rfl⟩
   ·have hc:∀o,W.cell? ⟨gi,o,Y⟩=w.cell? ⟨gi,o,Y⟩:=λo=>hA.cell (p:=⟨gi,o,Y⟩) h2 (λh=>h);rw[hc,hc];exact vu i hi
 obtain⟨ia,ic,Hx⟩:=hv.shape;have jY:J _:=Hv;have xi:J _:=xH;have HA:J _:=hA;have vF:∀(fn:Fn)(first cap:Array aG)(w:aA),(Instr.makeFunc fn first cap).run N w=.ok (.func fn first cap) w:=λ_ _ _ _=>rfl;have HW:J (W=_):=hW;subst Hx;unfold JA;rw[Hv];clear hE hF hv hs Hb Hv xH hA vD xh gu hW ho h3 jS hR;go_enter func126,ntmps126;go_wp2_with fail;rw[<-HW.o];refine(xI.o _ (by decide)).mono ?_;rintro e w2 (⟨rfl,q2,st2,aT⟩|⟨p,sx,vx,w1,rfl,hp,⟨rfl,hR,hb,ht⟩,qQ⟩)
 ·have yB:=(Jb xi.o)
  have Hp:w2.heap[w.heap.size+1+1]? =Z (T #[O I 0,X Y] 146):=(aT.tch.block _ yB (by omega)).trans xi.o;obtain⟨v2,kW⟩:∃v,Jm q2=X v:=⟨_,rfl⟩
  have c0:w2.cell? ⟨w.heap.size,0,Y⟩=Z (O I (wj:Int)):=Ja aT.box.s;have c1:w2.cell? ⟨w.heap.size,1,Y⟩=Z (X v2):=by rw[<-kW];exact Ja aT.box.s
  have r0:w2.cell? ⟨w.heap.size+1+1,0,Y⟩=Z (O I 0):=Ja Hp;have r1:w2.cell? ⟨w.heap.size+1+1,1,Y⟩=Z (X Y):=Ja Hp;have fR:∀j,w2.frozen? ⟨w.heap.size+1+1,j,Y⟩=false:=λj=>Qg _ _ _ _ _ Hp;have gU:J _:=Hp;have HI:J _:=aT;have kz:J _:=kW;have jj:w.heap.size+1+1<w2.heap.size:=(Jb Hp)
  clear aT Hp kW xI yB;go_wp2;obtain⟨p1,p2,p3,_⟩:=XF gU.o ((HA.o.trans HI.o.tch (λj hj=>.inr (by omega))):M D w w2) (by omega) (O I (wj:Int)) (X v2);refine QK (v:=aI #[aH #[O I (wj:Int),X v2],aK]) (Je results126 _ _ (w.heap.size+1+1) _ _ (0,0) _ rfl p1 underlying146 rfl (by kernel_rfl)) rfl ⟨p2,?_⟩;have e1:=HI.o.eq;rw[List.drop_length]at e1;rw[<-e1];exact⟨q2,by rw[JA,kz.o],p3 _ _ _ _ HI.o.at_,HI.o.ok⟩
 ·have yB:=(Jb xi.o)
  have kD:w1.heap[w.heap.size+1+1]? =Z (T #[O I 0,X Y] 146):=(ht.block _ yB (by omega)).trans xi.o;have gQ:=(Jb kD)
  have Hp:w2.heap[w.heap.size+1+1]? =Z (T #[O I 0,X Y] 146):=(qQ.block _ gQ).trans kD;have kO:w2.heap[w.heap.size]? =Z (T #[O I 0,X Y] 146):=(qQ.block _ (Jb hb.s)).trans hb.s;have jj:w.heap.size+1+1<w2.heap.size:=(Jb Hp)
  have c0:w2.cell? ⟨w.heap.size,0,Y⟩=Z (O I 0):=Ja kO;have c1:w2.cell? ⟨w.heap.size,1,Y⟩=Z (X Y):=Ja kO;have r0:w2.cell? ⟨w.heap.size+1+1,0,Y⟩=Z (O I 0):=Ja Hp;have r1:w2.cell? ⟨w.heap.size+1+1,1,Y⟩=Z (X Y):=Ja Hp;have fR:∀j,w2.frozen? ⟨w.heap.size+1+1,j,Y⟩=false:=λj=>Qg _ _ _ _ _ Hp;have gU:J _:=Hp;have H4:J (M (λk=>k=w.heap.size) W w2):=ht.trans (M.of_below qQ) (λj hj=>.inr (Qm ht.size hj));have HP:J _:=hp;have HR:J (aW=_):=hR;clear kD Hp kO qQ ht hb hp hR xI yB gQ;go_wp2;obtain⟨p1,p2,p3,p4⟩:=XF gU.o ((HA.o.trans H4.o (λj hj=>.inr (by omega))):M D w w2) (by omega) (O I 0) (X Y);refine QK (v:=aI #[aH #[O I 0,X Y],aJ 235 (X (Z ⟨p,0,Y⟩))]) (Je results126 _ _ (w.heap.size+1+1) _ _ (0,0) _ rfl p1 underlying146 rfl (by kernel_rfl)) rfl ⟨p2,?_⟩;rw[HR.o];exact⟨_,rfl,p4 _ _ _ (.wrap p _ _ HP.o .base),rfl⟩

def Xe(s:Stp):List UInt8:=beL s.1 2 2++s.2.data.toList
def endB:Option KO->List UInt8
 | none=>[]
 | some (k,o)=>k++outB o
def wayB(wy:Wy):List UInt8:=beL wy.1.length 2 2++(wy.1.flatMap Xe++endB wy.2)
def Zt(wj:Nat)(s:Stp):Prop:=s.1<8*(wj+1)/\s.2.size=wj
structure WyOk(wj:Nat)(wy:Wy):Prop where
 steps:∀s∈wy.1,Zt wj s
 rise:YY wy.1 wy.1.length
 len:wy.1.length<=8*(wj+1)
 bare:wy.2=Y->wy.1=[]
 key:∀x,wy.2=Z x->x.1.length=wj+1/\(x.1.getD wj 0).toNat<3/\JC x.2
theorem Zw(x:BA):(⟨x.data.toList.toArray⟩:BA)=x:=by cases x;simp
theorem JoS(hw:wj<=1000)(h:Zt wj s)(d:List UInt8):PS.step wj s (.wr d)=Z (s,.wr (d++Xe s)):=by
 obtain⟨h1,h2⟩:=h;unfold PS.step;rw[(Yj s.1 2 0 (by omega)).wr];dsimp only;rw[if_neg (by omega),(ZV s.2.data.toList [] wj (by rw[<-h2];simp)).wr];dsimp only;rw[Zw,Qs];rfl
theorem JoQ(hw:wj<=1000)(z:Stp)(h:Zt wj s)(q r:List UInt8):PS.step wj z (.rd q (Xe s++r))=Z (s,.rd (q++Xe s) r):=by
 obtain⟨h1,h2⟩:=h;unfold PS.step Xe;rw[Qs,(Yj s.1 2 z.1 (by omega)).rd];dsimp only;rw[if_neg (by omega),(ZV s.2.data.toList z.2.data.toList wj (by rw[<-h2];simp)).rd];dsimp only;rw[Zw,Qs]
theorem Jnk(hw:wj<=1000):∀(l:List Stp)(_:∀s∈l,Zt wj s)(d:List UInt8),PS.many (JaK wj).f l (.wr d)=Z (l,.wr (d++l.flatMap Xe)):=by
 intro l
 induction l with
 | nil=>intro _ d;simp[PS.many]
 | cons s l ih=>
  intro h d;simp only[PS.many,QG];rw[show (JaK wj).f s (.wr d)=PS.step wj s (.wr d) from rfl,JoS hw (h s (by simp))];dsimp only;rw[ih (λs hs=>h s (by simp[hs])),Qs]
theorem Jnj(hw:wj<=1000):∀(l:List Stp)(_:∀s∈l,Zt wj s)(q r:List UInt8),PS.many (JaK wj).f (List.replicate l.length (0,⟨#[]⟩)) (.rd q (l.flatMap Xe++r))=Z (l,.rd (q++l.flatMap Xe) r):=by
 intro l
 induction l with
 | nil=>intro _ q r;simp[PS.many]
 | cons s l ih=>
  intro h q r;simp only[Qp,List.replicate_succ,PS.many,QG,Qs];rw[show (JaK wj).f ((0,⟨#[]⟩):Stp) _=PS.step wj ((0,⟨#[]⟩):Stp) _ from rfl,JoQ hw _ (h s (by simp))];dsimp only;rw[ih (λs hs=>h s (by simp[hs])),Qs]
theorem Jor(hw:wj<=1000)(l:List Stp)(h:∀s∈l,Zt wj s)(hl:l.length<=8*(wj+1))(d:List UInt8):PS.lstS wj l (.wr d)=Z (l,.wr (d++(beL l.length 2 2++l.flatMap Xe))):=by
 unfold PS.lstS PS.lst;rw[(Yj l.length 2 0 (by omega)).wr];dsimp only;rw[if_neg (by omega)];have e:Jw ((0,⟨#[]⟩):Stp) l l.length=l:=by unfold Jw;cases l<;>simp
 rw[e,Jnk hw l h,Qs]
theorem Joq(hw:wj<=1000)(l:List Stp)(h:∀s∈l,Zt wj s)(hl:l.length<=8*(wj+1))(q r:List UInt8):PS.lstS wj [] (.rd q (beL l.length 2 2++(l.flatMap Xe++r)))=Z (l,.rd (q++(beL l.length 2 2++l.flatMap Xe)) r):=by
 unfold PS.lstS PS.lst;rw[Qv,(Yj l.length 2 0 (by omega)).rd];dsimp only;rw[if_neg (by omega)];have e:Jw ((0,⟨#[]⟩):Stp) [] l.length=List.replicate l.length (0,⟨#[]⟩):=by simp[Jw]
 rw[e,Jnj hw l h,Qs]
theorem Jqt(k:BA)(o:Nat×Nat)(h1:k.data.toList.length=wj+1)(h2:(k.data.toList.getD wj 0).toNat<3)(h3:JC o)(d:List UInt8):Jv wj k o (Z (.wr d))=((k.data.toList,o),Z (.wr (d++(k.data.toList++outB o)))):=by
 have e1:=JN ((ZV k.data.toList [] (wj+1) h1).wr d);have e2:YW wj k.data.toList (Z (.wr d))=(k.data.toList,Z (.wr (d++k.data.toList))):=by unfold YW;rw[e1];dsimp only;rw[if_neg (by omega)]
 have e3:JF o.1 8 (Z (.wr (d++k.data.toList)))=(o.1,Z (.wr (d++k.data.toList++beL o.1 8 8))):=JS ((Yj o.1 8 0 (by have:=h3.1;omega)).wr _);have e4:JF o.2 1 (Z (.wr (d++k.data.toList++beL o.1 8 8)))=(o.2,Z (.wr (d++k.data.toList++beL o.1 8 8++beL o.2 1 1))):=JS ((Yj o.2 1 0 (by have:=h3.2;omega)).wr _);unfold Jv stO;rw[e2];dsimp only;rw[e3];dsimp only;rw[e4];simp[outB,lD]
theorem Jqs(k z:BA)(o y:Nat×Nat)(h1:k.data.toList.length=wj+1)(h2:(k.data.toList.getD wj 0).toNat<3)(h3:JC o)(q r:List UInt8):Jv wj z y (Z (.rd q (k.data.toList++outB o++r)))=((k.data.toList,o),Z (.rd (q++(k.data.toList++outB o)) r)):=by
 have e1:Jk z.data.toList (wj+1) (Z (.rd q (k.data.toList++(outB o++r))))=(k.data.toList,Z (.rd (q++k.data.toList) (outB o++r))):=JN ((ZV k.data.toList z.data.toList (wj+1) h1).rd q _);have e2:YW wj z.data.toList (Z (.rd q (k.data.toList++(outB o++r))))=(k.data.toList,Z (.rd (q++k.data.toList) (outB o++r))):=by unfold YW;rw[e1];dsimp only;rw[if_neg (by omega)]
 have e3:JF y.1 8 (Z (.rd (q++k.data.toList) (outB o++r)))=(o.1,Z (.rd (q++k.data.toList++beL o.1 8 8) (beL o.2 1 1++r))):=by unfold outB;rw[Qs];exact JS ((Yj o.1 8 y.1 (by have:=h3.1;omega)).rd _ _)
 have e4:JF y.2 1 (Z (.rd (q++k.data.toList++beL o.1 8 8) (beL o.2 1 1++r)))=(o.2,Z (.rd (q++k.data.toList++beL o.1 8 8++beL o.2 1 1) r)):=JS ((Yj o.2 1 y.2 (by have:=h3.2;omega)).rd _ _);unfold Jv stO;rw[Qs,e2];dsimp only;rw[e3];dsimp only;rw[e4];simp[outB,lD]
def wyK(wy:Wy):BA:=match wy.2 with|none=>⟨#[]⟩|some x=>⟨x.1.toArray⟩
def wyO(wy:Wy):Nat×Nat:=match wy.2 with|none=>(0,0)|some x=>x.2
theorem Jqd(hw:wj<=1000)(h:WyOk wj wy)(d:List UInt8):PS.way wj wy.1 wy.2.isSome (wyK wy) (wyO wy) (.wr d)=Z (wy,.wr (d++wayB wy)):=by
 obtain⟨l,e⟩:=wy;unfold PS.way;rw[Jor hw l h.steps h.len];dsimp only;have hr:Xl l (Z (PS.wr (d++(beL l.length 2 2++l.flatMap Xe))))=Z (PS.wr (d++(beL l.length 2 2++l.flatMap Xe))):=by unfold Xl;rw[if_pos h.rise]
 rw[hr]
 cases e with
 | none=>
  obtain rfl:l=[]:=h.bare rfl;rw[if_pos ⟨rfl,rfl⟩];simp[wayB,endB]
 | some x=>
  obtain⟨k,o⟩:=x;obtain⟨h1,h2,h3⟩:=h.key _ rfl;rw[if_neg (by simp[ZW])];have e1:=Jqt (wj:=wj) ⟨k.toArray⟩ o h1 h2 h3 (d++(beL l.length 2 2++l.flatMap Xe));simp only[wyK,wyO];rw[e1];simp[wayB,endB,lD]
theorem Jqc(hw:wj<=1000)(h:WyOk wj wy)(k:BA)(o:Nat×Nat)(q:List UInt8):PS.way wj [] false k o (.rd q (wayB wy))=Z (wy,.rd (q++wayB wy) []):=by
 obtain⟨l,e⟩:=wy;unfold PS.way;have e0:wayB (l,e)=beL l.length 2 2++(l.flatMap Xe++endB e):=rfl;rw[e0,Joq hw l h.steps h.len];dsimp only;have hr:∀p,Xl l (Z p)=Z p:=λp=>by unfold Xl;rw[if_pos h.rise]
 rw[hr]
 cases e with
 | none=>
  obtain rfl:l=[]:=h.bare rfl;rw[if_pos ⟨rfl,by simp[ZW,endB]⟩];simp[endB]
 | some x=>
  obtain⟨k',o'⟩:=x;obtain⟨h1,h2,h3⟩:=h.key _ rfl;rw[if_neg (by simp[ZW,endB];intro _ h;exact absurd h (by intro e;simp[e]at h1))];have e1:=Jqs (wj:=wj) ⟨k'.toArray⟩ k o' o h1 h2 h3 (q++(beL l.length 2 2++l.flatMap Xe)) [];simp only[QC]at e1;simp only[endB];rw[e1];simp[lD]
theorem Tr.bit_lt{b':Nat}{l' r' r:Tr}(ht:t=.br b' l' r')(h:(Tr.br b t r).Wf\/(Tr.br b r t).Wf):b<b':=by
 subst ht;obtain⟨x,hx⟩:=List.exists_mem_of_ne_nil _ (Tr.coins_ne l');obtain⟨y,hy⟩:=List.exists_mem_of_ne_nil _ (Tr.coins_ne r');apply Nat.lt_of_not_le;intro zi
 rcases h with⟨⟨_,_,h0,h1,_⟩,_,k0,k1,k2⟩|⟨_,⟨_,_,h0,h1,_⟩,k0,k1,k2⟩
 ·have e0:=h0 x hx;have e1:=h1 y hy
  by_cases he:b'=b
  ·subst he;have:=k0 y (by simp[Tr.coins,hy]);omega
  ·have:=k2 x (by simp[Tr.coins,hx]) y (by simp[Tr.coins,hy]) b' (by omega);omega
 ·have e0:=h0 x hx;have e1:=h1 y hy
  by_cases he:b'=b
  ·subst he;have:=k1 x (by simp[Tr.coins,hx]);omega
  ·have:=k2 x (by simp[Tr.coins,hx]) y (by simp[Tr.coins,hy]) b' (by omega);omega
theorem JfE(h:YY l l.length)(hs:∀x,l.head? =Z x->s.1<x.1):YY (s::l) (s::l).length:=by
 intro i h1 h2 x y hx hy;obtain⟨j,rfl⟩:∃j,i=j+1:=⟨i-1,by omega⟩
 simp only[Nat.add_sub_cancel,List.getElem?_cons_succ]at hx hy
 cases j with
 | zero=>
  simp only[List.getElem?_cons_zero,Qh]at hx;subst hx;exact hs y (by rw[List.head?_eq_getElem?];exact hy)
 | succ j=>
  simp only[List.getElem?_cons_succ]at hx;exact h (j+1) (by omega) (by simp at h2;omega) x y (by simpa using hx) hy
theorem Tr.way_head(d:List UInt8->BA)(k:Key)(t:Tr)(x:Stp)(h:(t.way d k).1.head? =Z x):∃l r,t=.br x.1 l r:=by
 cases t with
 | leaf=>simp[way]at h
 | br b l r=>
  simp only[way]at h
  split at h
  ·simp at h;subst h;exact⟨l,r,rfl⟩
  ·simp at h;subst h;exact⟨l,r,rfl⟩
theorem Tr.way_rise(d:List UInt8->BA)(k:Key)(t:Tr)(hw:t.Wf):YY (t.way d k).1 (t.way d k).1.length:=by
 induction t with
 | leaf=>intro i h1 h2;simp[way]at h2
 | br b l r ihl ihr=>
  have yT:=hw;obtain⟨w1,w2,_⟩:=hw;simp only[way]
  split
  ·refine JfE (ihl w1) (λx hx=>?_);obtain⟨l',r',e⟩:=Tr.way_head d k l x hx;exact Tr.bit_lt e (.inl yT)
  ·refine JfE (ihr w2) (λx hx=>?_);obtain⟨l',r',e⟩:=Tr.way_head d k r x hx;exact Tr.bit_lt e (.inr yT)
theorem Tr.way_steps(d:List UInt8->BA)(wj:Nat)(hd:∀l,(d l).size=wj)(k:Key)(t:Tr)(h:TrOk wj t):∀s∈(t.way d k).1,Zt wj s:=by
 induction t with
 | leaf=>intro s hs;cases hs
 | br b l r ihl ihr=>
  obtain⟨hb,h1,h2⟩:=h;intro s hs;simp only[way]at hs
  split at hs
  ·simp only[List.mem_cons]at hs
   rcases hs with rfl|hs
   ·exact⟨hb,by rw[Tr.dig_text,hd]⟩
   ·exact ihl h1 s hs
  ·simp only[List.mem_cons]at hs
   rcases hs with rfl|hs
   ·exact⟨hb,by rw[Tr.dig_text,hd]⟩
   ·exact ihr h2 s hs
theorem Tr.near_ok(wj:Nat)(k:Key)(t:Tr)(h:TrOk wj t):(t.near k).1.length=wj+1/\((t.near k).1.getD wj 0).toNat<3/\JC (t.near k).2:=by
 induction t with
 | leaf=>exact h
 | br b l r ihl ihr=>
  obtain⟨_,h1,h2⟩:=h;simp only[near]
  split
  ·exact ihl h1
  ·exact ihr h2
theorem JhK(n:Nat)(l:List Stp)(h:YY l l.length)(hb:∀s∈l,s.1<n):l.length<=n:=by
 have key:∀i (hi:i<l.length),i<=l[i].1:=by
  intro i
  induction i with
  | zero=>intro _;omega
  | succ i ih=>
   intro hi;have h1:=ih (by omega);have h2:=h (i+1) (by omega) hi l[i] l[i+1] (by simp) (by simp);omega
 by_cases h0:l.length=0
 ·omega
 ·have h1:=key (l.length-1) (by omega);have h2:=hb l[l.length-1] (Qx _);omega
theorem Jci(d:List UInt8->BA)(wj:Nat)(hd:∀l,(d l).size=wj)(k:Key)(st:Option Tr)(hw:∀t,st=Z t->t.Wf/\TrOk wj t):WyOk wj (YQ d k st):=by
 cases st with
 | none=>exact⟨λs hs=>(by cases hs),λi h1 h2=>(by simp[YQ]at h2),by simp[YQ],λ_=>rfl,λx hx=>(by cases hx)⟩
 | some t=>
  obtain⟨h1,h2⟩:=hw t rfl;have hs:=Tr.way_steps d wj hd k t h2;exact⟨hs,Tr.way_rise d k t h1,JhK _ _ (Tr.way_rise d k t h1) (λs h=>(hs s h).1),λh=>(by cases h),λx hx=>(by cases hx;rw[Tr.way_near];exact Tr.near_ok wj k t h2)⟩
theorem Jhb:∀(l:List Stp),(∀s∈l,Zt wj s)->(l.flatMap Xe).length=(wj+2)*l.length:=by
 intro l
 induction l with
 | nil=>intro _;rfl
 | cons s l ih=>
  intro h;have h1:=(h s (by simp)).2;have e:s.2.data.toList.length=wj:=by rw[<-h1];simp
  rw[QG,Qe,ih (λs hs=>h s (by simp[hs])),Xe,Qe,Jf,e,Qp,Nat.mul_add];omega
theorem Jnz(h:WyOk wj wy):(wayB wy).length<=2+8*(wj+1)*(2+wj)+wj+10:=by
 obtain⟨l,e⟩:=wy;have h1:=Jhb l h.steps;have h2:=h.len;simp only at h2;have h3:(wj+2)*l.length<=(wj+2)*(8*(wj+1)):=Nat.mul_le_mul_left _ h2;have h4:(wj+2)*(8*(wj+1))=8*(wj+1)*(2+wj):=by rw[Nat.mul_comm,Nat.add_comm wj 2]
 simp only[wayB,Qe,Jf,h1]
 cases e with
 | none=>simp[endB];omega
 | some x=>
  obtain⟨k,o⟩:=x;have:=(h.key _ rfl).1;simp only at this;simp only[endB,Qe,outB,Jf];omega

attribute [local go_sem] Oper.semAt_some

theorem Jin(n:Nat)(dg:BA)(b nl nr:Nat)(k:Key)(hk:b<8*k.length)(kt:k.length<=1000000)(w:aA)(h:w.heap[n]? =Z (T (brC dg b nl nr) 243)):
  aB N 225 #[X (Z ⟨n,0,Y⟩),L ⟨k.toArray⟩] w λe w'=>e=aC (X (Z ⟨if bt k b=0 then nr else nl,0,Y⟩))/\∃m,w'=w.drewN m:=by
 obtain⟨-, -, -, -,c4,c5,c6⟩:=rows h;have HB:J (∀W,_):=λW=>XL k b hk kt W;have hb:=Yv k b;generalize (⟨k.toArray⟩:BA)=kb at *;generalize bt k b=a at *;obtain rfl|rfl:a=0\/a=1:=by omega
 ·rw[if_pos rfl];go_enter func225,ntmps225;go_wp2;go_region_with (go_at_call 288;refine(HB _).mono ?_;rintro _ _⟨rfl,rfl⟩)
  all_goals go_wp2
  all_goals go_ret
  all_goals exact⟨rfl,1,rfl⟩
 ·rw[if_neg (by decide)];go_enter func225,ntmps225;go_wp2;go_region_with (go_at_call 288;refine(HB _).mono ?_;rintro _ _⟨rfl,rfl⟩)
  all_goals go_wp2
  all_goals go_ret
  all_goals exact⟨rfl,1,rfl⟩

def stpC(h:Stp):List aG:=[O I (h.1:Int),L h.2]
def stpV(l:List Stp):List aG:=l.flatMap stpC
theorem Jnl(l:List Stp):∀u∈stpV l,u.oneCell'=true:=by
 intro u hu;simp only[stpV,List.mem_flatMap,stpC]at hu;obtain⟨x,_,hu⟩:=hu;simp only[List.mem_cons,QD,or_false]at hu
 rcases hu with rfl|rfl<;>rfl
theorem JoT(l:List Stp):stpV l=(vvA (l.map encS)).toList:=by
 simp[stpV,vvA,encS,List.flatMap_map];rfl
def POwn(base:Nat)(w:aA)(v:aG)(l:List Stp):Prop:=w.ownsRow base 366 2 v l.length (stpV l)
theorem POwn.nil(base:Nat)(w:aA):POwn base w (R Y 0 0) []:=⟨rfl,.inl ⟨rfl,rfl⟩⟩
theorem POwn.own(h:POwn base w v l):∀k,v.ownBlock=Z k->base<=k/\∃cs m,w.heap[k]? =Z (T cs 366 m):=by
 obtain⟨_,⟨rfl,h0⟩|⟨g,cap,cur,rfl,hb,hZ,_⟩⟩:=h
 ·intro k hk;cases hk
 ·intro k hk;cases hk;exact⟨hb,_,_,hZ⟩
theorem POwn.tch(h:POwn base w v l)(k:M S w w')(hs:∀j,v.ownBlock=Z j->¬S j):POwn base w' v l:=by
 obtain⟨h1,⟨rfl,h0⟩|⟨g,cap,cur,rfl,hb,hZ,h2⟩⟩:=h
 ·exact⟨h1,.inl ⟨rfl,h0⟩⟩
 ·exact⟨h1,.inr ⟨g,cap,cur,rfl,hb,(k.block g (Jb hZ) (hs g rfl)).trans hZ,h2⟩⟩
theorem POwn.shape(h:POwn base w v l):∃a c,v=R a l.length c:=by
 obtain⟨_,⟨rfl,h0⟩|⟨g,cap,cur,rfl,hb,hZ,_⟩⟩:=h
 ·exact⟨Y,0,by rw[h0]⟩
 ·exact⟨_,_,rfl⟩
theorem POwn.vat(h:POwn base w v l):VAt w.heap.size w v (l.map encS):=by
 obtain⟨_,⟨rfl,h0⟩|⟨g,cap,cur,rfl,_,hZ,_,_,Hi,kK⟩⟩:=h
 ·exact .inl ⟨rfl,by rw[QP h0];rfl⟩
 ·have H5:=(Jb hZ)
  refine .inr ⟨g,0,cap,by rw[QM],H5,H5,λi hi=>?_⟩;obtain⟨e0,e1⟩:=Yt (l.map encS) i hi;have hc:∀j u,(vvA (l.map encS))[j]? =Z u->w.cell? ⟨g,0+j,Y⟩=Z u:=by intro j u hu;rw[<-Array.getElem?_toList,<-JoT,<-kK]at hu;have hj:=(Qo.1 hu).1;rw[List.getElem?_take_of_lt (by rw[QB]at hj;omega)]at hu;rw[Ja hZ,Nat.zero_add,<-Array.getElem?_toList];exact hu
  exact⟨hc _ _ e0,hc _ _ e1⟩
theorem Ju{row:Option Nat}{B:Nat}{m:Nat×Nat}(h:W.heap[B]? =Z (T cs aY m))(hg:W.grownBy W' row)(hr:∀r,row=Z r->∃o:Obj,W.heap[r]? =Z o/\o.isCells=false):W'.heap[B]? =Z (T cs aY m):=by
 refine(hg.block B (Jb h) (λe=>?_)).trans h;obtain⟨o,ho,hc⟩:=hr B e.symm;rw[h]at ho
 cases ho
 cases hc
theorem POwn.kept{row:Option Nat}(h:POwn base W v l)(hg:W.grownBy W' row)(hr:∀r,row=Z r->∃o:Obj,W.heap[r]? =Z o/\o.isCells=false):POwn base W' v l:=by
 obtain⟨h1,⟨rfl,h0⟩|⟨g,cap,cur,rfl,hb,hZ,h2⟩⟩:=h
 ·exact⟨h1,.inl ⟨rfl,h0⟩⟩
 ·exact⟨h1,.inr ⟨g,cap,cur,rfl,hb,Ju hZ hg hr,h2⟩⟩
theorem Jbd(h:M S W W')(hs:∀j,S j->∃cs aY m,W.heap[j]? =Z (T cs aY m)):KeepsOthers W W':=by
 refine⟨h.size,λk o hk ho=>(h.block k (Jb hk) (λhS=>?_)).trans hk⟩;obtain⟨cs,aY,m,e⟩:=hs k hS;rw[hk]at e
 cases e
 cases ho

def Jpn(w:aA)(k:Key):Nat×(KO ⊕ Stp)->Prop
 | (x,.inl (k',o))=>∃dg,w.heap[x]? =Z (T (JaH dg k' o) 243)
 | (x,.inr (b,od))=>∃dg nl nr cs,w.heap[x]? =Z (T (brC dg b nl nr) 243)/\b<8*k.length/\w.heap[if bt k b=0 then nr else nl]? =Z (T cs 243)/\cs[0]? =Z (L od)
abbrev Ye(w:aA)(k:Key):={ y:Nat×(KO ⊕ Stp) // Jpn w k y }
theorem Jl.dig(h:Jl d F w n t):∃cs,w.heap[n]? =Z (T cs 243)/\cs[0]? =Z (L (t.dig d)):=by
 cases h with
 | leaf _ k o hF hr=>exact⟨_,hr,rfl⟩
 | br _ b nl nr l r hF hr=>exact⟨_,hr,rfl⟩
theorem Jl.wayD(hk:k.length=wj+1)(h:Jl d F w n t)(Hb:TrOk wj t):∃ds:List (Ye w k),Way w.heap.size k w (Z n) (ds.map (·.1.1))/\ds.map (·.1.2)=(t.way d k).1.map .inr++[.inl (t.way d k).2]:=by
 induction h with
 | leaf n k' o hF hr=>exact⟨[⟨(n,.inl (k',o)),_,hr⟩],⟨rfl,(Jb hr),.inl ⟨_,_,_,hr,rfl⟩⟩,rfl⟩
 | br n b nl nr l r hF hr hl kL ihl ihr=>
  obtain⟨hb,zb,zd⟩:=Hb
  by_cases h0:bt k b=0
  ·have ew:(Tr.br b l r).way d k=((b,r.dig d)::(l.way d k).1,(l.way d k).2):=(by simp only[Tr.way];rw[if_pos h0]);rw[ew];obtain⟨ds,h1,h2⟩:=ihl zb;obtain⟨cs,e1,e2⟩:=kL.dig;refine⟨⟨(n,.inr (b,r.dig d)),_,nl,nr,cs,hr,by omega,by rw[if_pos h0];exact e1,e2⟩ :: ds,⟨rfl,(Jb hr),.inr ⟨_,b,nl,nr,hr,by omega,by rw[if_pos h0];exact h1⟩⟩,?_⟩;exact congrArg (List.cons _) h2
  ·have ew:(Tr.br b l r).way d k=((b,l.dig d)::(r.way d k).1,(r.way d k).2):=(by simp only[Tr.way];rw[if_neg h0]);rw[ew];obtain⟨ds,h1,h2⟩:=ihr zd;obtain⟨cs,e1,e2⟩:=hl.dig;refine⟨⟨(n,.inr (b,l.dig d)),_,nl,nr,cs,hr,by omega,by rw[if_neg h0];exact e1,e2⟩ :: ds,⟨rfl,(Jb hr),.inr ⟨_,b,nl,nr,hr,by omega,by rw[if_neg h0];exact h1⟩⟩,?_⟩;exact congrArg (List.cons _) h2
theorem Jf0(n:Nat)(hn:2<=n)(Bt Bk n₀:Nat)(k:Key)(jg:1<=k.length)(kt:k.length<=1000000)(q:Option Nat)(v:aA)(ds:List (Ye v k))(w:aA)(hBt:Bt<w.heap.size)(iA:Bk<w.heap.size)(hn₀:n₀<=w.heap.size)(c1:w.cell? ⟨Bt,1,Y⟩=Z (Jm q))(c2:w.cell? ⟨Bk,0,Y⟩=Z (L ⟨k.toArray⟩))(hL:Way n₀ k w q (ds.map (·.1.1))):
  SeqStopsK Fence.wide n N 295 #[X (Z ⟨Bt,0,Y⟩),X (Z ⟨Bk,0,Y⟩)] (λy:Ye v k=> #[lC (Z ⟨y.1.1,0,Y⟩)]) (JgE n₀ Bk) (λys=>ys=ds) (λpre=>pre <+:ds) ds.length w:=λl aR Jx W hW hJ _ hY h0=>by
 refine(JgV n hn l Bt Bk n₀ k jg kt q (ds.map (·.1.1)) (λp W=>∃pre:List (Ye v k),pre <+:ds/\pre.map (·.1.1)=p/\aR pre W) (λp W=>∃pre:List (Ye v k),pre <+:ds/\pre.map (·.1.1)=p/\Jx pre W) (λp W' m ⟨pre,h1,h2,h⟩=>⟨pre,h1,h2,hJ pre W' (W'.drewN m) Y h ⟨rfl,rfl,rfl,Ql _,λ_ _ _=>rfl⟩ (λr e=>by cases e)⟩) ?_ W ((hW.cell (p:=⟨Bt,1,Y⟩) hBt).trans c1) ((hW.cell (p:=⟨Bk,0,Y⟩) iA).trans c2) (Way.below (hW.mono hn₀) hL) ⟨[],List.nil_prefix,rfl,h0⟩).mono ?_
 ·rintro p x W1⟨pre,hp,rfl,dR⟩ hx;rw[QM,List.getElem?_map]at hx
  cases hy:ds[pre.length]? with
  | none=>rw[hy]at hx;cases hx
  | some y=>
   rw[hy]at hx;simp only[Option.map_some,Qh]at hx;have H5:=(Qo.1 hy).1;have pM:pre++[y] <+:ds:=by
    obtain⟨r,rfl⟩:=hp;rw[Qz (Ql _),Nat.sub_self]at hy
    cases r with
    | nil=>cases hy
    | cons z r=>simp at hy;subst hy;exact⟨r,by simp⟩
   have:=hY pre y W1 dR H5;subst hx;refine YieldAt.mono this ?_;rintro e W' (⟨rfl,h1,h2⟩|⟨rfl,h1⟩)
   ·exact .inl ⟨rfl,⟨pre++[y],pM,by simp,h1⟩,h2⟩
   ·exact .inr ⟨rfl,⟨pre++[y],pM,by simp,h1⟩⟩
 ·rintro e W'⟨hv,⟨ys,zr,pre,hp,hm,h⟩|⟨p,_,pre,hp,_,h⟩⟩
  ·refine⟨hv,.inl ⟨pre,?_,h⟩⟩;have hl:pre.length=ds.length:=(by have:=congrArg List.length (hm.trans zr);simpa using this);exact hp.eq_of_length hl
  ·exact⟨hv,.inr ⟨pre,hp,h⟩⟩
