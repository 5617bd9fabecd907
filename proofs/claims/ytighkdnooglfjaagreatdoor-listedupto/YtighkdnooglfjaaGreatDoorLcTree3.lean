import Derived.Test.YtighkdnooglfjaaGreatDoorLcWText
namespace Go.Proofs.YtighkdnooglfjaaGreatDoor
open Tryz
set_option maxRecDepth 100000
set_option maxHeartbeats 1000000
open Go.RowKit

variable {d:List UInt8->BA}{n:Nat}{F:Nat->Prop}{w w':World}
def YI(dg:BA)(k:Key)(o:Nat×Nat):Array Value:= #[.string dg,.string ⟨k.toArray⟩,.int .u64 (o.1:Int),.int .u8 (o.2:Int),.int .i64 0,.pointer none,.pointer none]
def brC(dg:BA)(b nl nr:Nat):Array Value:= #[.string dg,.string ⟨#[]⟩,.int .u64 0,.int .u8 0,.int .i64 (b:Int),.pointer (some ⟨nl,0,none⟩),.pointer (some ⟨nr,0,none⟩)]
def Jkg(d:List UInt8->BA)(F:Nat->Prop)(w:World):Nat->Tr->Prop
 | n,⟨.inl (k,o)⟩=>F n/\w.heap[n]? =some (.cells (YI (Tr.dig d (.leaf k o)) k o) 243)
 | n,⟨.inr (b,l,r)⟩=>∃nl nr,F n/\w.heap[n]? =some (.cells (brC (Tr.dig d (.br b l r)) b nl nr) 243)/\Jkg d F w nl l/\Jkg d F w nr r
structure Jg(d:List UInt8->BA)(F:Nat->Prop)(w:World)(n:Nat)(t:Tr):Prop where
 of ::
 a:Jkg d F w n t
theorem Jg.leaf(n:Nat)(k:Key)(o:Nat×Nat)(h1:F n)(h2:w.heap[n]? =some (.cells (YI (Tr.dig d (.leaf k o)) k o) 243)):Jg d F w n (.leaf k o):=⟨h1,h2⟩
theorem Jg.br(n b nl nr:Nat)(l r:Tr)(h1:F n)(h2:w.heap[n]? =some (.cells (brC (Tr.dig d (.br b l r)) b nl nr) 243))(h3:Jg d F w nl l)(h4:Jg d F w nr r):Jg d F w n (.br b l r):=⟨nl,nr,h1,h2,h3.a,h4.a⟩
theorem Jg.bri{b:Nat}{l r:Tr}(h:Jg d F w n (.br b l r)):∃nl nr,F n/\w.heap[n]? =some (.cells (brC (Tr.dig d (.br b l r)) b nl nr) 243)/\Jg d F w nl l/\Jg d F w nr r:=by
 obtain⟨nl,nr,h1,h2,h3,h4⟩:=h.a;exact⟨nl,nr,h1,h2,⟨h3⟩,⟨h4⟩⟩
theorem Jg.ri{motive:∀n t,Jg d F w n t->Prop}(leaf:∀n k o hF hr,motive n (.leaf k o) (.leaf n k o hF hr))(br:∀n b nl nr l r hF hr hl hr',motive nl l hl->motive nr r hr'->motive n (.br b l r) (.br n b nl nr l r hF hr hl hr')):∀{n t} (h:Jg d F w n t),motive n t h
 | n,⟨.inl (k,o)⟩,⟨h⟩=>leaf n k o h.1 h.2
 | n,⟨.inr (b,l,r)⟩,⟨nl,nr,h1,h2,h3,h4⟩=>br n b nl nr l r h1 h2 ⟨h3⟩ ⟨h4⟩ (Jg.ri leaf br ⟨h3⟩) (Jg.ri leaf br ⟨h4⟩)
theorem Jg.tch{t:Tr}{S:Nat->Prop}(h:Jg d F w n t)(k:Tch S w w')(hs:∀j,S j->¬F j):Jg d F w' n t:=by
 induction h using Jg.ri with
 | leaf n key o hF hr=>exact .leaf n key o hF ((k.block n (Jb hr) (λe=>hs n e hF)).trans hr)
 | br n b nl nr l r hF hr _ _ ihl ihr=>exact .br n b nl nr l r hF ((k.block n (Jb hr) (λe=>hs n e hF)).trans hr) ihl ihr
theorem Jg.next{t:Tr}(h:Jg d F w n t)(k:Tch NoB w w'):Jg d F w' n t:=h.tch k noE
theorem Jg.mono{F':Nat->Prop}{t:Tr}(h:Jg d F w n t)(hF:∀j,F j->F' j):Jg d F' w n t:=by
 induction h using Jg.ri with
 | leaf n key o h1 hr=>exact .leaf n key o (hF n h1) hr
 | br n b nl nr l r h1 hr _ _ ihl ihr=>exact .br n b nl nr l r (hF n h1) hr ihl ihr
theorem Jg.own{t:Tr}(h:Jg d F w n t):F n/\n<w.heap.size:=by
 cases h using Jg.ri with
 | leaf _ _ _ h1 hr=>exact⟨h1,(Jb hr)⟩
 | br _ _ _ _ _ _ h1 hr=>exact⟨h1,(Jb hr)⟩
theorem Jg.digCell{t:Tr}(h:Jg d F w n t):w.cell? ⟨n,0,none⟩=some (.string (t.dig d)):=by
 cases h using Jg.ri with
 | leaf _ _ _ h1 hr=>exact Ja hr
 | br _ _ _ _ _ _ h1 hr=>exact Ja hr
def TrOk(wj:Nat):Tr->Prop
 | ⟨.inl (k,o)⟩=>k.length=wj+1/\(k.getD wj 0).toNat<3/\Jy o
 | ⟨.inr (b,l,r)⟩=>b<8*(wj+1)/\TrOk wj l/\TrOk wj r
theorem JgW(wj:Nat)(l k:BA)(o:Nat×Nat)(b:Int)(x y:BA)(st s1:Option PS)(h:Jl l.data.toList 1 st=([76],s1)):(XJ wj (l,k,o,b,x,y) st).2=(XV wj k o s1).2:=by
 unfold XJ;simp[h]
theorem JjV(wj:Nat)(l k:BA)(o:Nat×Nat)(b:Int)(x y:BA)(st s1:Option PS)(h:Jl l.data.toList 1 st=([78],s1)):(XJ wj (l,k,o,b,x,y) st).2=(stBr wj b x y s1).2:=by
 unfold XJ;simp[h]
theorem Jeq(wj:Nat)(k:Key)(o:Nat×Nat)(h:TrOk wj (.leaf k o)):ZV (XJ wj (⟨#[76]⟩,⟨k.toArray⟩,o,0,⟨#[]⟩,⟨#[]⟩) (some (.wr []))).2=some (76::(k++outB o)):=by
 obtain⟨h1,h2,h3⟩:=h;have e1:Jl [76] 1 (some (.wr []))=([76],some (.wr [76])):=Xg rfl;have e2:(PS.wr [76]).txt k (wj+1)=some (k,.wr ([76]++k)):=by simp only[PS.txt];rw[if_pos h1]
 have e3:Zv wj k (some (.wr [76]))=(k,some (.wr ([76]++k))):=by unfold Zv;rw[Xg e2];dsimp only;rw[if_neg (by omega)]
 have e4:(PS.wr ([76]++k)).out o.1 o.2=some (o,.wr ([76]++k++outB o)):=(Jlx o 0 0 h3).wr _;obtain⟨p1,q1,q2,_⟩:=JbE _ _ _ _ _ e4;have e5:stO o (some (.wr ([76]++k)))=(o,some (.wr ([76]++k++outB o))):=by unfold stO;rw[XQ q1];dsimp only;rw[XQ q2]
 have e6:XV wj ⟨k.toArray⟩ o (some (.wr [76]))=((k,o),some (.wr ([76]++k++outB o))):=by unfold XV;show (((Zv wj k _).1,_),_)=_;rw[e3];dsimp only;rw[e5]
 rw[JgW wj ⟨#[76]⟩ _ _ _ _ _ _ _ e1,e6];simp[ZV]
theorem Jif(wj:Nat)(b:Nat)(x y:BA)(hw:wj<=1000)(hb:b<8*(wj+1))(hx:x.size=wj)(hy:y.size=wj):ZV (XJ wj (⟨#[78]⟩,⟨#[]⟩,(0,0),(b:Int),x,y) (some (.wr []))).2=some (78::(beL b 2 2++(x.data.toList++y.data.toList))):=by
 have e1:Jl [78] 1 (some (.wr []))=([78],some (.wr [78])):=Xg rfl;have ex:JE (b:Int)=b:=by unfold JE;omega
 have e2:(PS.wr [78]).num b 2=some (b,.wr ([78]++beL b 2 2)):=(JaF b 2 0 (by omega)).wr _;have e3:Zc wj (b:Int) (some (.wr [78]))=(b,some (.wr ([78]++beL b 2 2))):=by unfold Zc;rw[ex,XQ e2];dsimp only;rw[if_neg (by omega)]
 have e4:(PS.wr ([78]++beL b 2 2)).txt x.data.toList wj=some (x.data.toList,.wr ([78]++beL b 2 2++x.data.toList)):=(Jcd x.data.toList [] wj (by rw[<-hx];simp)).wr _;have e5:(PS.wr ([78]++beL b 2 2++x.data.toList)).txt y.data.toList wj=some (y.data.toList,.wr ([78]++beL b 2 2++x.data.toList++y.data.toList)):=(Jcd y.data.toList [] wj (by rw[<-hy];simp)).wr _;have e6:(stBr wj (b:Int) x y (some (.wr [78]))).2=some (.wr ([78]++beL b 2 2++x.data.toList++y.data.toList)):=by unfold stBr;rw[e3];dsimp only;rw[Xg e4];dsimp only;rw[Xg e5]
 rw[JjV wj ⟨#[78]⟩ _ _ _ _ _ _ _ e1,e6];simp[ZV]
theorem resN{w1:World}(h:Tch NoB (w.alloc (.cells #[.string ⟨#[]⟩,.string ⟨#[]⟩,.int .u64 0,.int .u8 0,.int .i64 0,.string ⟨#[]⟩,.string ⟨#[]⟩] 281)).drew w1):
  w1.heap[w.heap.size]? =some (.cells #[.string ⟨#[]⟩,.string ⟨#[]⟩,.int .u64 0,.int .u8 0,.int .i64 0,.string ⟨#[]⟩,.string ⟨#[]⟩] 281)/\w1.cell? ⟨w.heap.size,0,none⟩=some (.string ⟨#[]⟩)/\w1.cell? ⟨w.heap.size,1,none⟩=some (.string ⟨#[]⟩)/\w1.cell? ⟨w.heap.size,2,none⟩=some (.int .u64 0)/\w1.cell? ⟨w.heap.size,3,none⟩=some (.int .u8 0)/\w1.cell? ⟨w.heap.size,4,none⟩=some (.int .i64 0)/\w1.cell? ⟨w.heap.size,5,none⟩=some (.string ⟨#[]⟩)/\w1.cell? ⟨w.heap.size,6,none⟩=some (.string ⟨#[]⟩)/\(∀j,w1.frozen? ⟨w.heap.size,j,none⟩=false)/\Tch NoB w w1:=by
 have r:=(h.block _ (by show _<(w.alloc _).heap.size;simp) (λh=>h)).trans (Qf _ _);exact⟨r,Ja r,Ja r,Ja r,Ja r,Ja r,Ja r,Ja r,λj=>Qg _ _ _ _ _ r,((Ta NoB w _).trans (Td _ _ 1) (λ_ h=>.inl h)).trans h noE⟩
theorem Jdl(n:Nat)(dg:BA)(k:Key)(o:Nat×Nat)(w:World)(h:w.heap[n]? =some (.cells (YI dg k o) 243)):
  Calls prog 353 #[.pointer (some ⟨n,0,none⟩)] w λe w'=>e=.returned (.agg (Jo (⟨#[76]⟩,⟨k.toArray⟩,o,0,⟨#[]⟩,⟨#[]⟩)))/\Tch NoB w w':=by
 obtain⟨oa,oo⟩:=o;obtain⟨-,c1,c2,c3, -,c5⟩:=rows h;have hlt:=(Jb h)
 generalize (⟨k.toArray⟩:BA)=kb at *;have HV:Hid (Jo (⟨#[76]⟩,kb,(oa,oo),0,⟨#[]⟩,⟨#[]⟩)= #[.string ⟨#[76]⟩,.string kb,.int .u64 (oa:Int),.int .u8 (oo:Int),.int .i64 0,.string ⟨#[]⟩,.string ⟨#[]⟩]):=rfl;rw[HV.o];go_enter func353,ntmps353;go_wp2;go_region_with (go_at_call 307;refine(Jbx _ _ _ _).mono ?_;rintro _ w1⟨rfl,ht1⟩;obtain⟨(RR:Hid _),e0,e1,e2,e3,e4,e5,e6,fR,(HT1:Hid _)⟩:=resN ht1;clear ht1)
 all_goals go_wp2;rw[set7 _ _ _ _ _ _ _ _ _ _ _ _ _ _ _ _ _ RR.out];exact QJ (v:=.agg #[.string ⟨#[76]⟩,.string kb,.int .u64 (oa:Int),.int .u8 (oo:Int),.int .i64 0,.string ⟨#[]⟩,.string ⟨#[]⟩]) (Qq results353 _ _ w.heap.size _ _ (0,0) _ rfl (Qi _ _ _ _ _ _ RR) underlying281 rfl (by kernel_rfl)) rfl ⟨rfl,HT1.trans (Ts _ w.heap.size _) (λj hj=>.inr (by omega))⟩
theorem Jgk{g:Nat}{t:TypeId}{a b c d e f h:Value}(hr:w.heap[g]? =some (.cells #[a,b,c,d,e,f,h] t (0,0)))(v0 v1 v2 v3 v4 v5 v6:Value){o:Nat}(hn:n<w.heap.size)(hne:n ≠ g){v:Value}(hc:w.cell? ⟨n,o,none⟩=some v):
  (((((((w.setCell ⟨g,0,none⟩ v0).setCell ⟨g,1,none⟩ v1).setCell ⟨g,2,none⟩ v2).setCell ⟨g,3,none⟩ v3).setCell ⟨g,4,none⟩ v4).setCell ⟨g,5,none⟩ v5).setCell ⟨g,6,none⟩ v6).cell? ⟨n,o,none⟩=some v:=by
 rw[set7 w g t a b c d e f h v0 v1 v2 v3 v4 v5 v6 hr];exact((Ts w g _).cell (p:=⟨n,o,none⟩) hn hne).trans hc
theorem JgF(n:Nat)(dg:BA)(b nl nr:Nat)(x y:BA)(w:World)(h:w.heap[n]? =some (.cells (brC dg b nl nr) 243))(hx:w.cell? ⟨nl,0,none⟩=some (.string x))(hy:w.cell? ⟨nr,0,none⟩=some (.string y))(hnl:nl<w.heap.size)(hnr:nr<w.heap.size):
  Calls prog 353 #[.pointer (some ⟨n,0,none⟩)] w λe w'=>e=.returned (.agg (Jo (⟨#[78]⟩,⟨#[]⟩,(0,0),(b:Int),x,y)))/\Tch NoB w w':=by
 obtain⟨-, -, -, -,c4,c5,c6⟩:=rows h;have hlt:=(Jb h)
 have HV:Hid (Jo (⟨#[78]⟩,⟨#[]⟩,(0,0),(b:Int),x,y)= #[.string ⟨#[78]⟩,.string ⟨#[]⟩,.int .u64 0,.int .u8 0,.int .i64 (b:Int),.string x,.string y]):=rfl;rw[HV.o];go_enter func353,ntmps353;go_wp2;go_region_held3 (λW=>W.cell? ⟨n,4,none⟩=some (.int .i64 (b:Int))/\W.cell? ⟨n,5,none⟩=some (.pointer (some ⟨nl,0,none⟩))/\W.cell? ⟨n,6,none⟩=some (.pointer (some ⟨nr,0,none⟩))/\W.cell? ⟨nl,0,none⟩=some (.string x)/\W.cell? ⟨nr,0,none⟩=some (.string y)) (go_keep) ((go_at_call 309;refine(Jav _ _ _ _).mono ?_;rintro _ w1⟨rfl,ht1⟩;obtain⟨(RR:Hid _),e0,e1,e2,e3,e4,e5,e6,fR,(HT1:Hid _)⟩:=resN ht1;have f4:=(HT1.cell (p:=⟨n,4,none⟩) hlt (λh=>h)).trans c4;have f5:=(HT1.cell (p:=⟨n,5,none⟩) hlt (λh=>h)).trans c5;have f6:=(HT1.cell (p:=⟨n,6,none⟩) hlt (λh=>h)).trans c6;have f7:=(HT1.cell (p:=⟨nl,0,none⟩) hnl (λh=>h)).trans hx;have f8:=(HT1.cell (p:=⟨nr,0,none⟩) hnr (λh=>h)).trans hy;have hz:=HT1.size;have g4:=Jgk RR (.string ⟨#[78]⟩) (.string ⟨#[]⟩) (.int .u64 0) (.int .u8 0) (.int .i64 (b:Int)) (.string x) (.string y) (by omega) (by omega) f4;have g5:=Jgk RR (.string ⟨#[78]⟩) (.string ⟨#[]⟩) (.int .u64 0) (.int .u8 0) (.int .i64 (b:Int)) (.string x) (.string y) (by omega) (by omega) f5;have g6:=Jgk RR (.string ⟨#[78]⟩) (.string ⟨#[]⟩) (.int .u64 0) (.int .u8 0) (.int .i64 (b:Int)) (.string x) (.string y) (by omega) (by omega) f6;have g7:=Jgk RR (.string ⟨#[78]⟩) (.string ⟨#[]⟩) (.int .u64 0) (.int .u8 0) (.int .i64 (b:Int)) (.string x) (.string y) (by omega) (by omega) f7;have g8:=Jgk RR (.string ⟨#[78]⟩) (.string ⟨#[]⟩) (.int .u64 0) (.int .u8 0) (.int .i64 (b:Int)) (.string x) (.string y) (by omega) (by omega) f8;clear ht1))
 all_goals go_wp2;rw[set7 _ _ _ _ _ _ _ _ _ _ _ _ _ _ _ _ _ RR.out];exact QJ (v:=.agg #[.string ⟨#[78]⟩,.string ⟨#[]⟩,.int .u64 0,.int .u8 0,.int .i64 (b:Int),.string x,.string y]) (Qq results353 _ _ w.heap.size _ _ (0,0) _ rfl (Qi _ _ _ _ _ _ RR) underlying281 rfl (by kernel_rfl)) rfl ⟨rfl,HT1.trans (Ts _ w.heap.size _) (λj hj=>.inr (by omega))⟩

theorem JnU(w:World)(g:Nat)(t:TypeId)(a b c d e f h v0:Value)(hr:w.heap[g]? =some (.cells #[a,b,c,d,e,f,h] t (0,0))):
  (w.setCell ⟨g,0,none⟩ v0).heap[g]? =some (.cells #[v0,b,c,d,e,f,h] t (0,0))/\Tch (λk=>k=g) w (w.setCell ⟨g,0,none⟩ v0):=by
 rw[Qj w g 0 _ t (0,0) v0 hr];refine⟨?_,Ts _ _ _⟩;rw[Qi _ _ _ _ _ _ hr];rfl
theorem Jbt(E:Nat->Addr)(wj:Nat)(hw1:1<=wj)(hw:wj<=32)(c1 c2 c3 c4 c5 c6:Value)(nd:Jj)(ho:nd.2.2.1.2<256)(txt:List UInt8)(hl:txt.length<=1000)(w:World)(hE:Env E w)
 (hc:∃(k:BA)(a o b:Int)(l r:Option Addr),c1=.string k/\c2=.int .u64 a/\c3=.int .u8 o/\c4=.int .i64 b/\c5=.pointer l/\c6=.pointer r)
 (hpl:∀W,Tch NoB w W->W.heap[w.heap.size]? =some (.cells #[.string ⟨#[]⟩,c1,c2,c3,c4,c5,c6] 243)->Calls prog 353 #[.pointer (some ⟨w.heap.size,0,none⟩)] W λe w'=>e=.returned (.agg (Jo nd))/\Tch NoB W w')
 (htx:ZV (XJ wj nd (some (.wr []))).2=some txt):
  Calls prog 331 #[.int .i64 (wj:Int),.agg #[.string ⟨#[]⟩,c1,c2,c3,c4,c5,c6]] w λe w'=>e=.returned (.tuple #[.pointer (some ⟨w.heap.size,0,none⟩),.nilIface])/\w'.heap[w.heap.size]? =some (.cells #[.string (dgW wj txt),c1,c2,c3,c4,c5,c6] 243)/\Tch NoB w w':=by
 obtain⟨k,a,o,b,l,r,rfl,rfl,rfl,rfl,rfl,rfl⟩:=hc;have HP:Hid _:=hpl;have HE:Hid _:=hE;have HTX:Hid _:=htx;obtain⟨nl,nk,⟨na,no⟩,nb,nx,ny⟩:=nd;dsimp only at ho;have HV:Hid (Jo (nl,nk,(na,no),nb,nx,ny)= #[.string nl,.string nk,.int .u64 (na:Int),.int .u8 (no:Int),.int .i64 nb,.string nx,.string ny]):=rfl;go_enter func331,ntmps331;go_wp2_with fail;refine(HP _ (Ta _ _ _) (Qf _ _)).mono ?_;rw[HV.o];rintro _ w1⟨rfl,ht1⟩;have tA:=(Ta NoB w _).trans ht1 noE;have r1:=(ht1.block _ (by simp) (λh=>h)).trans (Qf _ _);have HT:Hid (Calls prog 154 _ w1 _):=Zh E wj (by omega) (nl,nk,(na,no),nb,nx,ny) ho w1 (HE.tch tA noE);rw[HV.o,HTX.o]at HT;have R1:Hid _:=r1;have TA:Hid _:=tA;go_wp2_with fail;refine HT.o.mono ?_;rintro _ w2⟨ht2,rfl⟩;have tB:=TA.trans ht2 noE;have r2:=(ht2.block _ (Jb R1) (λh=>h)).trans R1.o;have HOF:Hid (∀W,Tch NoB w2 W->_):=λW hT=>Jbg E wj ⟨txt.toArray⟩ W ((HE.tch tB noE).tch hT noE) hw1 hw (by rw[JA];omega);have R2:Hid _:=r2;have TB:Hid _:=tB;generalize hTX:(⟨txt.toArray⟩:BA)=tb at *;have HTB:Hid _:=hTX;go_wp2_with fail;refine(HOF w2 (Te _ _)).mono ?_;rintro _ w3⟨rfl,ht3⟩;have r3:=(ht3.block _ (Jb R2) (λh=>h)).trans R2.o;obtain⟨e0, -⟩:=rows r3;have f0:w3.frozen? ⟨w.heap.size,0,none⟩=false:=Qg _ _ _ _ _ r3;obtain⟨(Q1:Hid _),(Q2:Hid _)⟩:=JnU w3 w.heap.size _ _ _ _ _ _ _ _ (.string (dgW wj tb.data.toList)) r3;have TC:Hid _:=TB.trans ht3 noE;have HDL:Hid (tb.data.toList=txt):=by show _=_;rw[<-HTB.o]
 clear r3 ht3 HOF;go_wp2;go_ret2;refine⟨rfl,?_,TC.trans Q2 (λj hj=>.inr (by omega))⟩;rw[<-HDL.o];exact Q1.out
theorem JdU(E:Nat->Addr)(wj:Nat)(hw1:1<=wj)(hw:wj<=32)(k:Key)(o:Nat×Nat)(hk:TrOk wj (.leaf k o))(w:World)(hE:Env E w):
  Calls prog 331 #[.int .i64 (wj:Int),.agg (YI ⟨#[]⟩ k o)] w λe w'=>e=.returned (.tuple #[.pointer (some ⟨w.heap.size,0,none⟩),.nilIface])/\w'.heap[w.heap.size]? =some (.cells (YI (Tr.dig (dgW wj) (.leaf k o)) k o) 243)/\Tch NoB w w':=by
 have h1:=hk.1;have h2:=hk.2.2.2;exact Jbt E wj hw1 hw _ _ _ _ _ _ (⟨#[76]⟩,⟨k.toArray⟩,o,0,⟨#[]⟩,⟨#[]⟩) h2 (76::(k++outB o)) (by simp[outB,Jf];omega) w hE ⟨_,_,_,_,_,_,rfl,rfl,rfl,rfl,rfl,rfl⟩ (λW _ hr=>Jdl w.heap.size ⟨#[]⟩ k o W hr) (Jeq wj k o hk)
theorem Jf2(E:Nat->Addr)(wj:Nat)(hw1:1<=wj)(hw:wj<=32)(b nl nr:Nat)(l r:Tr)(F:Nat->Prop)(hb:b<8*(wj+1))(w:World)(hE:Env E w)(hl:Jg (dgW wj) F w nl l)(hr:Jg (dgW wj) F w nr r):
  Calls prog 331 #[.int .i64 (wj:Int),.agg (brC ⟨#[]⟩ b nl nr)] w λe w'=>e=.returned (.tuple #[.pointer (some ⟨w.heap.size,0,none⟩),.nilIface])/\w'.heap[w.heap.size]? =some (.cells (brC (Tr.dig (dgW wj) (.br b l r)) b nl nr) 243)/\Tch NoB w w':=by
 have s1:(l.dig (dgW wj)).size=wj:=by cases l using Tr.ri<;>exact Jz wj hw _
 have s2:(r.dig (dgW wj)).size=wj:=by cases r using Tr.ri<;>exact Jz wj hw _
 have n1:(l.dig (dgW wj)).data.toList.length=wj:=by simpa using s1
 have n2:(r.dig (dgW wj)).data.toList.length=wj:=by simpa using s2
 exact Jbt E wj hw1 hw _ _ _ _ _ _ (⟨#[78]⟩,⟨#[]⟩,(0,0),(b:Int),l.dig (dgW wj),r.dig (dgW wj)) (by show 0<256;decide) (78::(beL b 2 2++((l.dig (dgW wj)).data.toList++(r.dig (dgW wj)).data.toList))) (by rw[Qp,Qe,Qe,n1,n2,Jf];omega) w hE ⟨_,_,_,_,_,_,rfl,rfl,rfl,rfl,rfl,rfl⟩
  (λW hT hrow=>JgF w.heap.size ⟨#[]⟩ b nl nr _ _ W hrow ((hT.cell (p:=⟨nl,0,none⟩) hl.own.2 (λh=>h)).trans hl.digCell) ((hT.cell (p:=⟨nr,0,none⟩) hr.own.2 (λh=>h)).trans hr.digCell) (Qk hl.own.2 hT.size) (Qk hr.own.2 hT.size))
  (Jif wj b _ _ (by omega) hb s1 s2)
theorem Jgw(E:Nat->Addr)(wj:Nat)(hw1:1<=wj)(hw:wj<=32)(k:Key)(o:Nat×Nat)(hk:TrOk wj (.leaf k o))(w:World)(hE:Env E w):
  Calls prog 268 #[.int .i64 (wj:Int),.string ⟨k.toArray⟩,.agg #[.int .u64 (o.1:Int),.int .u8 (o.2:Int)]] w λe w'=>∃n,e=.returned (.tuple #[.pointer (some ⟨n,0,none⟩),.nilIface])/\w.heap.size<=n/\w'.heap[n]? =some (.cells (YI (Tr.dig (dgW wj) (.leaf k o)) k o) 243)/\Tch NoB w w':=by
 obtain⟨oa,oo⟩:=o;have HD:Hid (∀W,Tch NoB w W->_):=λW (hT:Tch NoB w W)=>JdU E wj hw1 hw k (oa,oo) hk W (hE.tch hT noE);have HV:Hid (YI ⟨#[]⟩ k (oa,oo)= #[.string ⟨#[]⟩,.string ⟨k.toArray⟩,.int .u64 (oa:Int),.int .u8 (oo:Int),.int .i64 0,.pointer none,.pointer none]):=rfl;rw[HV.o]at HD;clear hE;generalize (⟨k.toArray⟩:BA)=kb at *;dsimp only;go_enter func268,ntmps268;go_wp2_with fail;refine(HD.o _ (Ta _ _ _)).mono ?_;rintro _ w1⟨rfl,hr,ht⟩;have hz:w.heap.size<=(w.alloc (.cells #[.int .u64 (oa:Int),.int .u8 (oo:Int)] 80)).heap.size:=by simp
 have HR:Hid (_=_):=hr;have HT:Hid (Tch NoB w w1):=(Ta NoB w _).trans ht noE;clear hr ht HD;generalize (w.alloc (.cells #[.int .u64 (oa:Int),.int .u8 (oo:Int)] 80)).heap.size=n at *;go_wp2;go_ret2;exact⟨n,rfl,hz,HR.o,HT.o⟩
theorem YO(E:Nat->Addr)(wj:Nat)(hw1:1<=wj)(hw:wj<=32)(b nl nr:Nat)(l r:Tr)(F:Nat->Prop)(hb:b<8*(wj+1))(w:World)(hE:Env E w)(hl:Jg (dgW wj) F w nl l)(hr:Jg (dgW wj) F w nr r):
  Calls prog 332 #[.int .i64 (wj:Int),.int .i64 (b:Int),.agg #[.pointer (some ⟨nl,0,none⟩),.pointer (some ⟨nr,0,none⟩)]] w λe w'=>∃n,e=.returned (.tuple #[.pointer (some ⟨n,0,none⟩),.nilIface])/\w.heap.size<=n/\w'.heap[n]? =some (.cells (brC (Tr.dig (dgW wj) (.br b l r)) b nl nr) 243)/\Tch NoB w w':=by
 have HD:Hid (∀W,Tch NoB w W->_):=λW (hT:Tch NoB w W)=>Jf2 E wj hw1 hw b nl nr l r F hb W (hE.tch hT noE) (hl.next hT) (hr.next hT);have HV:Hid (brC ⟨#[]⟩ b nl nr= #[.string ⟨#[]⟩,.string ⟨#[]⟩,.int .u64 0,.int .u8 0,.int .i64 (b:Int),.pointer (some ⟨nl,0,none⟩),.pointer (some ⟨nr,0,none⟩)]):=rfl;rw[HV.o]at HD;go_enter func332,ntmps332;go_wp2_with fail;refine(HD _ (Ta _ _ _)).mono ?_;rintro _ w1⟨rfl,(HR:Hid _),ht⟩;have hz:w.heap.size<=(w.alloc (.cells #[.pointer (some ⟨nl,0,none⟩),.pointer (some ⟨nr,0,none⟩)] 241)).heap.size:=by simp
 have HT:Hid _:=(Ta NoB w _).trans ht noE;clear ht HD;generalize (w.alloc (.cells #[.pointer (some ⟨nl,0,none⟩),.pointer (some ⟨nr,0,none⟩)] 241)).heap.size=n at *;go_wp2;go_ret2;exact⟨n,rfl,hz,HR,HT⟩
