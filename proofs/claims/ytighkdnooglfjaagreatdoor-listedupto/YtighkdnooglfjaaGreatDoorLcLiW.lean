import Derived.Test.YtighkdnooglfjaaGreatDoorLcLiO
import Derived.Test.YtighkdnooglfjaaGreatDoorLcLdE
import Derived.Shelf.SlMaps.Clone
namespace Go.Proofs.YtighkdnooglfjaaGreatDoor
open Go.Proofs.Tryz
set_option maxRecDepth 100000
set_option maxHeartbeats 2000000
open Go.RowKit

variable {base pm po:Nat}{lv:Value}{v:Vw}{w:World}
theorem VwV.next{w':World}(h:VwV base w pm po lv v)(k:Tch NoB w w'):VwV base w' pm po lv v:=
 ⟨h.met.next k (λh=>h),h.outs.next k (λh=>h),h.left.tch k (λ_ _ h=>h),h.nm,h.no,h.low⟩
theorem Jge(h:VwV base w pm po lv v)(d:BA):
  Calls prog 231 #[.map (some pm),.string d] w λe w'=>(∃b:Bool,e=.returned (.bool b)/\(b=true↔d∈v.met))/\Tch NoB w w':=by
 by_cases hin:d∈v.met
 ·refine(JcJ (Jce (enc:=λ_:Unit=>Value.agg #[]) (a:=()) Jgt h.met (by rw[JaA];exact h.nm) (QK.2 ⟨d,hin,rfl⟩) true)).mono ?_;rintro e w'⟨rfl,ht⟩;exact⟨⟨true,rfl,by simp[hin]⟩,ht⟩
 ·refine(JcJ (JaW (enc:=λ_:Unit=>Value.agg #[]) Jgt h.met (by rw[JaA];exact hin) true)).mono ?_;rintro e w'⟨rfl,ht⟩;exact⟨⟨false,rfl,by simp[hin]⟩,ht⟩
theorem JhI{a b:List BA}(h:a.Perm b):Xk a=Xk b:=by
 unfold Xk
 congr 1
 have tr:∀(x y z:List UInt8),decide (x<=y)=true->decide (y<=z)=true->decide (x<=z)=true:=λx y z h1 h2=>decide_eq_true (List.le_trans (of_decide_eq_true h1) (of_decide_eq_true h2));have tt:∀(x y:List UInt8),(decide (x<=y) || decide (y<=x))=true:=λx y=>by
  rcases List.le_total x y with h|h
  ·rw[decide_eq_true h];rfl
  ·rw[decide_eq_true h,Bool.or_true]
 refine List.Perm.eq_of_pairwise (le:=λx y=>decide (x<=y)=true) (λx y _ _ h1 h2=>List.le_antisymm (of_decide_eq_true h1) (of_decide_eq_true h2)) (List.pairwise_mergeSort tr tt _) (List.pairwise_mergeSort tr tt _) ?_;exact((List.mergeSort_perm _ _).trans (h.map _)).trans (List.mergeSort_perm _ _).symm
theorem Ja5(v:Value)(s:List BA)(w:World)(h:YH w v s)(hl:s.length<=1000000000):
  Calls prog 234 #[v] w λe w'=>∃B,e=.returned (.func (.func 304) #[] #[.pointer (some ⟨B,0,none⟩)])/\Tch NoB w w'/\
   Calls prog 233 #[.func (.func 304) #[] #[.pointer (some ⟨B,0,none⟩)]] w' λe w''=>∃v',e=.returned v'/\YH w'' v' (Xk s)/\Tch NoB w' w'':=by
 obtain⟨a,c,hv,_⟩:=id h;refine(Jj7 v a s.length c hv w).mono ?_;rintro e w'⟨rfl,hw'⟩;have tA:Tch NoB w w':=by rw[hw'];exact Ta _ _ _
 refine⟨_,rfl,tA,?_⟩;refine(JeF 304 _ s.length (λt=>t=s) (enters_of func304 (by kernel_rfl) rfl) w' hl (λt ht=>by rw[ht];exact hl) (Jh2 w.heap.size w'.heap.size 3 (by omega) s (by omega) v w' (by rw[hw'];exact Qf _ _) (h.next tA) rfl)).mono ?_;rintro e w''⟨v',s',rfl,rfl,h1,h2⟩;exact⟨v',rfl,h1,h2⟩
theorem JiQ(wj:Int)(p:Nat)(b:ByL)(b1 pm1 po1:Nat)(lv1:Value)(v1:Vw)(b2 pm2 po2:Nat)(lv2:Value)(v2:Vw)(w:World)(hm:MpAt w p (byE b))(h1:VwV b1 w pm1 po1 lv1 v1)(h2:VwV b2 w pm2 po2 lv2 v2)(hl1:v1.left.length<=1000000000)(hl2:v2.left.length<=1000000000)(hT:Er3 w):
  Calls prog 151 #[.agg #[.int .i64 wj,.map (some p)],.agg #[.map (some pm1),.map (some po1),lv1],.agg #[.map (some pm2),.map (some po2),lv2]] w λe w'=>Tch NoB w w'/\(e=.returned .nilIface\/((∃t u,e=.returned (.iface t u))/\((∀d∈b.map (·.1),d∈v1.met\/d∈v2.met)->¬v1.left.Perm v2.left))):=by
 obtain⟨W,hW⟩:∃W,W=((w.alloc (.cells #[.int .i64 wj,.map (some p)] 264)).alloc (.cells #[.map (some pm1),.map (some po1),lv1] 270)).alloc (.cells #[.map (some pm2),.map (some po2),lv2] 270):=⟨_,rfl⟩
 have tA:Tch NoB w W:=by rw[hW];exact Tch.allocs3 _ _ _ _ _
 have r0:W.heap[w.heap.size]? =some (.cells #[.int .i64 wj,.map (some p)] 264):=by rw[hW];exact JN _ _ _ _
 have r1:W.heap[w.heap.size+1]? =some (.cells #[.map (some pm1),.map (some po1),lv1] 270):=by rw[hW];exact JG _ _ _ _
 have r2:W.heap[w.heap.size+2]? =some (.cells #[.map (some pm2),.map (some po2),lv2] 270):=by rw[hW];exact JH _ _ _ _
 have c1:W.cell? ⟨w.heap.size,1,none⟩=some (.map (some p)):=Ja r0;obtain⟨hrg,hit⟩:=JbA underlying262 (hm.next tA (λh=>h));obtain⟨W1,hW1⟩:∃W1,W1=W.alloc (.mapIter (some p) (byE b).length #[] (byE b).length):=⟨_,rfl⟩
 rw[<-hW1]at hrg hit;have t1:Tch NoB W W1:=by rw[hW1];exact Ta _ _ _
 have HC:Hid (∀V,Tch (λj=>j=W.heap.size) W1 V->V.cell? ⟨w.heap.size+1,0,none⟩=some (.map (some pm1))/\V.cell? ⟨w.heap.size+1+1,0,none⟩=some (.map (some pm2))/\V.cell? ⟨w.heap.size+1,2,none⟩=some lv1/\V.cell? ⟨w.heap.size+1+1,2,none⟩=some lv2):=λV hV=>by
  have hz:W.heap.size=w.heap.size+3:=by rw[hW];simp
  have q1:=(hV.block _ (Qk (Jb r1) t1.size) (by omega)).trans ((t1.block _ (Jb r1) (λh=>h)).trans r1);have q2:=(hV.block _ (Qk (Jb r2) t1.size) (by omega)).trans ((t1.block _ (Jb r2) (λh=>h)).trans r2);exact⟨Ja q1,Ja q2,Ja q1,Ja q2⟩
 have HVS:Hid (∀V,Tch (λj=>j=W.heap.size) W1 V->Tch NoB w V/\VwV b1 V pm1 po1 lv1 v1/\VwV b2 V pm2 po2 lv2 v2/\Er3 V):=λV hV=>by
  have hTw:Tch NoB w V:=(tA.go t1).trans hV (λj hj=>.inr (by have:=tA.size;omega));exact⟨hTw,h1.next hTw,h2.next hTw,hT.tch hTw noE⟩
 have HL:Hid (v1.left.length<=1000000000/\v2.left.length<=1000000000):=⟨hl1,hl2⟩
 have HW:Hid (W=_):=hW;have HW1:Hid (W1=_):=hW1;have HI0:Hid (MIt W1 W.heap.size p (byE b) []):=hit;obtain⟨a1,k1,hv1⟩:=h1.left.shape;obtain⟨a2,k2,hv2⟩:=h2.left.shape;generalize hn1:v1.left.length=n1 at hv1;generalize hn2:v2.left.length=n2 at hv2;subst hv1 hv2;clear hm h1 h2 hT tA r0 r1 r2 hit t1 hW hW1 hl1 hl2 hn1 hn2;go_enter func151,ntmps151;go_upto_region 1 with fail;rw[<-HW.o];go_wp2;go_loopw [] (λwr=>∃seen:List Nat,Hid (MIt wr W.heap.size p (byE b) seen)/\Hid (Tch (λj=>j=W.heap.size) W1 wr)/\Hid (∀i∈seen,∀q,b[i]? =some q->q.1∈v1.met\/q.1∈v2.met)) (λwr=>b.length-seenN wr W.heap.size)
 case atStart=>exact⟨[],HI0,Te _ _,λi hi=>by cases hi⟩
 case round=>
  obtain⟨seen,HR,HT,HS⟩:=hrel
  rcases JcP HR.o 0 with⟨hall,hrun⟩|⟨j,kv,vv,w',hj,hl,hrun,hit2,ht2,hen⟩
  ·have HALL:Hid (∀d∈b.map (·.1),d∈v1.met\/d∈v2.met):=λd hd=>by
    obtain⟨q,hq,rfl⟩:=QK.1 hd;obtain⟨i,hi⟩:=List.getElem?_of_mem hq;exact HS.o i (hall i (by have:=(Qo.1 hi).1;simpa [smE]using this)) q hi
   obtain⟨hTw,g1,g2,ge⟩:=HVS.o wr HT.o;obtain⟨d1,d2,d3,d4⟩:=HC.o wr HT.o;have HTW:Hid (Tch NoB w wr):=hTw;have HV1:Hid (∀V,Tch NoB wr V->Calls prog 234 #[.slice a1 n1 k1] V _):=λV hV=>Ja5 _ v1.left V (g1.next hV).left.str HL.o.1;have HV2:Hid (∀V,Tch NoB wr V->Calls prog 234 #[.slice a2 n2 k2] V _):=λV hV=>Ja5 _ v2.left V (g2.next hV).left.str HL.o.2;have HEQ:Hid (∀(x y:Value) V,YH V x (Xk v1.left)->YH V y (Xk v2.left)->Calls prog 232 #[x,y] V _):=λx y V h1 h2=>JkQ x y _ _ (by rw[JaX];exact HL.o.1) V h1 h2;have HER:Hid (∀V,Tch NoB wr V->∃t u,V.cell? ⟨10,0,none⟩=some (.iface t u)):=λV hV=>(ge.tch hV noE).2.2;have HTd:Hid (Tch NoB wr wr.drew):=Td _ wr 1;have HCC:Hid (∀V,Tch NoB wr V->V.cell? ⟨w.heap.size+1,2,none⟩=some (.slice a1 n1 k1)/\V.cell? ⟨w.heap.size+1+1,2,none⟩=some (.slice a2 n2 k2)):=λV hV=>⟨(hV.cell (p:=⟨w.heap.size+1,2,none⟩) (Qr _ _ d3) (λh=>h)).trans d3,(hV.cell (p:=⟨w.heap.size+1+1,2,none⟩) (Qr _ _ d4) (λh=>h)).trans d4⟩
   clear hall g1 g2 ge hTw HVS HC d1 d2;go_upto_region 6 with fail;go_region_held3 (λV=>V.cell? ⟨w.heap.size+1,2,none⟩=some (.slice a1 n1 k1)/\V.cell? ⟨w.heap.size+1+1,2,none⟩=some (.slice a2 n2 k2)) (go_keep) ((first
    | (go_at_call 232;refine(HEQ.o _ _ _ HSa.o HSb.o).mono ?_;rintro _ we⟨⟨bb,rfl,hbb⟩,hte⟩;have HBB:Hid (Xk v1.left=Xk v2.left->bb=true):=hbb;have HTe:Hid (Tch NoB wr we):=HT4.o.go hte;obtain⟨y0,y1⟩:=HCC.o _ HTe.o;clear hbb hte)
    | (go_at_call 233;refine HSB.o.mono ?_;rintro _ wd⟨vd,rfl,hsd,htd⟩;have HSb:Hid (YH wd vd (Xk v2.left)):=hsd;have HT4:Hid (Tch NoB wr wd):=HT3.o.go htd;have HSa:Hid (YH wd va (Xk v1.left)):=HSa.o.next htd;obtain⟨y0,y1⟩:=HCC.o _ HT4.o;clear hsd htd)
    | (go_at_call 234;refine(HV2.o _ HT2.o).mono ?_;rintro _ wc⟨Bc,rfl,htc,hcc⟩;have HSB:Hid (Calls _ _ _ _ _):=hcc;have HT3:Hid (Tch NoB wr wc):=HT2.o.go htc;have HSa:Hid (YH wc va (Xk v1.left)):=HSa.o.next htc;obtain⟨y0,y1⟩:=HCC.o _ HT3.o;clear htc hcc)
    | (go_at_call 233;refine HSA.o.mono ?_;rintro _ wb⟨va,rfl,hsa,htb⟩;have HSa:Hid (YH wb va (Xk v1.left)):=hsa;have HT2:Hid (Tch NoB wr wb):=HT1.o.go htb;obtain⟨y0,y1⟩:=HCC.o _ HT2.o;clear hsa htb)
    | (go_at_call 234;refine(HV1.o _ HTd.o).mono ?_;rintro _ wa⟨Ba,rfl,hta,hca⟩;have HSA:Hid (Calls _ _ _ _ _):=hca;have HT1:Hid (Tch NoB wr wa):=HTd.o.go hta;obtain⟨y0,y1⟩:=HCC.o _ HT1.o;clear hta hca)))
   all_goals
    cases bb
    ·obtain⟨t,u,hte⟩:=HER.o _ HTe.o;go_wp2_with fail;refine(Xl _ t u _).mono ?_;rintro _ _⟨rfl,rfl⟩;go_wp2;go_ret;exact⟨(HTW.o.go HTe.o).go (Ta _ _ _),.inr ⟨⟨_,_,rfl⟩,λ_ hp=>absurd (HBB.o (JhI hp)) (by simp)⟩⟩
    ·go_wp2;go_ret;exact⟨HTW.o.go HTe.o,.inl rfl⟩
  ·have hl2:∃x n,b[j]? =some (x,n)/\kv=.string x/\vv=.agg (Jo n):=by
    unfold byE smE at hl;rw[List.getElem?_map]at hl
    cases hq:b[j]? with
    | none=>rw[hq]at hl;cases hl
    | some y=>rw[hq]at hl;simp at hl;exact⟨y.1,y.2,rfl,hl.1.symm,hl.2.symm⟩
   obtain⟨x,nn,hM,rfl,rfl⟩:=hl2;have hms:(seen++[j]).length<=b.length:=(by have:=ZR (byE b).length (seen++[j]) hit2.nd hit2.lt;simpa [smE]using this);simp only[Qe,Qp,Qv]at hms;have HMS:Hid (seen.length+1<=b.length):=hms;have HI2:Hid (MIt w' W.heap.size p (byE b) (seen++[j])):=hit2;have HT2:Hid (Tch (λj=>j=W.heap.size) W1 w'):=HT.o.trans ht2 (λ_ h=>.inl h);have HMJ:Hid (b[j]? =some (x,nn)):=hM;obtain⟨hTw,g1,g2,ge⟩:=HVS.o w' HT2.o;obtain⟨d1,d2,_,_⟩:=HC.o w' HT2.o;have HH1:Hid (Calls prog 231 #[.map (some pm1),.string x] w' _):=Jge g1 x;have HH2:Hid (∀V,Tch NoB w' V->Calls prog 231 #[.map (some pm2),.string x] V _):=λV hV=>Jge (g2.next hV) x;have HER:Hid (∀V,Tch NoB w' V->∃t u,V.cell? ⟨9,0,none⟩=some (.iface t u)):=λV hV=>(ge.tch hV noE).2.1;have HTW:Hid (Tch NoB w w'):=hTw;have HNX:Hid (∀V,Tch NoB w' V->(x∈v1.met\/x∈v2.met)->MIt V W.heap.size p (byE b) (seen++[j])/\Tch (λj=>j=W.heap.size) W1 V/\∀i∈seen++[j],∀q,b[i]? =some q->q.1∈v1.met\/q.1∈v2.met):=λV hV hx=>⟨HI2.o.next hV (λh=>h) (λh=>h),HT2.o.go hV,λi hi q hq=>by
    rcases QE.1 hi with hi|hi
    ·exact HS.o i hi q hq
    ·rw[Qt]at hi;rw[hi,hM]at hq
     cases hq
     exact hx⟩
   obtain⟨n1',n2',⟨n3',n4'⟩,n5',n6',n7'⟩:=nn;simp only[Jo]at hrun hen;clear hit2 ht2 hl hM hms hj g1 g2 ge hTw HVS HC;go_wp2_with fail;refine HH1.o.mono ?_;rintro _ w4⟨⟨bb,rfl,hbb⟩,ht4⟩;have HT4:Hid (Tch NoB w' w4):=ht4;have HBB:Hid (bb=true↔x∈v1.met):=hbb;have e2:w4.cell? ⟨w.heap.size+1+1,0,none⟩=some (.map (some pm2)):=(ht4.cell (p:=⟨w.heap.size+1+1,0,none⟩) (Qr _ _ d2) (λh=>h)).trans d2;clear hbb ht4 d1 d2
   cases bb
   ·go_wp2_with fail;refine(HH2.o w4 HT4.o).mono ?_;rintro _ w5⟨⟨cc,rfl,hcc⟩,ht5⟩;have HT5:Hid (Tch NoB w' w5):=HT4.o.go ht5;have HCC:Hid (cc=true↔x∈v2.met):=hcc;clear hcc ht5 e2
    cases cc
    ·obtain⟨t,u,hte⟩:=HER.o _ HT5.o;go_wp2_with fail;refine(Xl _ t u _).mono ?_;rintro _ _⟨rfl,rfl⟩;go_wp2;go_ret;refine⟨(HTW.o.go HT5.o).go (Ta _ _ _),.inr ⟨⟨_,_,rfl⟩,λhal _=>?_⟩⟩
     rcases hal x (QK.2 ⟨_,QS HMJ.o,rfl⟩) with h|h
     ·have:=HBB.o.2 h;simp at this
     ·have:=HCC.o.2 h;simp at this
    ·go_wp2;go_roundw
     case rel=>have:=HNX.o _ HT5.o (.inr (HCC.o.1 (by simp)));exact⟨_,this.1,this.2.1,this.2.2⟩
     case measure=>have:=HNX.o _ HT5.o (.inr (HCC.o.1 (by simp)));rw[this.1.seenN,HR.o.seenN,Qe];have:=HMS.o;simp only[Qp,Qv];omega
   ·go_wp2;go_roundw
    case rel=>have:=HNX.o _ HT4.o (.inl (HBB.o.1 (by simp)));exact⟨_,this.1,this.2.1,this.2.2⟩
    case measure=>have:=HNX.o _ HT4.o (.inl (HBB.o.1 (by simp)));rw[this.1.seenN,HR.o.seenN,Qe];have:=HMS.o;simp only[Qp,Qv];omega

theorem JiR(p:Nat)(l:List (Value×Value))(w:World)(h:MpAt w p l):
  Calls prog 235 #[.map (some p)] w λe w'=>e=.returned (.map (some w.heap.size))/\MpAt w' w.heap.size l/\Tch NoB w w':=by
 have hq:=λw=>run_eql_map_nil_sl (P:=prog) w 268 _ _ (some p) underlying268;have HE:Hid (MpAt (w.alloc (.map (mpE 0 l).toArray l.length)) w.heap.size l/\Tch NoB w (w.alloc (.map (mpE 0 l).toArray l.length))):=⟨Qf _ _,Ta _ _ _⟩
 go_enter func235,ntmps235;go_wp2;rw[run_callFunc_extern func305 (by kernel_rfl) (by kernel_rfl) (by kernel_rfl) (e:=Extern.MapsClone.clone) (by kernel_rfl),run_maps_clone_sl w 268 h];simp only[Result.andThen];rw[Oper.upon_value];go_wp2;rw[run_typeAssert_map_sl _ 268 20 _ _ _ underlying268];simp only[Result.andThen];rw[Oper.upon_value];go_wp2;go_ret;exact⟨rfl,HE.o⟩
theorem JnW{α:Type}{enc:α->Value}{l:List (BA×α)}{m e:TypeId}{z:Value}{p:Nat}(T:MpTy m 9 e z)(h:MpAt w p (smE enc l))(hd:(l.map (·.1)).Nodup)(k:BA)(a:α):
  ∃l':List (BA×α),(Instr.mapUpdate m (.map (some p)) (.string k) (enc a)).run prog w=.ok () (w.setMp p (smE enc l'))/\MpAt (w.setMp p (smE enc l')) p (smE enc l')/\(l'.map (·.1)).Nodup/\∀x,x∈l'.map (·.1)↔x∈l.map (·.1)\/x=k:=by
 by_cases hk:k∈l.map (·.1)
 ·obtain⟨⟨k',b⟩,hq,rfl⟩:=QK.1 hk;obtain⟨j,hj⟩:=List.getElem?_of_mem hq;have e1:(smE enc l).modify j (λq=>(q.1,enc a))=smE enc (l.modify j (λq=>(q.1,a))):=by
   apply List.ext_getElem?;intro i;simp only[smE,List.getElem?_modify,List.getElem?_map]
   by_cases hij:j=i<;>cases l[i]?<;>simp[hij]
  have e2:(l.modify j (λq=>(q.1,a))).map (·.1)=l.map (·.1):=by
   apply List.ext_getElem?;intro i;simp only[List.getElem?_modify,List.getElem?_map]
   by_cases hij:j=i<;>cases l[i]?<;>simp[hij]
  refine⟨l.modify j (λq=>(q.1,a)),?_,Zu h _,by rw[e2];exact hd,λx=>?_⟩
  ·have:=JnL T h JcS (JgP hd) j (show (smE enc l)[j]? =some (.string k',enc b) by rw[smE,List.getElem?_map,hj];rfl) (enc a);rw[e1]at this;exact this
  ·rw[e2];exact⟨λh=>.inl h,λh=>h.elim (λh=>h) (λh=>by rw[h];exact hk)⟩
 ·obtain⟨h1,h2⟩:=Jfv (enc:=enc) (s:=k) (a:=a) T h hk;refine⟨_,h1,h2,?_,λx=>by simp⟩;rw[List.map_append,List.nodup_append];refine⟨hd,by simp,?_⟩;rintro x hx y hy rfl;simp only[List.map_cons,List.map_nil,Qt]at hy;exact hk (hy ▸ hx)
def Jkd(ld ls l:List (BA×(Nat×Nat))):Prop:=(l.map (·.1)).Nodup/\∀x,x∈l.map (·.1)↔x∈ld.map (·.1)\/x∈ls.map (·.1)
theorem JkK(pd ps:Nat)(ld ls:List (BA×(Nat×Nat)))(w:World)(h1:MpAt w pd (outE ld))(h2:MpAt w ps (outE ls))(hd:(ld.map (·.1)).Nodup)(hne:pd ≠ ps):
  Calls prog 236 #[.map (some pd),.map (some ps)] w λe w'=>e=.returned (.tuple #[])/\(∃l:List (BA×(Nat×Nat)),MpAt w' pd (outE l)/\Jkd ld ls l)/\Tch (λj=>j=pd) w w':=by
 obtain⟨hrg,hit⟩:=JbA underlying268 h2;obtain⟨W1,hW1⟩:∃W1,W1=w.alloc (.mapIter (some ps) (outE ls).length #[] (outE ls).length):=⟨_,rfl⟩
 rw[<-hW1]at hrg hit;have t1:Tch NoB w W1:=by rw[hW1];exact Ta _ _ _
 have HPL:Hid (pd<w.heap.size/\ps<w.heap.size/\pd ≠ ps):=⟨(Jb h1),(Jb h2),hne⟩
 have HI0:Hid (MIt W1 w.heap.size ps (outE ls) []/\Tch (λj=>j=pd) w W1/\∃l:List (BA×(Nat×Nat)),MpAt W1 pd (outE l)/\(l.map (·.1)).Nodup/\∀x,x∈l.map (·.1)↔x∈ld.map (·.1)\/∃i∈([]:List Nat),(ls[i]?).map (·.1)=some x):=⟨hit,t1.mono noE,ld,h1.next t1 (λh=>h),hd,λx=>by simp⟩
 clear h1 h2 hd hne hit t1 hW1;go_enter func236,ntmps236;go_wp2;go_loopw [] (λwr=>∃seen:List Nat,Hid (MIt wr w.heap.size ps (outE ls) seen/\Tch (λj=>j=pd) w wr/\∃l:List (BA×(Nat×Nat)),MpAt wr pd (outE l)/\(l.map (·.1)).Nodup/\∀x,x∈l.map (·.1)↔x∈ld.map (·.1)\/∃i∈seen,(ls[i]?).map (·.1)=some x)) (λwr=>ls.length-seenN wr w.heap.size)
 case atStart=>exact⟨[],HI0⟩
 case round=>
  obtain⟨seen,HR⟩:=hrel
  rcases JcP HR.o.1 0 with⟨hall,hrun⟩|⟨j,kv,vv,w',hj,hl,hrun,hit2,ht2,hen⟩
  ·have HALL:Hid (∀i,i<(outE ls).length->i∈seen):=hall;clear hall;go_wp2;refine bodyPost_end (v:=.tuple #[]) (results_none results236 _ _ _) rfl ?_;obtain⟨_,hT,l,k1,k2,k3⟩:=HR.o;refine⟨rfl,⟨l,k1,k2,λx=>?_⟩,hT⟩;rw[k3 x];refine or_congr_right ⟨?_,λh=>?_⟩
   ·rintro⟨i,_,hi⟩
    cases hq:ls[i]? with
    | none=>rw[hq]at hi;cases hi
    | some q=>rw[hq]at hi;cases hi;exact QK.2 ⟨q,QS hq,rfl⟩
   ·obtain⟨q,hq,rfl⟩:=QK.1 h;obtain⟨i,hi⟩:=List.getElem?_of_mem hq;exact⟨i,HALL.o i (by have:=(Qo.1 hi).1;simpa [smE]using this),by rw[hi];rfl⟩
  ·have hl2:∃x n,ls[j]? =some (x,n)/\kv=.string x/\vv=ouV n:=by
    unfold outE smE at hl;rw[List.getElem?_map]at hl
    cases hq:ls[j]? with
    | none=>rw[hq]at hl;cases hl
    | some y=>rw[hq]at hl;simp at hl;exact⟨y.1,y.2,rfl,hl.1.symm,hl.2.symm⟩
   obtain⟨x,⟨oa,oo⟩,hM,rfl,rfl⟩:=hl2;have hms:(seen++[j]).length<=ls.length:=(by have:=ZR (outE ls).length (seen++[j]) hit2.nd hit2.lt;simpa [smE]using this);simp only[Qe,Qp,Qv]at hms;have HMS:Hid (seen.length+1<=ls.length):=hms;obtain⟨_,hTr,l,k1,k2,k3⟩:=HR.o;obtain⟨WA,hWA⟩:∃WA,WA=w'.alloc (.cells #[.int .u64 (oa:Int),.int .u8 (oo:Int)] 80):=⟨_,rfl⟩
   have tA:Tch NoB w' WA:=(by rw[hWA];exact Ta _ _ _);have hkA:=(k1.next ht2 (by have:=HPL.o;omega)).next tA (λh=>h);obtain⟨l',hup,hm',hn',hx'⟩:=JnW Jew hkA k2 x (oa,oo);simp only[ouV]at hup hen hrun;have tN:Tch (λj=>j=pd) WA (WA.setMp pd (smE ouV l')):=Tch.setMp _ _ _;rw[hWA]at hup;have HNX:Hid (MIt (WA.setMp pd (smE ouV l')) w.heap.size ps (outE ls) (seen++[j])/\Tch (λj=>j=pd) w (WA.setMp pd (smE ouV l'))/\∃l:List (BA×(Nat×Nat)),MpAt (WA.setMp pd (smE ouV l')) pd (outE l)/\(l.map (·.1)).Nodup/\∀x,x∈l.map (·.1)↔x∈ld.map (·.1)\/∃i∈seen++[j],(ls[i]?).map (·.1)=some x):=by
    refine⟨(hit2.next tA (λh=>h) (λh=>h)).next tN (by have:=HPL.o;omega) (by have:=HPL.o;omega),((hTr.trans ht2 (λi hi=>.inr (by omega))).go tA).trans tN (λ_ h=>.inl h),l',hm',hn',λy=>?_⟩;rw[hx' y,k3 y];constructor
    ·rintro((h|⟨i,h1,h2⟩)|rfl)
     ·exact .inl h
     ·exact .inr ⟨i,QE.2 (.inl h1),h2⟩
     ·exact .inr ⟨j,QE.2 (.inr (by simp)),by rw[hM];rfl⟩
    ·rintro(h|⟨i,h1,h2⟩)
     ·exact .inl (.inl h)
     ·rcases QE.1 h1 with h1|h1
      ·exact .inl (.inr ⟨i,h1,h2⟩)
      ·rw[Qt]at h1;rw[h1,hM]at h2
       cases h2
       exact .inr rfl
   rw[hWA]at HNX;generalize (w'.alloc (.cells #[.int .u64 (oa:Int),.int .u8 (oo:Int)] 80)).setMp pd (smE ouV l')=w9 at *;clear hit2 ht2 hl hM hms hj hTr k1 k2 k3 hWA tA hkA hm' hn' hx' tN;go_wp2;go_roundw
   case rel=>exact⟨_,HNX⟩
   case measure=>rw[HNX.o.1.seenN,HR.o.1.seenN,Qe];have:=HMS.o;simp only[Qp,Qv];omega
theorem Jl9(key:BA)(h1:1<=key.size)(h2:key.size<=1000)(w:World):
  Calls prog 239 #[.string key] w λe w'=>e=.returned (.agg #[.string (key.extract 0 (key.size-1)),.int .i64 ((key.data.toList.getD (key.size-1) 0).toNat:Int)])/\Tch NoB w w':=by
 obtain⟨W,hW⟩:∃W,W=w.alloc (.cells #[.string ⟨#[]⟩,.int .i64 0] 49):=⟨_,rfl⟩
 have tA:Tch NoB w W:=by rw[hW];exact Ta _ _ _
 have r0:W.heap[w.heap.size]? =some (.cells #[.string ⟨#[]⟩,.int .i64 0] 49):=by rw[hW];exact Qf _ _
 have HW:Hid (W=_):=hW;obtain⟨n,hn⟩:∃n,n=key.size-1:=⟨_,rfl⟩
 have q1:IntKind.i64.wrap ((key.size:Int)-1)=(n:Int):=by rw[Jaw _ (by omega) (by omega)];omega
 have q2:(n:Int)<(key.size:Int):=by omega
 have q3:(0:Int)<=(n:Int):=by omega
 have q4:(n:Int)<=(key.size:Int):=by omega
 have q5:n<key.size:=by omega
 have q6:IntKind.i64.wrap (key[n].toNat:Int)=(key[n].toNat:Int):=Jaw _ (by omega) (by have:=key[n].toNat_lt;omega);have HKN:Hid (key[n].toNat=(key.data.toList.getD (key.size-1) 0).toNat):=by show key[n].toNat=(key.data.toList.getD (key.size-1) 0).toNat;subst hn;rw[Qn,Qd (by rw[QA];exact q5)];rfl
 have HN:Hid (n=key.size-1):=hn;have HCL:Hid (∀V,Calls prog 90 #[.string (key.extract 0 n)] V λe w'=>e=.returned (.string (key.extract 0 n))/\Tch NoB V w'):=λV=>Jeg _ V (by rw[ByteArray.size_extract];omega);have HR0:Hid (W.heap[w.heap.size]? =_):=r0;have HTA:Hid (Tch NoB w W):=tA;clear hn hW tA r0;rw[<-HKN.o,<-HN.o];go_enter func239,ntmps239;go_upto_region 2 with fail;rw[<-HW.o];refine JU (S:=λ_=>True) 12 (by simp) (by kernel_rfl) (by kernel_rfl) trivial ?_;intro hHeld l o hl ho;simp only[List.dropLast_cons_cons,List.dropLast_singleton]at hl;simp only[List.getLast_cons_cons,List.getLast_singleton]at ho;subst hl;subst ho;simp only[Qp,Qv,Nat.reduceAdd];refine tkL 0 ?_;simp only[Act.put,Qa,Qb,Qc];refine tkL 1 ?_;simp only[Act.put,Qa,Qb,Qc];refine tkL 2 ?_;simp only[Act.put,Qa,Qb,Qc];refine tkL 4 ?_;simp only[Act.put,Qa,Qb,Qc];refine tkL 5 ?_;simp only[Act.put,Qa,Qb,Qc];refine tkL 6 ?_;simp only[Act.put,Qa,Qb,Qc];refine tkL 7 ?_;simp only[Act.put,Qa,Qb,Qc];refine Zr (i:=3) rfl (by kernel_rfl) (λK hK=>?_);go_simp;go_at_call 90;refine(HCL.o _).mono ?_;rintro _ w4⟨rfl,ht4⟩;have hr4:=((Td NoB W 1).go ht4).block _ (Jb HR0.o) (λh=>h);have hr:w4.heap[w.heap.size]? =some (.cells #[.string ⟨#[]⟩,.int .i64 0] 49):=hr4.trans HR0.o;have HT4:Hid (Tch NoB w w4):=(HTA.o.go (Td _ _ 1)).go ht4;have HSET:Hid (∀x y:Value,((w4.setCell ⟨w.heap.size,0,none⟩ x).setCell ⟨w.heap.size,1,none⟩ y).heap[w.heap.size]? =some (.cells #[x,y] 49)/\Tch (λj=>j=w.heap.size) w4 ((w4.setCell ⟨w.heap.size,0,none⟩ x).setCell ⟨w.heap.size,1,none⟩ y)):=λx y=>JbK hr [x,y] rfl;have s0:w4.cell? ⟨w.heap.size,0,none⟩=some (.string ⟨#[]⟩):=Ja hr;have s1:w4.cell? ⟨w.heap.size,1,none⟩=some (.int .i64 0):=Ja hr;have f0:w4.frozen? ⟨w.heap.size,0,none⟩=false:=Qg _ _ _ _ _ hr;have f1:w4.frozen? ⟨w.heap.size,1,none⟩=false:=Qg _ _ _ _ _ hr;clear hr4 hr ht4;refine hK.out _ _ trivial (λhHeld8=>?_);clear hK K hHeld
 try simp only[Act.put,Qa,Qb,Qc]
 refine tkL 8 ?_;simp only[Act.put,Qa,Qb,Qc];refine wpAnyH_done (by kernel_rfl) ?_ _;show wpList _ _ _ [_] _ _;go_wp2;obtain⟨p1,ts⟩:=HSET.o (.string (key.extract 0 n)) (.int .i64 (key[n].toNat:Int));refine QJ (v:=.agg #[.string (key.extract 0 n),.int .i64 (key[n].toNat:Int)]) (Qq results239 _ _ w.heap.size 49 _ (0,0) _ rfl p1 underlying49 rfl (by kernel_rfl)) rfl ?_;exact⟨rfl,HT4.o.trans ts (λj hj=>.inr (by omega))⟩
