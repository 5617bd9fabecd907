import Derived.Test.YtighkdnooglfjaaGreatDoorLcChH
namespace Go.Proofs.YtighkdnooglfjaaGreatDoor
open Tryz
set_option maxRecDepth 100000
set_option maxHeartbeats 2000000
open Go.RowKit

variable {wj:Int}{q r:List UInt8}{b k n:Nat}{E:Nat->Addr}{F:Nat->Prop}{p':PS}{v:Value}{w w' w0 wA:World}
def Zm(E:Nat->Addr)(wj:Nat)(F:Nat->Prop)(r:Except Er (Option Tr))(u:Nat)(rv:Option Addr)(ev:Value)(w':World):Prop:=match r with
 | .ok st'=>∃q',u=wj/\Jh q'=.pointer rv/\ev=.nilIface/\StAt (dgW wj) F w' q' st'/\StOk wj st'
 | .error er=>∃t v,ev=.iface t v/\Jp E (erG er) w' (.iface t v)
theorem ApTo.res{wj:Nat}{r:Except Er (Option Tr)}{e:Ending}(h:ApTo E wj F r e w'):∃(u:Nat)(rv:Option Addr)(ev:Value),e=.returned (.tuple #[.agg #[.int .i64 (u:Int),.pointer rv],ev])/\Zm E wj F r u rv ev w':=by
 cases r with
 | ok st'=>
  obtain⟨q',rfl,h1,h2⟩:=h;exact⟨wj,_,.nilIface,rfl,q',rfl,rfl,rfl,h1,h2⟩
 | error er=>
  obtain⟨u,q',t,v,rfl,h1⟩:=h;exact⟨u,_,.iface t v,rfl,t,v,rfl,h1⟩
theorem Zm.kept{wj:Nat}{r:Except Er (Option Tr)}{u:Nat}{rv:Option Addr}{ev:Value}(h:Zm E wj F r u rv ev w)(h1:∀q st,StAt (dgW wj) F w q st->StAt (dgW wj) F w' q st)(h2:∀k v,Jp E k w v->Jp E k w' v):Zm E wj F r u rv ev w':=by
 cases r with
 | ok st'=>obtain⟨q',a,b,c,d,e⟩:=h;exact⟨q',a,b,c,h1 _ _ d,e⟩
 | error er=>obtain⟨t,v,a,b⟩:=h;exact⟨t,v,a,h2 _ _ b⟩
theorem Jp.next(h:Jp E k w v)(ht:Tch NoB w w'):Jp E k w' v:=h.tch ht (λ_ _ _ _ h=>h)
theorem JkZ{wj:Nat}{h:HdL}(hh:HdOk wj h):ZV (ZD wj h (some (.wr []))).2=some (hdrB h):=by
 have h1:=(Jfu wj h h hh).wr [];rw[(JdD wj h _ _ _ h1).1];rfl
theorem Xq.up{B B':Nat}{l:List (Sl×Sl)}(h:Xq B w v l)(hb:B<=B'):Xq B' w v l:=by
 rcases h with h|⟨gi,oi,c,h1,h2,h3⟩
 ·exact .inl h
 ·exact .inr ⟨gi,oi,c,h1,by omega,h3⟩
theorem Jn0(wj:Nat)(hw:wj<=32)(t:TxL)(h:TxOk wj t):(txB t).length<=200:=by
 have hc:∀(l:List (BA×Int)),(∀c∈l,Jk wj c)->(l.flatMap Je).length=l.length*(wj+1):=by
  intro l
  induction l with
  | nil=>intro _;simp
  | cons x r ih=>
   intro hl;rw[QG,Qe,Qp,Nat.succ_mul,Yu (hl x QM),ih (λy hy=>hl y (QP _ hy))];omega
 have ho:∀(l:List (Nat×Nat)),(l.flatMap outB).length=l.length*9:=by
  intro l
  induction l with
  | nil=>simp
  | cons x r ih=>
   rw[QG,Qe,Qp,Nat.succ_mul,ih];have:(outB x).length=9:=(by unfold outB;rw[Qe,Jf,Jf]);omega
 unfold txB Jfa XE;simp only[Qe,Jf,hc t.1 h.coins,ho t.2];have h1:=h.ins;have h2:=h.made;have:t.1.length*(wj+1)<=3*33:=Nat.mul_le_mul h1 (by omega);omega
theorem JfS(wj:Nat)(hw:wj<=32)(ts:List TxL)(h:∀t∈ts,TxOk wj t)(h3:ts.length<=3):(Xr ts).length<=1000:=by
 have:∀(l:List TxL),(∀t∈l,TxOk wj t)->(l.flatMap txB).length<=l.length*200:=by
  intro l
  induction l with
  | nil=>intro _;simp
  | cons x r ih=>
   intro hl;have a:=Jn0 wj hw x (hl x QM);have b:=ih (λy hy=>hl y (QP _ hy));rw[QG,Qe,Qp,Nat.succ_mul];omega
 have:=this ts h;unfold Xr;rw[Qe,Jf];omega
def Jnk(E:Nat->Addr)(r:Except Er (List UInt8))(e:Ending)(w':World):Prop:=match r with
 | .ok b=>e=.returned (.tuple #[.string ⟨b.toArray⟩,.nilIface])
 | .error er=>∃t u,e=.returned (.tuple #[.string ⟨#[]⟩,.iface t u])/\Jp E (erG er) w' (.iface t u)
theorem Jhb(E:Nat->Addr)(hE:Env E w){cb wj fl r:Nat}(hw1:1<=wj)(hw:wj<=32){bs:List BV}{lv:Value}(h:JB w cb wj fl r bs lv)(m:Nat)(hm:bs.length=m+1)(hm2:m<2 ^ 31)(bh:BA)(q:Option Nat)(st:Option Tr)(hb:bs[m]? =some (bh,wj,q))(hbs:bh.size<=1000)(F:Nat->Prop)(hF:∀j,w.heap.size<=j->F j)(hs:StAt (dgW wj) F w q st)(hok:StOk wj st)(v:Value)(l:List (Sl×Sl))(ts:List TxL)(hts:∀t∈ts,TxOk wj t)(h3:ts.length<=3)(hv:Xq w.heap.size w v l)(hin:TxIn w.heap.size w l ts):
  Calls prog 45 #[.pointer (some ⟨cb,0,none⟩),v] w λe w'=>Tch NoB w w'/\Jnk E (match JZ (dgW wj) st ts with | .error e=>.error e | .ok st'=>.ok (hdrB (m+1,dgW wj (72::bh.data.toList),dgW wj (66::Xr ts),JV (dgW wj) st')++Xr ts)) e w':=by
 have hsz:=hE.size;obtain⟨rv,hrv⟩:∃rv,Jh q=.pointer rv:=⟨_,rfl⟩
 have HE:Hid (Env E w):=hE;have HTIP:Hid (∀W,Tch NoB w W->Calls prog 40 #[.pointer (some ⟨cb,0,none⟩)] W λe w'=>e=.returned (.int .i64 (m:Int))/\W=w'):=λW hT=>(JbS (h.next hT) (by omega)).mono λe w' k=>⟨by rw[k.1,hm];congr 2;omega,k.2⟩
 have HRD:Hid (∀W',Tch NoB w W'->ChS cb wj r (m:Int) (.agg #[.string bh,.int .i64 (wj:Int),.pointer rv]) W'):=λW' hT=>by
  have:=(h.next hT).reads m _ hb;simp only[bV,hrv]at this;exact this
 have HBO:Hid (∀W,Tch NoB w W->Jc W w.heap.size none (wj:Int) .nilIface (.wr [])->Calls prog 78 #[.pointer (some ⟨w.heap.size,0,none⟩),v] W λe w'=>ToB E W w.heap.size none wj (some (ts,.wr (Xr ts))) e w'):=λW hT hp=>by
  have hr:=(Jft wj ts hts h3).wr [];rw[List.nil_append]at hr;have:=JfT E w.heap.size hsz none wj hw v l ts (.wr []) W (hE.tch hT noE) hp (hv.tch hT noE) hin.1 (by omega) (YE _ _) (λj x t h1 h2=>by
   obtain⟨k1,k2⟩:=hin.2 j x t h1 h2;have ht:=hts t (QS h2);have e1:=ht.ins;have e2:=ht.made;exact⟨k1.tch hT noE,k2.tch hT noE,by omega,by omega,YE _ _,YE _ _,λo ho=>(ht.outs o ho).2⟩) (by show 0<=_;omega)
  rw[hr]at this;exact this
 have HAP:Hid (∀W,Tch NoB w W->Calls prog 81 #[.int .i64 (wj:Int),.agg #[.int .i64 (wj:Int),.pointer rv],v] W λe w'=>∃(u:Nat)(rv:Option Addr)(ev:Value),e=.returned (.tuple #[.agg #[.int .i64 (u:Int),.pointer rv],ev])/\Zm E wj F (JZ (dgW wj) st ts) u rv ev w'/\Tch NoB W w'):=λW hT=>by
  have:=Jef E wj hw1 hw F q st v l ts hts h3 W (hE.tch hT noE) (λj hj=>hF j (Qm hT.size hj)) ((hv.tch hT noE).up hT.size) ⟨hin.1,λj x t h1 h2=>⟨((hin.2 j x t h1 h2).1.tch hT noE).up hT.size,((hin.2 j x t h1 h2).2.tch hT noE).up hT.size⟩⟩ (hs.next hT) hok;unfold Jv at this;rw[hrv]at this;refine this.mono λe w' h=>?_;obtain⟨u,rv',ev,h1,h2⟩:=h.2.res;exact⟨u,rv',ev,h1,h2,h.1⟩
 have HNX:Hid (∀W,Tch NoB w W->Calls prog 82 #[.pointer (some ⟨cb,0,none⟩),.string ⟨(Xr ts).toArray⟩] W λe w'=>e=.returned (.agg #[.int .u64 ((m+1:Nat):Int),.string (dgW wj (72::bh.data.toList)),.string (dgW wj (66::Xr ts)),.string ⟨#[]⟩])/\Tch NoB W w'):=λW hT=>Jgy E (hE.tch hT noE) hw1 hw (h.next hT) m hm hm2 _ hb hbs ⟨(Xr ts).toArray⟩ (by have:=JfS wj hw ts hts h3;show (Xr ts).toArray.size<=_;simp;omega);have HDG:Hid (∀W q1 st1,Tch NoB w W->StAt (dgW wj) F W q1 st1->Calls prog 83 #[Jv wj q1] W λe w'=>e=.returned (.string (JV (dgW wj) st1))/\Tch NoB W w'):=λW q1 st1 hT k=>Zw E wj hw1 hw F q1 st1 W (hE.tch hT noE) k;have HHB:Hid (∀W st1,Tch NoB w W->Calls prog 84 #[.int .i64 (wj:Int),.agg #[.int .u64 ((m+1:Nat):Int),.string (dgW wj (72::bh.data.toList)),.string (dgW wj (66::Xr ts)),.string (JV (dgW wj) st1)]] W λe w'=>e=.returned (.tuple #[.string ⟨(hdrB (m+1,dgW wj (72::bh.data.toList),dgW wj (66::Xr ts),JV (dgW wj) st1)).toArray⟩,.nilIface])/\Tch NoB W w'):=λW st1 hT=>by
  have:=Jap E wj (by omega) (m+1) (dgW wj (72::bh.data.toList)) (dgW wj (66::Xr ts)) (JV (dgW wj) st1) W (hE.tch hT noE);refine this.mono λe w' k=>?_;obtain⟨k1,k2⟩:=k;rw[JkZ ⟨by show m+1<2 ^ 32;omega,Jz wj hw _,Jz wj hw _,Yq _ wj (Jz wj hw) st1⟩]at k2;exact⟨k2,k1⟩
 have HLN:Hid ((Xr ts).length<=1000):=JfS wj hw ts hts h3;have HHL:Hid (∀st1,(hdrB (m+1,dgW wj (72::bh.data.toList),dgW wj (66::Xr ts),JV (dgW wj) st1)).length<=100):=λst1=>by
  have sz:∀x:BA,x.data.toList.length=x.size:=λx=>by simp only[QA];rfl
  unfold hdrB;simp only[Qe,Jf,sz,Jz wj hw,Yq (dgW wj) wj (Jz wj hw)];omega
 obtain⟨c0,c2,hlk⟩:=HRD.o w (Te _ _);obtain⟨ia,ic,hvs⟩:=hv.shape;generalize hAT:JZ (dgW wj) st ts=AT at *;generalize dgW wj (72::bh.data.toList)=sa at *;generalize dgW wj (66::Xr ts)=sb at *;have hfl:∀W,(Instr.field 148 (.agg #[.string bh,.int .i64 (wj:Int),.pointer rv]) 1).run prog W=.ok (.agg #[.int .i64 (wj:Int),.pointer rv]) W:=λW=>by kernel_rfl
 clear hE h hb hbs hF hs hok hts h3 hv hin hrv hAT;subst hvs;go_enter func45,ntmps45;go_wp2_with fail;refine(Xf _ _).mono ?_;rintro _ w1⟨rfl,hp1,ht1⟩;have HT1:Hid (Tch NoB w w1):=ht1;have HP1:Hid (Jc w1 w.heap.size none (wj:Int) .nilIface (.wr [])):=hp1;clear ht1 hp1 c0 c2 hlk;obtain⟨c0,c2,hlk⟩:=HRD.o w1 HT1.o;go_wp2_with fail;refine(HBO.o w1 HT1.o HP1.o).mono ?_;rintro _ w2⟨x2,g2,rfl,hp2,hm2',ht2,_⟩;have HP2:Hid (Ji E w2 w.heap.size g2 wj (some (.wr (Xr ts)))):=hp2;have HT2:Hid (Tch NoB w w2):=XH (b:=w.heap.size) (Ql _) HT1.o ht2;clear hp2 ht2 c0 c2 hlk HP1 HT1 hm2' HBO;obtain⟨c0,c2,hlk⟩:=HRD.o w2 HT2.o;go_wp2_with fail;refine(JaL E w.heap.size g2 wj (some (.wr (Xr ts))) (λp hp=>⟨_,(Option.some.inj hp).symm⟩) w2 HP2.o).mono ?_;rintro _ w3⟨ht3,rfl⟩;have HT3:Hid (Tch NoB w w3):=HT2.o.go ht3;have HT3d:Hid (Tch NoB w w3.drew):=HT3.o.dr 1;clear ht3 HP2 HT2 c0 c2 hlk;have HT3a:Hid (Tch NoB w (w3.alloc (.cells #[.int .i64 0,.pointer none] 146)).drew):=(HT3.o.go (Ta _ _ _)).dr 1;have HZR:Hid ((w3.alloc (.cells #[.int .i64 0,.pointer none] 146)).drew.heap[w3.heap.size]? =some (.cells #[.int .i64 0,.pointer none] 146)):=Qf _ _;have HZ:Hid (w3.heap.size<(w3.alloc (.cells #[.int .i64 0,.pointer none] 146)).drew.heap.size):=(Jb HZR.o)
 obtain⟨c0,c2,hlk⟩:=HRD.o w3.drew HT3d.o;obtain⟨a0,a2,hlka⟩:=HRD.o (w3.alloc (.cells #[.int .i64 0,.pointer none] 146)).drew HT3a.o;go_wp2_with fail;go_region_held3 (λW=>W.cell? ⟨cb,0,none⟩=some (.int .i64 (wj:Int))/\W.cell? ⟨cb,2,none⟩=some (.map (some r))/\(Instr.lookup 141 (.map (some r)) (.int .i64 (m:Int)) false).run prog W=.ok (.agg #[.string bh,.int .i64 (wj:Int),.pointer rv]) W) (go_keep) ((first|(go_at_call 40;refine(HTIP.o _ (by first|exact HT3d.o|exact HT3a.o)).mono ?_;rintro _ _⟨rfl,rfl⟩)|(go_at_call 81;refine(HAP.o w3.drew HT3d.o).mono ?_;rintro _ w4⟨u4,rv4,ev4,rfl,hr4,ht4⟩;have hTw4:Tch NoB w w4:=HT3d.o.go ht4;obtain⟨d0,d2,hlk4⟩:=HRD.o w4 hTw4;obtain⟨f0,f2,hlk5⟩:=HRD.o (w4.alloc (.cells #[.int .i64 (u4:Int),.pointer rv4] 146)) (hTw4.go (Ta _ _ _));obtain⟨_,_,hlk6⟩:=HRD.o (w4.alloc (.cells #[.int .i64 0,.pointer none] 146)) (hTw4.go (Ta _ _ _));have HT4:Hid (Tch NoB w w4):=hTw4;have HR4:Hid (Zm _ _ _ _ _ _ _ _):=hr4;have HK4:Hid (w4.heap.size=w4.heap.size):=rfl;clear hTw4 ht4 hr4)|(go_at_call 81;refine(HAP.o (w3.alloc (.cells #[.int .i64 0,.pointer none] 146)).drew HT3a.o).mono ?_;rintro _ w4⟨u4,rv4,ev4,rfl,hr4,ht4⟩;have hTw4:Tch NoB w w4:=HT3a.o.go ht4;obtain⟨d0,d2,hlk4⟩:=HRD.o w4 hTw4;have hr9:w4.heap[w3.heap.size]? =some (.cells #[.int .i64 0,.pointer none] 146):=(ht4.block _ HZ.o (λh=>h)).trans HZR.o;have s0:w4.cell? ⟨w3.heap.size,0,none⟩=some (.int .i64 0):=Ja hr9;have s1:w4.cell? ⟨w3.heap.size,1,none⟩=some (.pointer none):=Ja hr9;have sf:∀j,w4.frozen? ⟨w3.heap.size,j,none⟩=false:=λj=>Qg _ _ _ _ _ hr9;obtain⟨f0,f2,hlk5⟩:=HRD.o ((w4.setCell ⟨w3.heap.size,0,none⟩ (.int .i64 (u4:Int))).setCell ⟨w3.heap.size,1,none⟩ (.pointer rv4)) (by rw[set2 _ _ _ _ _ _ _ hr9];exact hTw4.trans (Ts _ _ _) (λj hj=>.inr (by have:=HT3.o.size;omega)));have HT4:Hid (Tch NoB w w4):=hTw4;have HR4:Hid (Zm _ _ _ _ _ _ _ _):=hr4;have HR9:Hid (w4.heap[w3.heap.size]? =some _):=hr9;clear hTw4 ht4 hr4 hr9)))
 all_goals
  clear c0 c2 hlk a0 a2 hlka d0 d2 hlk4
  first
  | (
   have tk:=HK4;have hr5:(w4.alloc (.cells #[.int .i64 (u4:Int),.pointer rv4] 146)).heap[w4.heap.size]? =some (.cells #[.int .i64 (u4:Int),.pointer rv4] 146):=Qf _ _;have HT5:Hid (Tch NoB w (w4.alloc (.cells #[.int .i64 (u4:Int),.pointer rv4] 146))):=HT4.o.go (Ta _ _ _);have HR5:Hid (Zm E wj F AT u4 rv4 ev4 (w4.alloc (.cells #[.int .i64 (u4:Int),.pointer rv4] 146))):=HR4.o.kept (λq st h=>h.next (Ta _ _ _)) (λk v h=>h.next (Ta _ _ _));clear HR4 HT4 tk HK4 hlk6;obtain⟨w5,hw5⟩:∃w5,w5=w4.alloc (.cells #[.int .i64 (u4:Int),.pointer rv4] 146):=⟨_,rfl⟩
   rw[<-hw5]at hr5 HT5 HR5 f0 f2 hlk5 ⊢;clear hw5;obtain⟨k9,hk9⟩:∃k9,k9=w4.heap.size:=⟨_,rfl⟩
   rw[<-hk9]at hr5 ⊢;clear hk9)
  | (
   obtain⟨hr5,hT5,p3,p4⟩:=XK HR9.o HT4.o HT3.o.size (.int .i64 (u4:Int)) (.pointer rv4);have HT5:Hid (Tch NoB w ((w4.setCell ⟨w3.heap.size,0,none⟩ (.int .i64 (u4:Int))).setCell ⟨w3.heap.size,1,none⟩ (.pointer rv4))):=hT5;have HR5:Hid (Zm E wj F AT u4 rv4 ev4 ((w4.setCell ⟨w3.heap.size,0,none⟩ (.int .i64 (u4:Int))).setCell ⟨w3.heap.size,1,none⟩ (.pointer rv4))):=HR4.o.kept (λq st h=>p3 _ _ _ _ h) (λk v h=>p4 _ _ _ h);clear HR4 HT4 HR9 p3 p4 hT5 s0 s1 sf;obtain⟨w5,hw5⟩:∃w5,w5=((w4.setCell ⟨w3.heap.size,0,none⟩ (.int .i64 (u4:Int))).setCell ⟨w3.heap.size,1,none⟩ (.pointer rv4)):=⟨_,rfl⟩
   rw[<-hw5]at hr5 HT5 HR5 f0 f2 hlk5 ⊢;clear hw5;obtain⟨k9,hk9⟩:∃k9,k9=w3.heap.size:=⟨_,rfl⟩
   rw[<-hk9]at hr5 ⊢;clear hk9)
  clear HT3 HT3d HT3a HZ HZR;have s0:w5.cell? ⟨k9,0,none⟩=some (.int .i64 (u4:Int)):=Ja hr5;have s1:w5.cell? ⟨k9,1,none⟩=some (.pointer rv4):=Ja hr5;have hk5:k9<w5.heap.size:=(Jb hr5)
  have HRK:Hid (w5.heap[k9]? =some (.cells #[.int .i64 (u4:Int),.pointer rv4] 146)):=hr5;clear hr5
  cases AT with
  | error er=>
   obtain⟨tv,uv,rfl,hv⟩:=HR5.o;have HV:Hid (Jp E (erG er) w5 (.iface tv uv)):=hv;clear hv HR5 HNX HHB HDG HAP HRD HTIP;go_wp2_with fail;refine(Xl _ _ _ _).mono ?_;rintro _ _⟨rfl,rfl⟩;go_wp2;go_ret2;exact⟨HT5.o.go (Ta _ _ _),_,_,rfl,.wrap _ _ _ (Qf _ _) (HV.o.next (Ta _ _ _))⟩
  | ok st'=>
   obtain⟨q',rfl,hq,rfl,hs5,hk5'⟩:=HR5.o;have HQ:Hid (Jh q'=.pointer rv4):=hq;have HS5:Hid (StAt (dgW u4) F w5 q' st'):=hs5;clear hq hs5 hk5' HR5 HAP;obtain⟨y0,y2,hly⟩:=HRD.o w5 HT5.o;clear f0 f2 hlk5;go_wp2_with fail;refine(HNX.o w5 HT5.o).mono ?_;rintro _ w6⟨rfl,ht6⟩;have HT6:Hid (Tch NoB w w6):=HT5.o.go ht6;have HT6a:Hid (Tch NoB w (w6.alloc (.cells #[.int .u64 ((m+1:Nat):Int),.string sa,.string sb,.string ⟨#[]⟩] 167))):=HT6.o.go (Ta _ _ _);have HS6:Hid (StAt (dgW u4) F (w6.alloc (.cells #[.int .u64 ((m+1:Nat):Int),.string sa,.string sb,.string ⟨#[]⟩] 167)) q' st'):=(HS5.o.next ht6).next (Ta _ _ _);have t0:w6.cell? ⟨k9,0,none⟩=some (.int .i64 (u4:Int)):=(ht6.cell (p:=⟨k9,0,none⟩) hk5 (λh=>h)).trans s0;have t1:w6.cell? ⟨k9,1,none⟩=some (.pointer rv4):=(ht6.cell (p:=⟨k9,1,none⟩) hk5 (λh=>h)).trans s1;have hk6:k9<w6.heap.size:=Qk hk5 ht6.size;have HDI:=HDG.o _ q' st' HT6a.o HS6.o;unfold Jv at HDI;rw[HQ.o]at HDI;have HDI':Hid (Calls _ _ _ _ _):=HDI;clear ht6 s0 s1 y0 y2 hly HNX HDI HS6 HS5;go_wp2_with fail;refine HDI'.out.mono ?_;rintro _ w7⟨rfl,ht7⟩;have HT7:Hid (Tch NoB w w7):=HT6a.o.go ht7;have hr7:w7.heap[w6.heap.size]? =some (.cells #[.int .u64 ((m+1:Nat):Int),.string sa,.string sb,.string ⟨#[]⟩] 167):=(ht7.block _ (by simp) (λh=>h)).trans (Qf _ _);have r0:w7.cell? ⟨w6.heap.size,0,none⟩=some (.int .u64 ((m+1:Nat):Int)):=Ja hr7;have r1:w7.cell? ⟨w6.heap.size,1,none⟩=some (.string sa):=Ja hr7;have r2:w7.cell? ⟨w6.heap.size,2,none⟩=some (.string sb):=Ja hr7;have r3:w7.cell? ⟨w6.heap.size,3,none⟩=some (.string ⟨#[]⟩):=Ja hr7;have fr:∀j,w7.frozen? ⟨w6.heap.size,j,none⟩=false:=λj=>Qg _ _ _ _ _ hr7;have HR7:Hid (w7.heap[w6.heap.size]? =some _):=hr7;obtain⟨y0,y2,hly⟩:=HRD.o w7 HT7.o;generalize hsd:JV (dgW u4) st'=sd at *;have HSD:Hid (JV (dgW u4) st'=sd):=hsd;have HHC:=λW hT=>HHB.o W st' hT;rw[hsd]at HHC;have HHC':Hid (∀W,Tch NoB w W->Calls _ _ _ W _):=HHC;clear ht7 hr7 HDI' HDG HHC HHB hsd t0 t1;go_wp2_with fail;have hset:w7.setCell ⟨w6.heap.size,3,none⟩ (.string sd)=w7.setRow w6.heap.size #[.int .u64 ((m+1:Nat):Int),.string sa,.string sb,.string sd]:=(by rw[Qj w7 w6.heap.size 3 _ _ (0,0) _ HR7.o];rfl);have hr8:(w7.setRow w6.heap.size #[.int .u64 ((m+1:Nat):Int),.string sa,.string sb,.string sd]).heap[w6.heap.size]? =some (.cells #[.int .u64 ((m+1:Nat):Int),.string sa,.string sb,.string sd] 167):=Qi _ _ _ _ _ _ HR7.o;have HT8:Hid (Tch NoB w (w7.setRow w6.heap.size #[.int .u64 ((m+1:Nat):Int),.string sa,.string sb,.string sd])):=HT7.o.trans (Ts _ _ _) (λj hj=>.inr (by have:=HT6.o.size;omega));rw[hset];clear hset r0 r1 r2 r3 fr y0 y2 hly HR7;generalize w7.setRow w6.heap.size #[.int .u64 ((m+1:Nat):Int),.string sa,.string sb,.string sd]=w8 at *;have r0:w8.cell? ⟨w6.heap.size,0,none⟩=some (.int .u64 ((m+1:Nat):Int)):=Ja hr8;have r1:w8.cell? ⟨w6.heap.size,1,none⟩=some (.string sa):=Ja hr8;have r2:w8.cell? ⟨w6.heap.size,2,none⟩=some (.string sb):=Ja hr8;have r3:w8.cell? ⟨w6.heap.size,3,none⟩=some (.string sd):=Ja hr8;obtain⟨y0,_,_⟩:=HRD.o w8 HT8.o;have HT8d:Hid (Tch NoB w w8.drew):=HT8.o.dr 1;have hz8:w6.heap.size<w8.heap.size:=(Jb hr8)
   have HR8:Hid (w8.heap[w6.heap.size]? =some _):=hr8;clear hr8;go_region_held3 (λW=>W.cell? ⟨cb,0,none⟩=some (.int .i64 (u4:Int))/\W.cell? ⟨w6.heap.size,0,none⟩=some (.int .u64 ((m+1:Nat):Int))/\W.cell? ⟨w6.heap.size,1,none⟩=some (.string sa)/\W.cell? ⟨w6.heap.size,2,none⟩=some (.string sb)/\W.cell? ⟨w6.heap.size,3,none⟩=some (.string sd)) (go_keep) ((go_at_call 84;refine(HHC'.out _ HT8d.o).mono ?_;rintro _ w9⟨rfl,ht9⟩;have hTw9:Tch NoB w w9:=HT8d.o.go ht9;have hT89:Tch NoB w8 w9:=(Td NoB w8 1).go ht9;have hr9:w9.heap[w6.heap.size]? =some (.cells #[.int .u64 ((m+1:Nat):Int),.string sa,.string sb,.string sd] 167):=(hT89.block _ hz8 (λh=>h)).trans HR8.o;have q0:w9.cell? ⟨w6.heap.size,0,none⟩=some (.int .u64 ((m+1:Nat):Int)):=Ja hr9;have q1:w9.cell? ⟨w6.heap.size,1,none⟩=some (.string sa):=Ja hr9;have q2:w9.cell? ⟨w6.heap.size,2,none⟩=some (.string sb):=Ja hr9;have q3:w9.cell? ⟨w6.heap.size,3,none⟩=some (.string sd):=Ja hr9;obtain⟨x0,_,_⟩:=HRD.o w9 hTw9;have HT9:Hid (Tch NoB w w9):=hTw9;clear ht9 hTw9 hT89 hr9))
   all_goals have hl:=HHL.o st';rw[HSD.o]at hl;obtain⟨ss,_,hss,hadd⟩:=JcH (hdrB (m+1,sa,sb,sd)) (Xr ts) (by have:=HLN.o;omega) hl;have HSS:Hid (ss.data.toList=hdrB (m+1,sa,sb,sd)++Xr ts):=hss;clear hl hss HHL HLN HRD HHC' q0 q1 q2 q3 x0 r0 r1 r2 r3 y0;generalize (⟨(hdrB (m+1,sa,sb,sd)).toArray⟩:BA)=hbz at *;generalize (⟨(Xr ts).toArray⟩:BA)=bbz at *;go_wp2;go_ret2;refine⟨HT9.o,?_⟩;show _=Ending.returned (.tuple #[.string ⟨(hdrB (m+1,sa,sb,JV (dgW u4) st')++Xr ts).toArray⟩,.nilIface]);rw[HSD.o,<-HSS.o];rfl

def RdSt(E:Nat->Addr)(w:World)(b:Nat)(wj:Int):Option PS->Prop
 | some p=>Jc w b none wj .nilIface p/\∃q r,p=.rd q r
 | none=>∃q r t u,Jc w b none wj (.iface t u) (.rd q r)/\Jp E 7 w (.iface t u)
def RdTo(E:Nat->Addr)(w w':World)(b:Nat)(wj:Int)(st':Option PS):Prop:=RdSt E w' b wj st'/\Tch (λk=>k=b) w w'
theorem JnO{x m:Nat}(h:(PS.rd q r).num x n=some (m,p')):∃q' r',p'=.rd q' r':=by
 simp only[PS.num]at h
 split at h
 ·cases h;exact⟨_,_,rfl⟩
 ·cases h
theorem Jn2{s t:List UInt8}(h:(PS.rd q r).txt s n=some (t,p')):∃q' r',p'=.rd q' r':=by
 simp only[PS.txt]at h
 split at h
 ·cases h;exact⟨_,_,rfl⟩
 ·cases h
theorem JY.rd(E:Nat->Addr)(h:JY w w' b none wj (.rd q r)):RdTo E w w' b wj (some (.rd q r)):=by
 obtain⟨g',h1,_,h3⟩:=h;obtain rfl:=h1.1;exact⟨⟨h1,_,_,rfl⟩,h3.mono (λj hj=>by rcases hj with h|h;exact .inl h;cases h)⟩
theorem Jjx(E:Nat->Addr)(b:Nat)(wj:Int)(x n:Nat)(st:Option PS)(w:World)(hE:Env E w)(hp:RdSt E w b wj st)(h8:n<=8)(hd:Xb st<=10000000000000):
  Calls prog 138 #[.pointer (some ⟨b,0,none⟩),.int .u64 (x:Int),.int .i64 (n:Int)] w λe w'=>e=.returned (.int .u64 ((JQ x n st).1:Int))/\RdTo E w w' b wj (JQ x n st).2:=by
 unfold JQ
 cases st with
 | none=>
  obtain⟨q,r,t,u,h1,h2⟩:=hp;refine(Jag b none wj _ _ _ t u w h1).mono ?_;rintro e w'⟨rfl,rfl⟩;exact⟨rfl,⟨q,r,t,u,h1,h2⟩,Te _ _⟩
 | some p=>
  obtain⟨hp,q,r,rfl⟩:=hp;simp only[Qu]
  cases h:(PS.rd q r).num x n with
  | none=>
   refine(YU E b none wj x n _ w hE hp h8 hd h).mono ?_;rintro e w'⟨rfl,h1,h2⟩;exact⟨rfl,⟨q,r,_,_,h1,.base⟩,h2⟩
  | some y=>
   obtain⟨m,p'⟩:=y;obtain⟨q',r',rfl⟩:=JnO h;exact(Xs b none wj x n m _ _ w hp h8 hd h).mono λe w' ⟨h1,h2⟩=>⟨h1,h2.rd E⟩
theorem JmW(E:Nat->Addr)(b:Nat)(wj:Int)(s:BA)(n:Nat)(st:Option PS)(w:World)(hE:Env E w)(hp:RdSt E w b wj st)(hd:Xb st+n<=10000000000000):
  Calls prog 209 #[.pointer (some ⟨b,0,none⟩),.string s,.int .i64 (n:Int)] w λe w'=>e=.returned (.string ⟨(Jl s.data.toList n st).1.toArray⟩)/\RdTo E w w' b wj (Jl s.data.toList n st).2:=by
 unfold Jl
 cases st with
 | none=>
  obtain⟨q,r,t,u,h1,h2⟩:=hp;refine(Jg1 b none wj _ _ _ t u w h1).mono ?_;rintro e w'⟨rfl,rfl⟩;exact⟨rfl,⟨q,r,t,u,h1,h2⟩,Te _ _⟩
 | some p=>
  obtain⟨hp,q,r,rfl⟩:=hp;simp only[Qu]
  cases h:(PS.rd q r).txt s.data.toList n with
  | none=>
   refine(JeJ E b none wj s n _ w hE hp (by simp only[Xb]at hd;omega) h).mono ?_;rintro e w'⟨rfl,h1,h2⟩;exact⟨rfl,⟨q,r,_,_,h1,.base⟩,h2⟩
  | some y=>
   obtain⟨m,p'⟩:=y;obtain⟨q',r',rfl⟩:=Jn2 h;exact(Zk b none wj s n m _ _ w hp hd h).mono λe w' ⟨h1,h2⟩=>⟨h1,h2.rd E⟩
theorem RdSt.st{st:Option PS}(h:RdSt E w b wj st):Ji E w b none wj st:=by
 cases st with
 | none=>obtain⟨q,r,t,u,h1,h2⟩:=h;exact⟨_,t,u,h1,h2⟩
 | some p=>exact h.1
theorem RdSt.tch{S:Nat->Prop}{st:Option PS}(h:RdSt E w b wj st)(k:Tch S w w')(hb:¬S b)(hs:∀p s u,w.heap[p]? =some (.cells #[.string s,u] 237)->¬S p):RdSt E w' b wj st:=by
 cases st with
 | some p=>exact⟨h.1.tch k hb (λ_ h=>by cases h),h.2⟩
 | none=>obtain⟨q,r,t,u,h1,h2⟩:=h;exact⟨q,r,t,u,h1.tch k hb (λ_ h=>by cases h),h2.tch k hs⟩
theorem Jb1(E:Nat->Addr)(b:Nat)(wj:Nat)(s:BA)(st:Option PS)(w:World)(hE:Env E w)(hp:RdSt E w b wj st)(hd:Xb st+wj<=10000000000000):
  Calls prog 139 #[.pointer (some ⟨b,0,none⟩),.string s] w λe w'=>e=.returned (.string ⟨(Jl s.data.toList wj st).1.toArray⟩)/\RdTo E w w' b wj (Jl s.data.toList wj st).2:=by
 have c1:=hp.st.width;have HC:Hid (Calls prog 209 _ w _):=JmW E b wj s wj st w hE hp hd;clear hp hE;go_enter func139,ntmps139;go_wp2_with fail;refine HC.o.mono ?_;rintro _ w1⟨rfl,h⟩;have HS:Hid _:=h;clear h HC;go_wp2;go_ret;exact⟨rfl,HS.o⟩
structure RRun(E:Nat->Addr)(w0 wA w:World)(b:Nat)(wj:Int)(st:Option PS):Prop where
 env:Env E w
 port:RdSt E w b wj st
 tch:Tch (λk=>k=b) wA w
 a:Tch NoB w0 wA
 lo:18<=b
 lt:b<w0.heap.size
theorem RRun.step{st st':Option PS}(h:RRun E w0 wA w b wj st)(k:RdTo E w w' b wj st'):RRun E w0 wA w' b wj st':=
 ⟨h.env.tch k.2 (λj hj=>by have:=h.lo;omega),k.1,h.tch.trans k.2 (λj hj=>.inl hj),h.a,h.lo,h.lt⟩
theorem RRun.box{st:Option PS}(h:RRun E w0 wA w b wj st){o:Obj}(hk:w0.heap.size<=k)(hA:wA.heap[k]? =some o):w.heap[k]? =some o:=
 (h.tch.block k (Jb hA) (λe=>by have:=h.lt;omega)).trans hA
theorem Jem(E:Nat->Addr)(b:Nat)(hb12:18<=b)(wj:Nat)(n:Nat)(s1 s2 s3:BA)(st:Option PS)(w:World)(hE:Env E w)(hp:RdSt E w b wj st)(hd:Xb st+4*wj<=90000000):
  Calls prog 86 #[.pointer (some ⟨b,0,none⟩),.agg #[.int .u64 (n:Int),.string s1,.string s2,.string s3]] w λe w'=>e=.returned (hdV (ZD wj (n,s1,s2,s3) st).1)/\RdTo E w w' b wj (ZD wj (n,s1,s2,s3) st).2:=by
 have hlt:=hp.st.lt;have hA:=Tch.allocs NoB w (.cells #[.int .u64 (n:Int),.string s1,.string s2,.string s3] 167) (.cells #[.int .u64 0,.string ⟨#[]⟩,.string ⟨#[]⟩,.string ⟨#[]⟩] 167);have HR0:RRun E w _ _ b wj st:=⟨hE.tch hA noE,hp.tch hA (λh=>h) (λ_ _ _ _ h=>h),Te _ _,hA,hb12,hlt⟩
 have hl0:=JaY n 4 st;have hl1:=Yx s1.data.toList wj (JQ n 4 st).2;have hl2:=Yx s2.data.toList wj (Jl s1.data.toList wj (JQ n 4 st).2).2;have RUN:Hid _:=HR0;clear hE hp HR0 hA;go_enter func86,ntmps86;go_wp2_with fail;refine(Jjx E b wj n 4 st _ RUN.out.env RUN.out.port (by omega) (by omega)).mono ?_;rintro _ w1⟨rfl,h⟩;have R1:=RUN.out.step h;have bx1:=R1.box (k:=w.heap.size) (Ql _) (heap_alloc2_old _ _ _);have c1:w1.cell? ⟨w.heap.size,1,none⟩=some (.string s1):=Ja bx1;have RUN1:Hid _:=R1;clear R1 bx1 h;go_wp2_with fail;refine(Jb1 E b wj s1 _ _ RUN1.out.env RUN1.out.port (by omega)).mono ?_;rintro _ w2⟨rfl,h⟩;have R2:=RUN1.out.step h;have bx2:=R2.box (k:=w.heap.size) (Ql _) (heap_alloc2_old _ _ _);have c2:w2.cell? ⟨w.heap.size,2,none⟩=some (.string s2):=Ja bx2;have RUN2:Hid _:=R2;clear R2 bx2 h;go_wp2_with fail;refine(Jb1 E b wj s2 _ _ RUN2.out.env RUN2.out.port (by omega)).mono ?_;rintro _ w3⟨rfl,h⟩;have R3:=RUN2.out.step h;have bx3:=R3.box (k:=w.heap.size) (Ql _) (heap_alloc2_old _ _ _);have c3:w3.cell? ⟨w.heap.size,3,none⟩=some (.string s3):=Ja bx3;have RUN3:Hid _:=R3;clear R3 bx3 h;go_wp2_with fail;refine(Jb1 E b wj s3 _ _ RUN3.out.env RUN3.out.port (by omega)).mono ?_;rintro _ w4⟨rfl,h⟩;have R4:=RUN3.out.step h;have rR:=R4.box (k:=w.heap.size+1) (by omega) (heap_alloc2_new _ _ _);have e0:w4.cell? ⟨w.heap.size+1,0,none⟩=some (.int .u64 0):=Ja rR;have e1:w4.cell? ⟨w.heap.size+1,1,none⟩=some (.string ⟨#[]⟩):=Ja rR;have e2:w4.cell? ⟨w.heap.size+1,2,none⟩=some (.string ⟨#[]⟩):=Ja rR;have e3:w4.cell? ⟨w.heap.size+1,3,none⟩=some (.string ⟨#[]⟩):=Ja rR;have fR:∀j,w4.frozen? ⟨w.heap.size+1,j,none⟩=false:=λj=>Qg _ _ _ _ _ rR;have RUN4:Hid _:=R4;have RR:Hid (_=_):=rR;clear R4 rR h;go_wp2;rw[set4 _ _ _ _ _ _ _ _ _ _ _ RR.out];have hN:=RUN4.out.a.size;refine QJ (v:=hdV (ZD wj (n,s1,s2,s3) st).1) (Qq results86 _ _ (w.heap.size+1) _ _ (0,0) _ rfl (Qi _ _ _ _ _ _ RR.out) underlying167 rfl (by kernel_rfl)) rfl ⟨rfl,RUN4.out.port.tch (Ts _ _ _) (by omega) (λp s u hp e=>by subst e;rw[RR.out]at hp;simp at hp),?_⟩;exact((RUN4.out.a.mono noE).trans RUN4.out.tch (λj hj=>.inl hj)).trans (Ts _ _ _) (λj hj=>.inr (by omega))
theorem JkD(b:Nat)(g:Option Nat)(wj:Nat)(ia:Option Addr)(n ic:Nat)(p0:PS)(t:TypeId)(u:Value)(w:World)(hp:Jc w b g wj (.iface t u) p0):
  Calls prog 78 #[.pointer (some ⟨b,0,none⟩),.slice ia n ic] w λe w'=>e=.returned (.slice none 0 0)/\Jc w' b g wj (.iface t u) p0/\Tch NoB w w':=by
 have hmf:∀(fn:Fn)(first cap:Array Value)(w:World),(Instr.makeFunc fn first cap).run prog w=.ok (.func fn first cap) w:=λ_ _ _ _=>rfl;have HL:Hid (∀what:BA,what.size<=1000->_):=λwhat hwh=>JmE b g wj what hwh 1 0 3 (.slice ia n ic) ia n ic rfl p0 t u w hp;clear hp;go_enter func78,ntmps78;go_wp2_with fail;refine(HL.o _ (by decide)).mono ?_;clear HL;rintro e w1⟨rfl,h⟩;have HH:Hid _:=h;clear h;go_wp2;go_ret;exact⟨rfl,HH.o⟩
