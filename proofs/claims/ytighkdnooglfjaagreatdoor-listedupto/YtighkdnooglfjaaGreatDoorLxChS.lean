import Derived.Test.YtighkdnooglfjaaGreatDoorLxLdQ
namespace Go.Proofs.YtighkdnooglfjaaGreatDoor
open Tryz
set_option maxRecDepth 100000
set_option maxHeartbeats 2000000
open Go.RowKit

variable {bs bs':List BV}{cb f fl lb r wj:Nat}{lv v:Value}{w w':World}
theorem Jb4(bs:List BV):∀(i k:Nat),(Ju i bs)[k]? =(bs[k]?).map λb=>⟨.int .i64 ((i+k:Nat):Int),bV b,i+k⟩:=by
 induction bs with
 | nil=>intro i k;simp[Ju]
 | cons b r ih=>
  intro i k
  cases k with
  | zero=>simp[Ju]
  | succ k=>
   rw[Ju,List.getElem?_cons_succ,ih,List.getElem?_cons_succ];have e:i+1+k=i+(k+1):=(by omega);rw[e]
theorem Je1(bs:List BV)(b:BV):∀(i k:Nat),k<bs.length->Ju i (bs.set k b)=(Ju i bs).modify k λe=>{ e with key:=.int .i64 ((i+k:Nat):Int),val:=bV b }:=by
 induction bs with
 | nil=>intro i k h;simp at h
 | cons x r ih=>
  intro i k h
  cases k with
  | zero=>simp[Ju]
  | succ k=>
   rw[Qc,Ju,ih (i+1) k (by simpa using h),Ju];have e:i+1+k=i+(k+1):=(by omega);rw[e];rfl
theorem JjH(h:w.heap[r]? =some (.map (Ju 0 bs).toArray bs.length))(k:Nat)(hk:k<bs.length)(b:BV):
  (Instr.mapUpdate 141 (.map (some r)) (.int .i64 (k:Int)) (bV b)).run prog w=.ok () (w.setBlocks r (bs.set k b)):=by
 have h1:=Zf bs 0 0 (k:Int);rw[if_pos (by omega)]at h1;obtain⟨x,hx⟩:∃x,bs[k]? =some x:=⟨_,Qd hk⟩
 simp only[Int.toNat_natCast,Nat.sub_zero,Nat.zero_add,hx,Option.map_some]at h1;have hkey:Go.MapKept.IsKey (.int .i64) (.int .i64 (k:Int)):=by simp[Go.MapKept.IsKey]
 have h2:(Ju 0 bs)[k]? =some ⟨.int .i64 (k:Int),bV x,k⟩:=by rw[Jb4,hx];simp
 simp[Instr.mapUpdate,run_underlying JiH,Go.MapKept.run_getObj_map h,Go.MapKept.run_checkKey (d:=.int .i64) JcC hkey,Go.MapKept.run_findKey JcC h1,h2,Go.MapKept.run_keyThatStays hkey,Go.MapKept.run_setObj_map _ h,Result.andThen,World.setBlocks,Je1 bs b 0 k hk]
theorem JkT(E:Nat->Addr)(b:Nat)(wj:Nat)(n:Nat)(hn:n<2 ^ 31)(w:World)(hp:Jc w b none (wj:Int) .nilIface (.wr [])):
  Calls prog 157 #[.pointer (some ⟨b,0,none⟩),.int .i64 (n:Int)] w λe w'=>e=.returned (.int .i64 (n:Int))/\StTo E w w' b none (wj:Int) (some (.wr (beL n 4 4))):=by
 have hnum:(PS.wr []).num n 4=some (n,.wr (beL n 4 4)):=by simp only[PS.num];rw[if_pos (by omega)];rfl
 have HN:Hid (Calls prog 138 #[.pointer (some ⟨b,0,none⟩),.int .u64 (n:Int),.int .i64 4] w λe w'=>e=.returned (.int .u64 (n:Int))/\StTo E w w' b none (wj:Int) (some (.wr (beL n 4 4)))):=Xp b none wj n 4 n (.wr []) _ w hp (by omega) (by simp[PS.len]) hnum;have hu:IntKind.u64.wrap (n:Int)=(n:Int):=JH _ (by omega) (by omega);have hi:IntKind.i64.wrap (n:Int)=(n:Int):=by simp[IntKind.wrap,IntKind.bits,IntKind.signed];omega
 clear hp hnum;go_enter func157,ntmps157;go_wp2_with fail;refine HN.o.mono ?_;rintro _ w1⟨rfl,h⟩;have H:Hid _:=h;clear h HN;go_wp2;go_ret;exact⟨rfl,H.out⟩
theorem JcG(E:Nat->Addr)(hE:Env E w)(h:Jz w cb wj fl r bs lv)(base:Nat)(hbase:base<=w.heap.size)(lg:List UInt8)(hl:Xm base w lv lg)(hll:lg.length<=140737488000000)(n:Nat)(hn:n<2 ^ 31):
  Calls prog 97 #[.pointer (some ⟨cb,0,none⟩),.int .i64 (n:Int)] w λe w'=>e=.returned .nilIface/\∃lv',Jz w' cb wj fl r bs lv'/\Xm base w' lv' (lg++recB [80] (beL n 4 4))/\Tch (λk=>k=cb\/some k=lv.ownBlock) w w'/\Jm w lv.ownBlock lv'.ownBlock:=by
 have hcb:=(Jb h.row)
 have c0:w.cell? ⟨cb,0,none⟩=some (.int .i64 (wj:Int)):=Ja h.row;obtain⟨sb,hsb⟩:∃sb:BA,sb=⟨(beL n 4 4).toArray⟩:=⟨_,rfl⟩
 have HST:Hid (∀W,Jc W w.heap.size none (wj:Int) .nilIface (.wr [])->Calls prog 157 #[.pointer (some ⟨w.heap.size,0,none⟩),.int .i64 (n:Int)] W λe w'=>e=.returned (.int .i64 (n:Int))/\StTo E W w' w.heap.size none (wj:Int) (some (.wr (beL n 4 4)))):=λW hp=>JkT E w.heap.size wj n hn W hp;have HWD:Hid (∀W g,Ji E W w.heap.size g (wj:Int) (some (.wr (beL n 4 4)))->Calls prog 79 #[.pointer (some ⟨w.heap.size,0,none⟩)] W λe w'=>Tch NoB W w'/\e=.returned (.tuple #[.string sb,.nilIface])):=λW g hp=>by
  rw[hsb];exact JaK E w.heap.size g wj (some (.wr (beL n 4 4))) (λp hp=>⟨_,(Option.some.inj hp).symm⟩) W hp
 have HRC:Hid (∀W,Tch NoB w W->Calls prog 89 #[.pointer (some ⟨cb,0,none⟩),.string ⟨#[80]⟩,.string sb] W λe w'=>e=.returned .nilIface/\∃lv',Jz w' cb wj fl r bs lv'/\Xm base w' lv' (lg++recB [80] (beL n 4 4))/\Tch (λk=>k=cb\/some k=lv.ownBlock) W w'/\Jm W lv.ownBlock lv'.ownBlock):=λW hT=>by
  have:=Jbg E (hE.tch hT noE) (h.next hT) base (Qm hbase hT.size) lg (hl.next hT) hll ⟨#[80]⟩ sb rfl (by rw[hsb,Jy,Jf];omega);have e:sb.data.toList=beL n 4 4:=by rw[hsb]
  rw[e]at this;exact this
 clear hE h hbase hl hll hsb hn hcb;go_enter func97,ntmps97;go_wp2_with fail;refine(Xd _ _).mono ?_;rintro _ w1⟨rfl,hp1,ht1⟩;have HT1:Hid _:=ht1;have HP1:Hid _:=hp1;clear ht1 hp1 c0;go_wp2_with fail;refine(HST.o w1 HP1.o).mono ?_;rintro _ w2⟨rfl,g2,hp2,hm2,ht2⟩;have HT2:Hid (Tch NoB w w2):=XE (b:=w.heap.size) (Ql _) HT1.o ht2;have HP2:Hid _:=hp2;clear hp2 hm2 ht2 HST HT1 HP1;go_wp2_with fail;refine(HWD.o w2 g2 HP2.o).mono ?_;rintro _ w3⟨ht3,rfl⟩;have HT3:Hid (Tch NoB w w3):=HT2.o.go ht3;clear ht3 HP2 HT2 HWD;go_wp2_with fail;refine(HRC.o w3 HT3.o).mono ?_;rintro _ w4⟨rfl,lv',k1,k2,k3,k4⟩;have HK:Hid (Jz w4 cb wj fl r bs lv'/\Xm base w4 lv' (lg++recB [80] (beL n 4 4))/\Tch (λk=>k=cb\/some k=lv.ownBlock) w3 w4/\Jm w3 lv.ownBlock lv'.ownBlock):=⟨k1,k2,k3,k4⟩
 clear k1 k2 k3 k4 HRC;go_wp2;go_ret;refine⟨rfl,lv',HK.o.1,HK.o.2.1,(HT3.o.mono noE).trans HK.o.2.2.1 (λj hj=>.inl hj),?_⟩
 rcases HK.o.2.2.2 with h|⟨k,h,hk⟩
 ·exact .inl h
 ·exact .inr ⟨k,h,Qm HT3.o.size hk⟩

def Prn(fl f:Nat)(bs bs':List BV):Prop:=∀k:Nat,bs'[k]? =if fl<=k/\k<f then (bs[k]?).map (λb=>(b.1,0,none)) else bs[k]?
theorem Prn.length(h:Prn fl f bs bs'):bs'.length=bs.length:=by
 have h1:∀k,bs'[k]? =none↔bs[k]? =none:=λk=>by
  rw[h k];cases bs[k]?<;>split<;>simp
 have a:=h1 bs.length;have b:=h1 bs'.length;simp only[List.getElem?_eq_none_iff]at a b;omega
theorem Prn.start(fl:Nat)(bs:List BV):Prn fl fl bs bs:=λk=>by rw[if_neg (by omega)]
theorem Prn.step(h:Prn fl f bs bs')(hf:fl<=f)(b:BV)(hb:bs'[f]? =some b):Prn fl (f+1) bs (bs'.set f (b.1,0,none)):=λk=>by
 have hl:=(Qo.1 hb).1
 by_cases e:k=f
 ·subst e;have:=h k;rw[if_neg (by omega),hb]at this;rw[List.getElem?_set_self hl,if_pos (by omega),<-this];rfl
 ·rw[List.getElem?_set_ne (λx=>e x.symm),h k]
  by_cases c:fl<=k/\k<f
  ·rw[if_pos c,if_pos (by omega)]
  ·rw[if_neg c,if_neg (by omega)]
theorem Jz.set(h:Jz w cb wj fl r bs v)(bs':List BV)(hw:w'=w.setBlocks r bs'):Jz w' cb wj fl r bs' v:=by
 subst hw;have hne:¬cb=r:=λe=>by have:=h.row;rw[e,h.map]at this;cases this
 exact⟨((Tch.setBlocks w r bs').block cb (Jb h.row) hne).trans h.row,Zt h.map _⟩
theorem Jz.up(h:Jz w cb wj fl r bs v)(f:Nat):Jz (w.setCell ⟨cb,1,none⟩ (.int .i64 (f:Int))) cb wj f r bs v/\Tch (λk=>k=cb) w (w.setCell ⟨cb,1,none⟩ (.int .i64 (f:Int))):=by
 have hne:¬r=cb:=λe=>by have:=h.row;rw[<-e,h.map]at this;cases this
 have e:=Qj w cb 1 _ _ _ (.int .i64 (f:Int)) h.row;rw[e];have t:=Ts w cb (#[.int .i64 (wj:Int),.int .i64 (fl:Int),.map (some r),v].setIfInBounds 1 (.int .i64 (f:Int)));exact⟨⟨Qi _ _ _ _ _ _ h.row,(t.block r (Jb h.map) hne).trans h.map⟩,t⟩
theorem Jhc(E:Nat->Addr)(hE:Env E w)(h:Jz w cb wj fl r bs lv)(base:Nat)(hbase:base<=w.heap.size)(lg:List UInt8)(hl:Xm base w lv lg)(hll:lg.length<=140737488000000)(n:Nat)(hf:fl<=n)(hn:n<bs.length)(hb:bs.length<2 ^ 31):
  Calls prog 56 #[.pointer (some ⟨cb,0,none⟩),.int .i64 (n:Int)] w λe w'=>e=.returned .nilIface/\∃lv' bs',Prn fl n bs bs'/\Jz w' cb wj n r bs' lv'/\Xm base w' lv' (lg++recB [80] (beL n 4 4))/\Tch (λk=>k=cb\/k=r\/some k=lv.ownBlock) w w'/\Jm w lv.ownBlock lv'.ownBlock:=by
 obtain⟨b0,hb0⟩:∃b0,bs[n]? =some b0:=⟨_,Qd hn⟩
 have HSA:Hid (Calls prog 92 #[.pointer (some ⟨cb,0,none⟩),.int .i64 (n:Int)] w λe w'=>e=.returned (.tuple #[Jv b0.2.1 b0.2.2,.nilIface])/\Tch NoB w w'):=Jbj h n b0 hb0 hf;obtain⟨tn,rv,hrv⟩:∃(tn:Int)(rv:Option Addr),Jv b0.2.1 b0.2.2=.agg #[.int .i64 tn,.pointer rv]:=⟨_,_,rfl⟩
 rw[hrv]at HSA;have HRF:Hid (∀W,Tch NoB w W->Calls prog 97 #[.pointer (some ⟨cb,0,none⟩),.int .i64 (n:Int)] W λe w'=>e=.returned .nilIface/\∃lv',Jz w' cb wj fl r bs lv'/\Xm base w' lv' (lg++recB [80] (beL n 4 4))/\Tch (λk=>k=cb\/some k=lv.ownBlock) W w'/\Jm W lv.ownBlock lv'.ownBlock):=λW hT=>JcG E (hE.tch hT noE) (h.next hT) base (Qm hbase hT.size) lg (hl.next hT) hll n (by omega);have HB:Hid (fl<=n/\n<bs.length/\bs.length<2 ^ 31):=⟨hf,hn,hb⟩
 clear hE h hbase hl hll hb0 hrv hf hn hb;go_enter func56,ntmps56;go_wp2_with fail;refine HSA.o.mono ?_;rintro _ w1⟨rfl,ht1⟩;have HT1:Hid _:=ht1;clear ht1 HSA;go_wp2_with fail;refine(HRF.o _ (HT1.o.go (Ta _ _ _))).mono ?_;rintro _ w2⟨rfl,lv',k1,k2,k3,k4⟩;have HT2:Hid (Tch (λk=>k=cb\/some k=lv.ownBlock) w w2):=((HT1.o.go (Ta NoB w1 _)).mono noE).trans k3 (λj hj=>.inl hj);have HM2:Hid (Jm w lv.ownBlock lv'.ownBlock):=by
  rcases k4 with h|⟨k,h,hk⟩
  ·exact .inl h
  ·exact .inr ⟨k,h,Qm (HT1.o.go (Ta NoB w1 _)).size hk⟩
 have HL2:Hid _:=k2;have HR2:Hid _:=k1;clear k1 k2 k3 k4 HT1 HRF;go_upto_region 7 with fail;go_loopw [] (λwr=>∃(f:Nat)(bs':List BV),fl<=f/\f<=n/\Hid (Prn fl f bs bs')/\Hid (Jz wr cb wj f r bs' lv')/\Hid (Tch (λk=>k=cb\/k=r) w2 wr)) (λwr=>n-(match wr.cell? ⟨cb,1,none⟩ with|some v=>(intOf v).toNat|none=>0))
 case atStart=>exact⟨fl,bs,Ql _,HB.o.1,Prn.start _ _,HR2.o,Te _ _⟩
 case round=>
  obtain⟨f,bs',hlf,hfn,HP,HR,HT⟩:=hrel;have c1:wr.cell? ⟨cb,1,none⟩=some (.int .i64 (f:Int)):=Ja HR.o.row
  by_cases hgo:f<n
  ·have hgi:(f:Int)<(n:Int):=(by omega);have hfl:f<bs'.length:=(by have:=HB.o;rw[HP.o.length];omega);obtain⟨b,hbf⟩:∃b,bs'[f]? =some b:=⟨_,Qd hfl⟩
   have hD:Tch NoB wr wr.drew:=Td _ wr 1;have hRd:=HR.o.next hD;have d1:wr.drew.cell? ⟨cb,1,none⟩=some (.int .i64 (f:Int)):=Ja hRd.row;have d2:wr.drew.cell? ⟨cb,2,none⟩=some (.map (some r)):=Ja hRd.row;have hlk:=Jff hRd.map f b hbf false;have hpu:=JjH hRd.map f hfl (b.1,0,none);have hRs:Jz (wr.drew.setBlocks r (bs'.set f (b.1,0,none))) cb wj f r (bs'.set f (b.1,0,none)) lv':=hRd.set _ rfl;have s1:(wr.drew.setBlocks r (bs'.set f (b.1,0,none))).cell? ⟨cb,1,none⟩=some (.int .i64 (f:Int)):=Ja hRs.row;have s2:(wr.drew.setBlocks r (bs'.set f (b.1,0,none))).cell? ⟨cb,2,none⟩=some (.map (some r)):=Ja hRs.row;have sf:(wr.drew.setBlocks r (bs'.set f (b.1,0,none))).frozen? ⟨cb,1,none⟩=false:=Qg _ _ _ _ _ hRs.row;have HTs:Hid (Tch (λk=>k=cb\/k=r) w2 (wr.drew.setBlocks r (bs'.set f (b.1,0,none)))):=(HT.o.trans hD noE).trans (Tch.setBlocks _ _ _) (λj hj=>.inl (.inr hj));have HPs:Hid (Prn fl (f+1) bs (bs'.set f (b.1,0,none))):=HP.o.step hlf b hbf;have HRs:Hid _:=hRs;clear hD hRd hRs hbf hfl;obtain⟨bh,bu,bq⟩:=b;obtain⟨rv,hrv⟩:∃rv,Jh bq=.pointer rv:=⟨_,rfl⟩
   have hpu:(Instr.mapUpdate 141 (.map (some r)) (.int .i64 (f:Int)) (.agg #[.string bh,.int .i64 0,.pointer none])).run prog wr.drew=.ok () (wr.drew.setBlocks r (bs'.set f (bh,0,none))):=hpu;simp only[bV,hrv]at hlk;clear hrv;generalize bs'.set f (bh,0,none)=bs2 at *;have hfd:∀W,(Instr.field 148 (.agg #[.string bh,.int .i64 (bu:Int),.pointer rv]) 0).run prog W=.ok (.string bh) W:=λW=>by kernel_rfl
   go_upto_region 9 with fail;go_region_held3 (λW=>W.cell? ⟨cb,1,none⟩=some (.int .i64 (f:Int))/\W.cell? ⟨cb,2,none⟩=some (.map (some r))) (go_keep) (fail)
   all_goals go_wp2;have hwr:wrap64 ((f:Int)+1)=((f+1:Nat):Int):=(by have:=HB.o;unfold wrap64;omega);obtain⟨hR3,hT3⟩:=HRs.o.up (f+1);rw[<-hwr]at hR3 hT3;have c3:World.cell? _ ⟨cb,1,none⟩=some (.int .i64 ((f+1:Nat):Int)):=cell_of_row _ _ 1 _ _ _ hR3.row;rw[c3,c1];refine⟨⟨f+1,bs2,by omega,by omega,HPs.o,hR3,HTs.o.trans hT3 (λj hj=>.inl (.inl hj))⟩,?_⟩;simp only[intOf,Int.toNat_natCast];omega
  ·have hge:¬(f:Int)<(n:Int):=(by omega);have hfe:f=n:=(by omega);subst hfe;go_wp2;go_ret;have hne:=HL2.o.ne_row HR2.o;have tm:Tch (λk=>k=cb\/k=r\/some k=lv.ownBlock) w w2:=HT2.o.mono (λj hj=>.inl (hj.elim .inl (λh=>.inr (.inr h))));exact⟨rfl,lv',bs',HP.o,HR.o,HL2.o.tch HT.o (λj hj hS=>hS.elim (λh=>hne.1 (by rw[<-h];exact hj.symm)) (λh=>hne.2 (by rw[<-h];exact hj.symm))),tm.trans HT.o (λj hj=>.inl (hj.elim .inl (λh=>.inr (.inl h)))),HM2.o⟩
theorem JfW(E:Nat->Addr)(hE:Env E w)(h:Jz w cb wj fl r bs lv)(k:Int)(hk:¬((fl:Int)<=k/\k<bs.length)):
  Calls prog 56 #[.pointer (some ⟨cb,0,none⟩),.int .i64 k] w λe w'=>NoTo E 5 w e w':=by
 have HS:Hid (Calls prog 92 #[.pointer (some ⟨cb,0,none⟩),.int .i64 k] w λe w'=>∃t u,e=.returned (.tuple #[.agg #[.int .i64 0,.pointer none],.iface t u])/\Jp E 5 w' (.iface t u)/\Tch NoB w w'):=Jg0 E hE h k hk;clear hE h hk;go_enter func56,ntmps56;go_wp2_with fail;refine HS.o.mono ?_;rintro _ w1⟨t,u,rfl,he,ht⟩;have HT:Hid _:=ht;have HE:Hid _:=he;clear he ht HS;go_wp2_with fail;refine(Xk _ _ _ _).mono ?_;rintro _ _⟨rfl,rfl⟩;go_wp2;go_ret;have tA:=Ta NoB w1 (.cells #[.int .i64 0,.pointer none] 146);have tB:=Ta NoB (w1.alloc (.cells #[.int .i64 0,.pointer none] 146)) (.cells #[.string ⟨#[102,108,111,111,114]⟩,.iface t u] 237);have hp:=Qf (w1.alloc (.cells #[.int .i64 0,.pointer none] 146)) (.cells #[.string ⟨#[102,108,111,111,114]⟩,.iface t u] 237);rw[World.size_alloc]at hp;exact⟨(HT.o.go tA).go tB,_,_,rfl,.wrap _ ⟨#[102,108,111,111,114]⟩ (.iface t u) hp ((HE.o.tch tA (λ_ _ _ _ h=>h)).tch tB (λ_ _ _ _ h=>h))⟩

theorem Ji5(hl:w.cell? ⟨lb,0,none⟩=some (.pointer (some ⟨cb,0,none⟩)))(k:Int)(Q:World->Prop)(h:Calls prog 56 #[.pointer (some ⟨cb,0,none⟩),.int .i64 k] w λe w'=>e=.returned .nilIface/\Q w'):
  Calls prog 28 #[.pointer (some ⟨lb,0,none⟩),.int .i64 k] w λe w'=>e=.returned (.int .i64 0)/\Q w':=by
 have H:Hid (Calls _ _ _ _ _):=h;clear h;go_enter func28,ntmps28;go_wp2_with fail;refine H.out.mono ?_;rintro _ w1⟨rfl,hq⟩;have HQ:Hid (Q w1):=hq;clear hq H;go_wp2_with fail;refine(ZN _).mono ?_;rintro _ _⟨rfl,rfl⟩;go_wp2;go_ret;exact⟨rfl,HQ.o⟩
theorem Jhj{E:Nat->Addr}(hS:∀w',Tch NoB w w'->Env E w'/\Sent E w')(er:Er)(hl:w.cell? ⟨lb,0,none⟩=some (.pointer (some ⟨cb,0,none⟩)))(k:Int)(h:Calls prog 56 #[.pointer (some ⟨cb,0,none⟩),.int .i64 k] w λe w'=>NoTo E (erG er) w e w'):
  Calls prog 28 #[.pointer (some ⟨lb,0,none⟩),.int .i64 k] w λe w'=>e=.returned (.int .i64 (XN er))/\Tch NoB w w':=by
 have H:Hid (Calls _ _ _ _ _):=h;have HS:Hid _:=hS;clear h hS;go_enter func28,ntmps28;go_wp2_with fail;refine H.out.mono ?_;rintro _ w1⟨ht,t,u,rfl,he⟩;have HT:Hid _:=ht;have HR:Hid (Calls _ _ _ _ _):=Jbu er (HS.o w1 ht).1 (HS.o w1 ht).2 t u he;clear ht H he;go_wp2_with fail;refine HR.o.mono ?_;rintro _ w2⟨rfl,ht2⟩;have HT2:Hid _:=ht2;clear ht2 HR;go_wp2;go_ret;exact⟨rfl,HT.o.go HT2.o⟩
theorem Yl.prune{base pn:Nat}{F:Nat->Prop}{ch:Ch}{lg:List UInt8}{lv':Value}(h:Yl wj base pn w lb F fl ch lg cb r bs lv)(hp:pn<134217728){n:Nat}(hf:fl<=n)(hn:n<ch.length){ext:List UInt8}(hx:ext.length<=100)
 (hP:Prn fl n bs bs') (hR:Jz w' cb wj n r bs' lv') (hL:Xm base w' lv' (lg++ext)) (hT:Tch (λk=>k=cb\/k=r\/some k=lv.ownBlock) w w') (hM:Jm w lv.ownBlock lv'.ownBlock) (hbw:base<=w.heap.size):
  ∃F':Nat->Prop,(∀j,F' j->F j\/w.heap.size<=j)/\Yl wj base (pn+1) w' lb F' n ch (lg++ext) cb r bs' lv':=by
 have hnew:∀k,lv'.ownBlock=some k->F k\/w.heap.size<=k:=λk hk=>by
  rcases hM with e|⟨i,e,hi⟩
  ·exact .inl (h.ownG k (by rw[<-e];exact hk))
  ·rw[hk]at e;cases e;exact .inr hi
 have hlne:lb ≠ cb/\lb ≠ r/\¬some lb=lv.ownBlock:=by
  refine⟨λe=>?_,λe=>?_,λe=>?_⟩
  ·have:=h.led;rw[e,h.row.row]at this;simp at this
  ·have:=h.led;rw[e,h.row.map]at this;simp at this
  ·obtain⟨cu,mm,hr⟩:=h.log.kind lb e.symm;rw[h.led]at hr;simp at hr
 refine⟨λj=>(F j/\¬(some j=lv.ownBlock/\¬lv'.ownBlock=some j))\/(w.heap.size<=j/\lv'.ownBlock=some j),λj hj=>hj.imp (λe=>e.1) (λe=>e.1),?_⟩;have hFF:∀j,F j->¬some j=lv.ownBlock->(F j/\¬(some j=lv.ownBlock/\¬lv'.ownBlock=some j))\/(w.heap.size<=j/\lv'.ownBlock=some j):=λj hj hn=>.inl ⟨hj,λe=>hn e.1⟩;have hne:=h.log.ne_row h.row;have hold:∀(i:Nat) b,bs'[i]? =some b->∃b0,bs[i]? =some b0/\b.1=b0.1/\(n<=i->b=b0)/\(i<n->b.2=(0,none)):=λi b hb=>by
  have:=hP i;rw[hb]at this
  by_cases c:fl<=i/\i<n
  ·rw[if_pos c]at this;obtain⟨b0,e1,e2⟩:=Option.map_eq_some_iff.1 this.symm;exact⟨b0,e1,by rw[<-e2],λe=>by omega,λ_=>by rw[<-e2]⟩
  ·rw[if_neg c]at this;exact⟨b,this.symm,rfl,λ_=>rfl,λe=>h.gone i b this.symm (by omega)⟩
 exact {
  led:=(hT.block _ (Jb h.led) (λe=>by rcases e with e|e|e;exact hlne.1 e;exact hlne.2.1 e;exact hlne.2.2 e)).trans h.led
  row:=hR
  log:=hL
  len:=by rw[hP.length,h.len]
  pos:=hn
  most:=h.most
  short:=by rw[Qe];have:=h.short;omega
  few:=by omega
  hdr:=λi b c h1 h2=>by
   obtain⟨b0,e1,e2,_⟩:=hold i b h1;rw[e2];exact h.hdr i b0 c e1 h2
  st:=λi b c h1 h2 h3=>by
   obtain⟨b0,e1,_,e3,_⟩:=hold i b h1;rw[e3 h3];obtain⟨k1,k2,k3⟩:=h.st i b0 c e1 h2 (by omega);have k4:=k2.refine (G:=λj=>F j/\¬(j=cb\/j=r\/some j=lv.ownBlock)) (λj hj hc=>⟨hj,λe=>by
    obtain⟨cc,hc⟩:=hc
    rcases e with rfl|rfl|e
    ·rw[h.row.row]at hc;simp at hc
    ·rw[h.row.map]at hc;simp at hc
    ·obtain⟨cu,mm,hr⟩:=h.log.kind j e.symm;rw[hc]at hr;simp at hr⟩)
   exact⟨k1,(k4.tch hT (λj hj hG=>hG.2 hj)).mono (λj hj=>hFF j hj.1 (λe=>hj.2 (.inr (.inr e)))),k3⟩
  gone:=λi b h1 h2=>by
   obtain⟨b0,_,_,_,e4⟩:=hold i b h1;exact e4 h2
  ownL:=hFF _ h.ownL hlne.2.2
  ownC:=hFF _ h.ownC hne.1
  ownR:=hFF _ h.ownR hne.2
  ownG:=λk hk=>(hnew k hk).imp (λe=>⟨e,λe2=>e2.2 hk⟩) (λe=>⟨e,hk⟩)
  low:=λj hj=>by
   rcases hj with⟨hj,hjn⟩|⟨hj,hc⟩
   ·exact⟨(h.low j hj).1,Qk (h.low j hj).2 hT.size⟩
   ·exact⟨by omega,(hL.bs.own j hc).2⟩
  kind:=λj hj cur T m hr=>by
   rcases hj with⟨hj,hjn⟩|⟨hj,hc⟩
   ·by_cases e:j=cb\/j=r\/some j=lv.ownBlock
    ·rcases e with rfl|rfl|e
     ·rw[hR.row]at hr;simp at hr;exact .inr (.inl hr.2.1.symm)
     ·rw[hR.map]at hr;simp at hr
     ·by_cases e2:lv'.ownBlock=some j
      ·obtain⟨cu',mm',hr2⟩:=hL.kind j e2;rw[hr]at hr2;simp at hr2;exact .inr (.inr (.inr hr2.2.1))
      ·exact absurd ⟨e,e2⟩ hjn
    ·exact h.kind j hj cur T m ((hT.block j (h.low j hj).2 e).symm.trans hr)
   ·obtain⟨cu',mm',hr2⟩:=hL.kind j hc;rw[hr]at hr2;simp at hr2;exact .inr (.inr (.inr hr2.2.1)) }
structure JfI{E:Nat->Addr}{wj base:Nat}(L L':Led E wj base):Prop where
 pin:∀{w:World} {lb:Nat} {F:Nat->Prop} {fl:Nat} {ch:Ch} (n:Nat),L.At w lb F fl ch->Xe E base w->fl<=n->n<ch.length->
  Calls prog 28 #[.pointer (some ⟨lb,0,none⟩),.int .i64 (n:Int)] w λe w'=>e=.returned (.int .i64 0)/\Tch F w w'/\∃F':Nat->Prop,(∀j,F' j->F j\/w.heap.size<=j)/\L'.At w' lb F' n ch
 pout:∀{w:World} {lb:Nat} {F:Nat->Prop} {fl:Nat} {ch:Ch} (h:Int),L.At w lb F fl ch->Xe E base w->¬((fl:Int)<=h/\h<(ch.length:Int))->
  Calls prog 28 #[.pointer (some ⟨lb,0,none⟩),.int .i64 h] w λe w'=>e=.returned (.int .i64 7)/\Tch NoB w w'
theorem Jh2(E:Nat->Addr)(base pn wj:Nat)(hp:pn<134217728):JfI (JbR E base pn wj) (JbR E base (pn+1) wj) where
 pin:=λ{w lb F fl ch} n hA hF hf hn=>by
  obtain⟨⟨hw,lg,cb,r,bs,lv,C⟩,hH⟩:=hA;have hl:w.cell? ⟨lb,0,none⟩=some (.pointer (some ⟨cb,0,none⟩)):=Ja C.led;have hbw:base<=w.heap.size:=by have:=C.low lb C.ownL;omega
  have hsh:=C.short;have hfw:=C.few;have hm:=C.most;refine(Ji5 hl n _ (Jhc E hF.env C.row base hbw lg C.log (by omega) n hf (by rw[C.len];exact hn) (by rw[C.len];omega))).mono λe w' k=>?_;obtain⟨k0,lv',bs',k1,k2,k3,k4,k5⟩:=k;obtain⟨F',hF',C'⟩:=C.prune hp hf hn (by rw[JbI,Jf];simp) k1 k2 k3 k4 k5 hbw;refine⟨k0,k4.mono (λj hj=>.inl ?_),F',hF',⟨hw,_,cb,r,_,lv',C'⟩,hH⟩
  rcases hj with rfl|rfl|e
  ·exact C.ownC
  ·exact C.ownR
  ·exact C.ownG j e.symm
 pout:=λ{w lb F fl ch} h hA hF hh=>by
  obtain⟨⟨_,lg,cb,r,bs,lv,C⟩,_⟩:=hA;have hl:w.cell? ⟨lb,0,none⟩=some (.pointer (some ⟨cb,0,none⟩)):=Ja C.led;exact Jhj (λw' k=>hF.next k) .range hl h (JfW E hF.env C.row h (by rw[C.len];exact hh))
