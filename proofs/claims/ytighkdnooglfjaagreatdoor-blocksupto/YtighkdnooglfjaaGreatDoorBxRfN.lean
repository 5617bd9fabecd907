import Derived.Test.YtighkdnooglfjaaGreatDoorBxRfL
import Derived.Test.YtighkdnooglfjaaGreatDoorBxRfA
namespace Go.Proofs.YtighkdnooglfjaaGreatDoor
open Tryz
set_option maxRecDepth 100000
set_option maxHeartbeats 4000000
open Go.RowKit

def DgC:Prop:=∀(n:Nat) (s:BA) (V:World),1<=n->n<=32->s.size<1152921504606846976->Calls prog 103 #[.int .i64 (n:Int),.string s] V λe w'=>e=.returned (.string (dgW n s.data.toList))/\Tch NoB V w'
def Jbe (l:List Held) (j:Nat) (x:Held):List Held:=(l.set j x).dropLast
theorem Jex (l:List Held) (j:Nat) (hj:j<l.length) (x:Held) (hx:l.getLast? =some x):(Jbe l j x).Perm (l.eraseIdx j):=by
 unfold Jbe
 have hne:l ≠ []:=by rintro rfl;simp at hj
 have hl:l=l.dropLast++[x]:=by
  rw [List.getLast?_eq_some_getLast hne] at hx
  have:=(List.dropLast_concat_getLast hne).symm
  rw [Option.some.inj hx] at this
  exact this
 generalize l.dropLast=m at hl
 subst hl
 by_cases hjm:j<m.length
 ·rw [List.set_append_left _ _ hjm,List.dropLast_concat,List.eraseIdx_append_of_lt_length hjm,List.set_eq_take_append_cons_drop,if_pos hjm,List.eraseIdx_eq_take_drop_succ,Qs]
  exact List.Perm.append_left _ (List.perm_append_singleton _ _).symm
 ·obtain rfl:j=m.length:=by simp at hj;omega
  rw [List.set_append_right _ _ (Ql _),Nat.sub_self,List.eraseIdx_append_of_length_le (Ql _),Nat.sub_self]
  simp
theorem Book.perm {wj:Nat} {st:Option Tr} {l l':List Held} (B:Book wj st l) (h:l.Perm l'):Book wj st l':=
 ⟨B.wf,λx hx=>B.ok x (h.mem_iff.2 hx),(h.map _).nodup_iff.1 B.nodup,λk o=>by rw [B.mem];exact ⟨λ⟨x,hx,h2⟩=>⟨x,h.mem_iff.1 hx,h2⟩,λ⟨x,hx,h2⟩=>⟨x,h.mem_iff.2 hx,h2⟩⟩⟩
def Ja9 (os:List (Nat×Nat)):Except Er (Option Tr×List (Nat×Nat))->Except Er (Option Tr×List (Nat×Nat))
 | .error e=>.error e
 | .ok (s,q)=>.ok (s,os++q)
theorem Jgm (os:List (Nat×Nat)) (c:BA×Int) (r:List (BA×Int)) (st st':Option Tr) (o:Nat×Nat) (h:JM st (Jd c)=.ok (st',o)):Ja9 os (JU (c :: r) st)=Ja9 (os++[o]) (JU r st'):=by
 simp only [JU,h]
 cases JU r st' with
 | error e=>rfl
 | ok p=>simp [Ja9]
theorem JcR {b1 b2:Nat} {w:World} {v v':Value} {l:List Held} {l':List (Nat×Nat)} (h:ROwn b1 w v l) (h':OOwn b2 w v' l'):∀j,v.ownBlock=some j->v'.ownBlock ≠ some j:=by
 intro j h1 h2
 obtain ⟨_,⟨rfl,_⟩ | ⟨g,cap,cur,rfl,_,hrow,_⟩⟩:=h
 ·cases h1
 obtain ⟨_,⟨rfl,_⟩ | ⟨g',cap',cur',rfl,_,hrow',_⟩⟩:=h'
 ·cases h2
 cases h1
 cases h2
 rw [hrow] at hrow'
 simp at hrow'
def RAp (wj:Nat) (st:Option Tr) (l:List Held) (t:TxL) (w:World) (e:Ending) (w':World):Prop:=
 Tch NoB w w'/\match JD (dgW wj) st t with
 | .error er=>e=.returned (.tuple #[.slice none 0 0,.int .i64 (Xj er)])
 | .ok st'=>∃v' l',e=.returned (.tuple #[v',.int .i64 0])/\ROwn w.heap.size w' v' l'/\Book wj st' l'/\l'.length<=l.length+3
theorem JhT (hD:DgC) (wj:Nat) (hw1:1<=wj) (hw:wj<=32) (v:Value) (l:List Held) (st:Option Tr) (B:Nat) (v1 v2:Value) (t:TxL) (w:World) (h:RhAt w v l) (hB:Book wj st l) (hk:TxOk wj t) (h1:XL B w v1 t.1) (h2:XE B w v2 t.2) (hl:l.length<=900000000):
  Calls prog 255 #[.int .i64 (wj:Int),v,.agg #[v1,v2]] w (RAp wj st l t w):=by
 obtain ⟨a0,c0,rfl⟩:=h.shape
 obtain ⟨a1,c1,rfl⟩:=h1.shape
 obtain ⟨a2,c2,rfl⟩:=h2.shape
 have l1:=hk.ins
 have l2:=hk.made
 have HK:Hid (TxOk wj t):=hk
 have H:Hid (RhAt _ _ _):=h
 have H1:Hid (XL _ _ _ _):=h1
 have H2:Hid (XE _ _ _ _):=h2
 have HBK:Hid (Book wj st l):=hB
 have HD:Hid DgC:=hD
 clear hk h1 h2 h hB hD
 have TB:Hid (Tch NoB w (w.alloc (.cells #[.slice a1 t.1.length c1,.slice a2 t.2.length c2] 98))):=Ta NoB w _
 go_enter func255,ntmps255
 go_wp2_with (at_builtin;refine Ys rfl _ _ rfl rfl (ROwn.nil (w.heap.size+1) _) _ l rfl (H.out.tch0 TB.out) (by simp;omega) (by simp) ?_;intro vn w1 hown hg;have HOW:Hid (ROwn _ w1 vn l):=hown;have HG:Hid (World.grownBy _ w1 _):=hg;clear hown hg)
 have T1:Hid (Tch NoB w w1):=ROwn.grow (ROwn.nil (w.heap.size+1) _) HG.o (by omega) TB.out
 have R1:Hid (w1.heap[w.heap.size]? =some (.cells #[.slice a1 t.1.length c1,.slice a2 t.2.length c2] 98)):=(HG.o.block _ (by simp) (λe=>by cases e)).trans (Qf _ _)
 go_loopw [8,9,10] (λvn vi i wr=>∃(k:Nat) (lk:List Held) (sk:Option Tr) (os:List (Nat×Nat)),k<=t.1.length/\i=.int .i64 k/\Hid (os.length=k)/\Hid (ROwn (w.heap.size+1) wr vn lk)/\Hid (OOwn (w.heap.size+1) wr vi os)/\Hid (Book wj sk lk)/\Hid (JU t.1 st=Ja9 os (JU (t.1.drop k) sk))/\lk.length<=l.length/\Hid (Tch NoB w wr)/\Hid (wr.heap[w.heap.size]? =some (.cells #[.slice a1 t.1.length c1,.slice a2 t.2.length c2] 98))) (λ_ _ i _=>t.1.length - (intOf i).toNat)
 case atStart=>
  exact ⟨0,l,st,[],by omega,rfl,rfl,HOW.o,OOwn.nil _ _,HBK,(by cases h:JU t.1 st <;> simp [Ja9,h]:JU t.1 st=Ja9 [] (JU (t.1.drop 0) st)),Ql _,T1.out,R1.o⟩
 case round=>
  clear HOW HG T1 R1 TB
  obtain ⟨k,lk,sk,os,hk,rfl,HOS,HOW,HOO,HBK2,HS,hlk,HT,HR⟩:=hrel
  have d0:wr.cell? ⟨w.heap.size,0,none⟩=some (.slice a1 t.1.length c1):=Ja HR.o
  by_cases hlt:k<t.1.length
  ·rcases H1.o with ⟨e,e2⟩ | ⟨gi,oi,cc,e,_,hgi,hcell⟩
   ·rw [e2] at hlt;simp at hlt
   simp only [Qy,true_and] at e
   obtain ⟨rfl,rfl⟩:=e
   obtain ⟨f0,f1⟩:=hcell k hlt
   have q0:=(HT.o.cell (p:=⟨gi,oi+k * 2,none⟩) hgi (λh=>h)).trans f0
   have q1:=(HT.o.cell (p:=⟨gi,oi+k * 2+1,none⟩) hgi (λh=>h)).trans f1
   have hlti:(k:Int)<(t.1.length:Int):=by omega
   have HDP:Hid (t.1.drop k=t.1[k] :: t.1.drop (k+1)):=List.drop_eq_getElem_cons hlt
   have hck:=HK.o.coins _ (Qx hlt)
   have HKT:Hid (∀V,Calls prog 105 #[.agg #[.string t.1[k].1,.int .i64 t.1[k].2]] V λe w'=>e=.returned (.string (keyS t.1[k]))/\Tch NoB V w'):=λV=>Jah t.1[k] V hck.2.1 (by have:=hck.2.2;omega) (by rw [hck.1];omega)
   have HF:Hid (∀V,Tch NoB wr V->Calls prog 263 #[u8,.string (keyS t.1[k])] V λe w'=>e=.returned (.int .i64 (XF lk t.1[k]))/\Tch NoB V w'):=λV hV=>JgX wj u8 lk t.1[k] V (HOW.o.at.tch0 hV) (by omega) (λx hx=>(HBK2.o.ok x hx).1) hck
   have HWO:=HBK2.o.without hck
   clear hcell f0 f1 hck
   cases hf:Xr lk t.1[k] with
   | none=>
    rw [hf] at HWO
    simp only at HWO
    have HZ:Hid (XF lk t.1[k]= -1):=by show XF _ _=_;unfold XF;rw [hf]
    have HN:Hid (JD (dgW wj) st t=.error .input):=by
     show JD _ _ _=_
     unfold JD
     rw [HS.o,HDP.o]
     simp only [JU,HWO,Ja9]
    clear HWO hf HDP HS
    obtain ⟨va,vc,rfl⟩:=HOW.o.shape
    obtain ⟨vb,vd,hvb⟩:=HOO.o.shape
    rw [HOS.o] at hvb
    subst hvb
    rw [HZ.o] at HF
    generalize keyS t.1[k]=ks at *
    generalize t.1[k]=c at *
    go_wp2_with (first | (go_at_call 105;refine (HKT.o _).mono ?_;rintro _ w1 ⟨rfl,ht1⟩;have HT1:Hid (Tch _ wr w1):=ht1;clear ht1) | (go_at_call 263;refine (HF.o _ HT1.o).mono ?_;rintro _ w2 ⟨rfl,ht2⟩;have HT2:Hid (Tch NoB wr w2):=HT1.o.trans ht2 noE;clear ht2))
    go_ret2
    refine ⟨HT.o.trans HT2.o noE,?_⟩
    rw [HN.o]
    rfl
   | some j=>
    obtain ⟨hj,_⟩:=JaA hf
    have HZ:Hid (XF lk t.1[k]=(j:Int)):=by show XF _ _=_;unfold XF;rw [hf]
    rw [hf] at HWO
    simp only at HWO
    obtain ⟨sk1,hw1',hbk1⟩:=HWO
    rw [Qn,Qd hj,Option.getD_some] at hw1'
    have HN:Hid (JU t.1 st=Ja9 (os++[lk[j].2]) (JU (t.1.drop (k+1)) sk1)):=by
     show JU t.1 st=_
     rw [HS.o,HDP.o]
     exact Jgm _ _ _ _ _ _ hw1'
    have HB1:Hid (Book wj sk1 (lk.eraseIdx j)):=hbk1
    clear hw1' hbk1 hf HDP HS
    obtain ⟨g,cap,hvn,hcap⟩:∃g cap,u8=.slice (some ⟨g,0,none⟩) lk.length cap/\lk.length<=cap:=by
     obtain ⟨_,⟨_,h0⟩ | ⟨g,cap,cur,rfl,_,_,hc,_⟩⟩:=HOW.o
     ·omega
     ·exact ⟨g,cap,rfl,hc⟩
    subst hvn
    obtain ⟨vb,vd,hvb⟩:=HOO.o.shape
    rw [HOS.o] at hvb
    subst hvb
    rw [HZ.o] at HF
    generalize keyS t.1[k]=ks at *
    generalize t.1[k]=c at *
    have hj0:¬(j:Int)<0:=by omega
    have hji:(j:Int)<(lk.length:Int):=by omega
    obtain ⟨m,hm⟩:∃m:Nat,lk.length=m+1:=⟨lk.length - 1,by omega⟩
    have hll1:IntKind.i64.wrap ((lk.length:Int) - 1)=(m:Int):=by rw [w63 _ (by omega) (by omega)];omega
    have hmi:(m:Int)<(lk.length:Int):=by omega
    have HLM:Hid (lk.length=m+1):=hm
    have hmc:(m:Int)<=(cap:Int):=by omega
    obtain ⟨x,hx⟩:∃x:Held,lk[j]=x:=⟨_,rfl⟩
    obtain ⟨y,hy⟩:∃y:Held,lk[m]=y:=⟨_,rfl⟩
    have HA:Hid (∀V,Tch NoB wr V->Za V g (j * 3) x/\Za V g (m * 3) y):=by
     intro V hV
     rcases HOW.o.at.tch0 hV with ⟨e,_⟩ | ⟨g',o,c',e,hg,hc⟩
     ·cases e
     ·cases e
      have h1:=hc j hj
      have h2:=hc m (by omega)
      rw [Nat.zero_add] at h1 h2
      rw [hx] at h1
      rw [hy] at h2
      exact ⟨h1,h2⟩
    rw [hx] at HN
    have HXY:Hid (lk[j]? =some x/\lk[m]? =some y):=⟨by rw [Qd hj,hx],by rw [Qd (by omega),hy]⟩
    clear hx hy hm
    obtain ⟨⟨xk⟩,xa,xo⟩:=x
    have HSZ:Hid (w.heap.size+1<=wr.heap.size):=(Jb HR.o)
    have HLO:Hid (os.length+1<=1000000000):=by show os.length+1<=_;rw [HOS.o];omega
    go_upto_region 11 with (first | (go_at_call 105;refine (HKT.o _).mono ?_;rintro _ w1 ⟨rfl,ht1⟩;have HT1:Hid (Tch _ wr w1):=ht1;clear ht1) | (go_at_call 263;refine (HF.o _ HT1.o).mono ?_;rintro _ w2 ⟨rfl,ht2⟩;have HT2:Hid (Tch NoB wr w2):=HT1.o.trans ht2 noE;have cx:=(HA.o w2 HT2.o).1;obtain ⟨cx0,cx1,cx2⟩:=cx;clear ht2) | (at_builtin;refine Jbl rfl _ _ rfl rfl (HOO.o.tch (HT2.o.trans (Ta NoB w2 _) (λ_ h=>.inl h)) (λ_ _ h=>h)) _ _ [(xa,xo)] rfl (JgT w2 (xa,xo)) HLO.o (Qm HSZ.o (Qm HT2.o.size (Ta NoB w2 _).size)) ?_;intro v3 w3 hown3 hg3;have HOO3:Hid (OOwn _ w3 v3 _):=hown3;have HG3:Hid (World.grownBy _ w3 _):=hg3;clear hown3 hg3))
    have T23:Hid (Tch (λj=>some j=(Value.slice vb k vd).ownBlock) wr w3):=((HT2.o.trans (Ta NoB w2 _) (λ_ h=>.inl h)).mono noE).trans (Tg HG3.o) (λ_ h=>.inl h)
    have HOW3:Hid (ROwn (w.heap.size+1) w3 (.slice (some ⟨g,0,none⟩) lk.length cap) lk):=HOW.o.tch T23.out (λj hj e=>JcR HOW.o HOO.o j hj e.symm)
    have HT3:Hid (Tch NoB w w3):=HT.o.trans T23.out (λj hj=>.inr (by have:=(HOO.o.own j hj.symm).1;omega))
    have HR3:Hid (w3.heap[w.heap.size]? =some (.cells #[.slice (some ⟨gi,oi,none⟩) t.1.length c1,.slice a2 t.2.length c2] 98)):=(T23.out.block _ HSZ.o (λe=>by have:=(HOO.o.own _ e.symm).1;omega)).trans HR.o
    have HAP3:Hid (v3.ownBlock ≠ some g):=JcR HOW3.o HOO3.o g rfl
    have HCY:Hid (Za w3 g (m * 3) y):=by
     rcases HOW3.o.at with ⟨e,_⟩ | ⟨g',o,c',e,hg,hc⟩
     ·cases e
     ·cases e
      have h2:=hc m (by have:=HLM.o;omega)
      have h3:=HXY.o.2
      rw [Qd (by have:=HLM.o;omega),Qh] at h3
      rw [Nat.zero_add,h3] at h2
      exact h2
    obtain ⟨cy0,cy1,cy2⟩:=HCY.o
    have HJ:Hid (j<lk.length):=hj
    clear HT HR HOW HF HKT T23 HG3 HT1 HT2 HOO HA q0 q1 d0 cx0 cx1 cx2
    go_wp2_with (first | (refine Jb5 rfl _ _ rfl HOW3.o j HJ.o y rfl rfl ?_;intro w4 hown4 ht4;have HOW4:Hid (ROwn _ w4 _ _):=hown4;have HT4:Hid (Tch _ w3 w4):=ht4;clear hown4 ht4))
    have HBG:Hid (w.heap.size+1<=g):=(HOW3.o.own g rfl).1
    go_roundw
    case rel=>
     refine ⟨k+1,Jbe lk j y,sk1,os++[(xa,xo)],by omega,by go_num,(by simp [HOS.o]:(os++[(xa,xo)]).length=k+1),?_,HOO3.o.tch HT4.o (λi hi e=>HAP3.o (by rw [hi,e])),?_,HN,?_,?_,?_⟩
     ·have:=HOW4.o.take m (by omega)
      unfold Jbe
      rw [List.dropLast_eq_take,List.length_set,HLM.o]
      exact this
     ·have h3:=HXY.o.2
      refine HB1.o.perm (Jex lk j HJ.o y ?_).symm
      rw [List.getLast?_eq_getElem?,HLM.o]
      exact h3
     ·unfold Jbe
      rw [List.length_dropLast,List.length_set]
      omega
     ·exact HT3.o.trans HT4.o (λi hi=>.inr (by have:=HBG.o;subst hi;omega))
     ·exact (HT4.o.block _ (Jb HR3.o) (λe=>by have:=HBG.o;omega)).trans HR3.o
    case measure=>simp [intOf];omega
  ·have HK1:Hid (k=t.1.length):=(by omega:k=t.1.length)
   have hge:¬(k:Int)<(t.1.length:Int):=by omega
   have HSP:Hid (JU t.1 st=.ok (sk,os)):=by
    show JU t.1 st=_
    rw [HS.o,HK1.o,List.drop_length]
    simp [JU,Ja9]
   have HTT:Hid (∀W,Tch NoB wr W->Calls prog 327 #[.agg #[.slice a1 t.1.length c1,.slice a2 t.2.length c2]] W λe w'=>e=.returned (.string ⟨(txB t).toArray⟩)/\Tch NoB W w'):=λW hW=>Jfp wj hw B _ _ t HK.o W ((H1.o.tch HT.o noE).tch hW noE) ((H2.o.tch HT.o noE).tch hW noE)
   have HTL:Hid ((txB t).length<=200):=Jc5 wj hw t HK.o
   have d1:wr.cell? ⟨w.heap.size,1,none⟩=some (.slice a2 t.2.length c2):=Ja HR.o
   generalize hX:txB t=X at *
   have HXX:Hid (txB t=X):=hX
   clear hX HS
   have hadd:=JZ [84] X (by have:=HTL.o;simp;omega)
   have hadd':∀W,(Op.stringOp .add (⟨#[84]⟩:BA) ⟨X.toArray⟩).run prog W=.ok (.string ⟨(84 :: X).toArray⟩) W:=hadd
   have HDG:Hid (∀W,Calls prog 103 #[.int .i64 (wj:Int),.string ⟨(84 :: X).toArray⟩] W λe w'=>e=.returned (.string (dgW wj (84 :: X)))/\Tch NoB W w'):=λW=>HD.o wj ⟨(84 :: X).toArray⟩ W hw1 hw (by rw [Jk];have:=HTL.o;simp;omega)
   clear hadd
   obtain ⟨S,hS⟩:∃S:BA,S=⟨(84 :: X).toArray⟩:=⟨_,rfl⟩
   rw [<-hS] at hadd' HDG
   obtain ⟨id,hid⟩:∃id,dgW wj (84 :: X)=id:=⟨_,rfl⟩
   have HIDS:Hid (id.size=wj):=(by rw [<-hid];exact Jq wj hw _:id.size=wj)
   have HIDX:Hid (dgW wj (84 :: X)=id):=hid
   rw [hid] at HDG
   clear hid hS
   obtain ⟨vb,vd,hvb⟩:=HOO.o.shape
   rw [HOS.o] at hvb
   subst hvb
   have HR1:Hid (∀W,Tch NoB wr W->W.heap[w.heap.size]? =some (.cells #[.slice a1 t.1.length c1,.slice a2 t.2.length c2] 98)):=λW hW=>(hW.block _ (Jb HR.o) (λh=>h)).trans HR.o
   go_upto_region 14 with (first | (go_at_call 327;refine (HTT.o _ (Te _ _)).mono ?_;rintro _ w1 ⟨rfl,ht1⟩;have HT1:Hid (Tch NoB wr w1):=ht1;clear ht1) | (go_at_call 103;refine (HDG.o _).mono ?_;rintro _ wA ⟨rfl,ht2⟩;have HT2:Hid (Tch NoB wr wA):=HT1.o.trans ht2 noE;clear ht2))
   have HTA:Hid (Tch NoB w wA):=HT.o.trans HT2.o noE
   have HRA:Hid (wA.heap[w.heap.size]? =some (.cells #[.slice a1 t.1.length c1,.slice a2 t.2.length c2] 98)):=HR1.o wA HT2.o
   have HOWA:Hid (ROwn (w.heap.size+1) wA u8 lk):=HOW.o.tch HT2.o (λ_ _ h=>h)
   have HOOA:Hid (OOwn (w.heap.size+1) wA (.slice vb k vd) os):=HOO.o.tch HT2.o (λ_ _ h=>h)
   clear HTT HDG hadd' HTL HT HT2 HR HR1 HT1 HOW HOO d0 d1 hge
   go_wp2
   go_loopw [8,13] (λvn i wr=>∃(q:Nat) (lj:List Held) (sj:Option Tr),q<=t.2.length/\i=.int .i64 q/\Hid (ROwn (w.heap.size+1) wr vn lj)/\Hid (OOwn (w.heap.size+1) wr (.slice vb k vd) os)/\Hid (Book wj sj lj)/\Hid (Jv id 0 t.2 sk=Jv id q (t.2.drop q) sj)/\lj.length<=lk.length+q/\Hid (Tch NoB w wr)/\Hid (wr.heap[w.heap.size]? =some (.cells #[.slice a1 t.1.length c1,.slice a2 t.2.length c2] 98))) (λ_ i _=>t.2.length - (intOf i).toNat)
   case atStart=>exact ⟨0,lk,sk,by omega,rfl,HOWA,HOOA,HBK2,rfl,by omega,HTA,HRA⟩
   case round=>
    clear HOWA HTA HRA HOOA HBK2
    obtain ⟨q,lj,sj,hq,rfl,HOW,HOO,HBJ,HRC,hlj,HT,HR⟩:=hrel
    have d1:wr.cell? ⟨w.heap.size,1,none⟩=some (.slice a2 t.2.length c2):=Ja HR.o
    by_cases hlt:q<t.2.length
    ·rcases H2.o with ⟨e,e2⟩ | ⟨gi,oi,cc,e,_,hgi,hcell⟩
     ·rw [e2] at hlt;simp at hlt
     simp only [Qy,true_and] at e
     obtain ⟨rfl,rfl⟩:=e
     obtain ⟨f0,f1⟩:=hcell q hlt
     have HDP:Hid (t.2.drop q=t.2[q] :: t.2.drop (q+1)):=List.drop_eq_getElem_cons hlt
     have HOK2:=HK.o.outs _ (Qx hlt)
     have hlti:(q:Int)<(t.2.length:Int):=by omega
     have hck:Jo wj (id,(q:Int)):=⟨HIDS.o,by omega,by show (q:Int)<3;omega⟩
     have HKT:Hid (∀V,Calls prog 105 #[.agg #[.string id,.int .i64 (q:Int)]] V λe w'=>e=.returned (.string (keyS (id,(q:Int))))/\Tch NoB V w'):=λV=>Jah (id,(q:Int)) V hck.2.1 (by have:=hck.2.2;omega) (by rw [hck.1];omega)
     have HF:Hid (∀V,Tch NoB wr V->Calls prog 263 #[u8,.string (keyS (id,(q:Int)))] V λe w'=>e=.returned (.int .i64 (XF lj (id,(q:Int))))/\Tch NoB V w'):=λV hV=>JgX wj u8 lj (id,(q:Int)) V (HOW.o.at.tch0 hV) (by omega) (λx hx=>(HBJ.o.ok x hx).1) hck
     have HWI:=HBJ.o.with hck HOK2
     have HFC:Hid (∀V,Tch NoB wr V->V.cell? ⟨w.heap.size,1,none⟩=some (.slice (some ⟨gi,oi,none⟩) t.2.length c2)/\V.cell? ⟨gi,oi+q * 2,none⟩=some (.int .u64 ((t.2[q].1:Nat):Int))/\V.cell? ⟨gi,oi+q * 2+1,none⟩=some (.int .u8 ((t.2[q].2:Nat):Int))):=λV hV=>by
      have hVw:Tch NoB w V:=HT.o.trans hV noE
      exact ⟨Ja ((hV.block _ (Jb HR.o) (λh=>h)).trans HR.o),(hVw.cell (p:=⟨gi,oi+q * 2,none⟩) hgi (λh=>h)).trans f0,(hVw.cell (p:=⟨gi,oi+q * 2+1,none⟩) hgi (λh=>h)).trans f1⟩
     clear hcell f0 f1 HOK2 hck
     obtain ⟨⟨oa,oo⟩,ho⟩:∃o,t.2[q]=o:=⟨_,rfl⟩
     rw [ho] at HFC HWI HDP
     clear ho
     cases hf:Xr lj (id,(q:Int)) with
     | some j=>
      rw [hf] at HWI
      simp only at HWI
      have HZ:Hid (XF lj (id,(q:Int))=(j:Int)):=by show XF _ _=_;unfold XF;rw [hf]
      have HN:Hid (JD (dgW wj) st t=.error .exist):=by
       show JD _ _ _=_
       unfold JD
       rw [HSP.o,HXX.o,HIDX.o]
       simp only [HRC.o,HDP.o,Jv,HWI]
      have hj0:(0:Int)<=(j:Int):=by omega
      clear HWI hf HDP HRC
      obtain ⟨va,vc,rfl⟩:=HOW.o.shape
      rw [HZ.o] at HF
      generalize keyS (id,(q:Int))=ks at *
      go_wp2_with (first | (go_at_call 105;refine (HKT.o _).mono ?_;rintro _ w1 ⟨rfl,ht1⟩;have HT1:Hid (Tch _ wr w1):=ht1;clear ht1) | (go_at_call 263;refine (HF.o _ HT1.o).mono ?_;rintro _ w2 ⟨rfl,ht2⟩;have HT2:Hid (Tch NoB wr w2):=HT1.o.trans ht2 noE;clear ht2))
      go_ret2
      refine ⟨HT.o.trans HT2.o noE,?_⟩
      rw [HN.o]
      rfl
     | none=>
      rw [hf] at HWI
      simp only at HWI
      obtain ⟨sj1,hwi,hbj1⟩:=HWI
      have HZ:Hid (XF lj (id,(q:Int))= -1):=by show XF _ _=_;unfold XF;rw [hf]
      have HN:Hid (Jv id 0 t.2 sk=Jv id (q+1) (t.2.drop (q+1)) sj1):=by
       show Jv _ _ _ _=_
       rw [HRC.o,HDP.o]
       simp only [Jv,hwi]
      have HB1:Hid (Book wj sj1 (lj++[((id,(q:Int)),(oa,oo))])):=hbj1
      clear hwi hbj1 hf HDP HRC
      obtain ⟨va,vc,hva⟩:=HOW.o.shape
      subst hva
      rw [HZ.o] at HF
      have HSZ:Hid (w.heap.size+1<=wr.heap.size):=(Jb HR.o)
      have HLL:Hid (lj.length+1<=1000000000):=(by omega:lj.length+1<=1000000000)
      have HNEW:Hid (∀W:World,RhAt (W.alloc (.cells #[.string (keyS (id,(q:Int))),.int .u64 (oa:Int),.int .u8 (oo:Int)] 202)) (.slice (some ⟨W.heap.size,0,none⟩) 1 1) [((id,(q:Int)),(oa,oo))]):=λW=>Jgj W ((id,(q:Int)),(oa,oo))
      generalize keyS (id,(q:Int))=ks at *
      go_wp2_with (first | (go_at_call 105;refine (HKT.o _).mono ?_;rintro _ w1 ⟨rfl,ht1⟩;have HT1:Hid (Tch _ wr w1):=ht1;clear ht1) | (go_at_call 263;refine (HF.o _ HT1.o).mono ?_;rintro _ w2 ⟨rfl,ht2⟩;have HT2:Hid (Tch NoB wr w2):=HT1.o.trans ht2 noE;obtain ⟨y0,y1,y2⟩:=HFC.o w2 HT2.o;clear ht2) | (at_builtin;refine Ys rfl _ _ rfl rfl (HOW.o.tch (HT2.o.trans (Ta NoB w2 _) (λ_ h=>.inl h)) (λ_ _ h=>h)) _ [((id,(q:Int)),(oa,oo))] rfl (HNEW.o w2) HLL.o (Qm HSZ.o (Qm HT2.o.size (Ta NoB w2 _).size)) ?_;intro v3 w3 hown3 hg3;have HOW3:Hid (ROwn _ w3 v3 _):=hown3;have HG3:Hid (World.grownBy _ w3 _):=hg3;clear hown3 hg3))
      go_roundw
      case rel=>
       have T23:Tch (λj=>some j=(Value.slice va lj.length vc).ownBlock) wr w3:=((HT2.o.trans (Ta NoB w2 _) (λ_ h=>.inl h)).mono noE).trans (Tg HG3.o) (λ_ h=>.inl h)
       refine ⟨q+1,lj++[((id,(q:Int)),(oa,oo))],sj1,by omega,by go_num,HOW3,HOO.o.tch T23 (λi hi e=>JcR HOW.o HOO.o i e.symm hi),HB1,HN,by simp;omega,HT.o.trans T23 (λj hj=>.inr (by have:=(HOW.o.own j hj.symm).1;omega)),(T23.block _ HSZ.o (λe=>by have:=(HOW.o.own _ e.symm).1;omega)).trans HR.o⟩
      case measure=>simp [intOf];omega
    ·have HQ:Hid (q=t.2.length):=(by omega:q=t.2.length)
     have hge:¬(q:Int)<(t.2.length:Int):=by omega
     have HRV:Hid (Jv id 0 t.2 sk=.ok sj):=by
      show Jv _ _ _ _=_
      rw [HRC.o,HQ.o,List.drop_length]
      rfl
     have HAP1:Hid (JD (dgW wj) st t=if Xb os t.2 then .error .sum else .ok sj):=by
      show JD _ _ _=_
      unfold JD
      rw [HSP.o,HXX.o,HIDX.o]
      simp only [HRV.o]
     have HOI:Hid (∀V,Tch NoB wr V->Calls prog 328 #[.slice vb k vd] V λe w'=>e=.returned (.bool (decide (18446744073709551616<=Jn os os.length)))/\Tch NoB V w'):=λV hV=>Jjw _ _ os V (HOO.o.tch hV (λ_ _ h=>h)).at.raw (by rw [HOS.o];omega)
     have HOT:Hid (∀V,Tch NoB wr V->Calls prog 328 #[.slice a2 t.2.length c2] V λe w'=>e=.returned (.bool (decide (18446744073709551616<=Jn t.2 t.2.length)))/\Tch NoB V w'):=λV hV=>Jjw _ _ t.2 V (H2.o.tch (HT.o.trans hV noE) noE) (by omega)
     have HAI:Hid (∀V,Tch NoB wr V->Calls prog 329 #[.slice vb k vd] V λe w'=>e=.returned (.int .u64 ((Jn os os.length % 18446744073709551616:Nat):Int))/\Tch NoB V w'):=λV hV=>JgU _ _ os V (HOO.o.tch hV (λ_ _ h=>h)).at.raw (by rw [HOS.o];omega)
     have HAT:Hid (∀V,Tch NoB wr V->Calls prog 329 #[.slice a2 t.2.length c2] V λe w'=>e=.returned (.int .u64 ((Jn t.2 t.2.length % 18446744073709551616:Nat):Int))/\Tch NoB V w'):=λV hV=>JgU _ _ t.2 V (H2.o.tch (HT.o.trans hV noE) noE) (by omega)
     have HFC:Hid (∀V,Tch NoB wr V->V.cell? ⟨w.heap.size,1,none⟩=some (.slice a2 t.2.length c2)):=λV hV=>Ja ((hV.block _ (Jb HR.o) (λh=>h)).trans HR.o)
     obtain ⟨va,vc,hva⟩:=HOW.o.shape
     subst hva
     have HBS:Hid (Xb os t.2↔(18446744073709551616<=Jn os os.length\/18446744073709551616<=Jn t.2 t.2.length\/Jn os os.length<Jn t.2 t.2.length)):=Iff.rfl
     have HEND:Hid (∀V,Tch NoB wr V->¬Xb os t.2->RAp wj st l t w (.returned (.tuple #[.slice va lj.length vc,.int .i64 0])) V):=λV hV hb=>by
      refine ⟨HT.o.trans hV noE,?_⟩
      rw [HAP1.o,if_neg hb]
      have h5:=HOW.o.tch hV (λ_ _ h=>h)
      refine ⟨_,lj,rfl,?_,HBJ.o,by omega⟩
      obtain ⟨p1,p2 | ⟨g,cap,cur,p2,p3,p4⟩⟩:=h5
      ·exact ⟨p1,.inl p2⟩
      ·exact ⟨p1,.inr ⟨g,cap,cur,p2,by omega,p4⟩⟩
     have HSUM:Hid (∀V,Tch NoB wr V->Xb os t.2->RAp wj st l t w (.returned (.tuple #[.slice none 0 0,.int .i64 5])) V):=λV hV hb=>by
      refine ⟨HT.o.trans hV noE,?_⟩
      rw [HAP1.o,if_pos hb]
      rfl
     clear HAP1 HRV HRC
     generalize Jn os os.length=S1 at *
     generalize Jn t.2 t.2.length=S2 at *
     by_cases b1:18446744073709551616<=S1
     ·rw [decide_eq_true b1] at HOI
      have HB:Hid (Xb os t.2):=HBS.o.2 (.inl b1)
      go_wp2_with (first | (go_at_call 328;refine (HOI.o _ (Te _ _)).mono ?_;rintro _ w1 ⟨rfl,ht1⟩;have HT1:Hid (Tch NoB wr w1):=ht1;clear ht1))
      go_ret2
      exact HSUM.o _ HT1.o HB.o
     ·rw [decide_eq_false b1] at HOI
      by_cases b2:18446744073709551616<=S2
      ·rw [decide_eq_true b2] at HOT
       have HB:Hid (Xb os t.2):=HBS.o.2 (.inr (.inl b2))
       go_wp2_with (first | (go_at_call_of 328 (Value.slice vb k vd);refine (HOI.o _ (Te _ _)).mono ?_;rintro _ w1 ⟨rfl,ht1⟩;have HT1:Hid (Tch NoB wr w1):=ht1;have y1:=HFC.o w1 ht1;clear ht1) | (go_at_call 328;refine (HOT.o _ HT1.o).mono ?_;rintro _ w2 ⟨rfl,ht2⟩;have HT2:Hid (Tch NoB wr w2):=HT1.o.trans ht2 noE;clear ht2))
       go_ret2
       exact HSUM.o _ HT2.o HB.o
      ·rw [decide_eq_false b2] at HOT
       rw [Nat.mod_eq_of_lt (by omega)] at HAI HAT
       by_cases b3:S1<S2
       ·have b3i:(S1:Int)<(S2:Int):=by omega
        have HB:Hid (Xb os t.2):=HBS.o.2 (.inr (.inr b3))
        go_wp2_with (first | (go_at_call_of 328 (Value.slice vb k vd);refine (HOI.o _ (Te _ _)).mono ?_;rintro _ w1 ⟨rfl,ht1⟩;have HT1:Hid (Tch NoB wr w1):=ht1;have y1:=HFC.o w1 ht1;clear ht1) | (go_at_call 328;refine (HOT.o _ HT1.o).mono ?_;rintro _ w2 ⟨rfl,ht2⟩;have HT2:Hid (Tch NoB wr w2):=HT1.o.trans ht2 noE;have y2:=HFC.o w2 HT2.o;clear ht2) | (go_at_call_of 329 (Value.slice vb k vd);refine (HAI.o _ HT3.o).mono ?_;rintro _ w4 ⟨rfl,ht4⟩;have HT4:Hid (Tch NoB wr w4):=HT3.o.trans ht4 noE;clear ht4) | (go_at_call 329;refine (HAT.o _ HT2.o).mono ?_;rintro _ w3 ⟨rfl,ht3⟩;have HT3:Hid (Tch NoB wr w3):=HT2.o.trans ht3 noE;clear ht3))
        go_ret2
        exact HSUM.o _ HT4.o HB.o
       ·have b3i:¬(S1:Int)<(S2:Int):=by omega
        have HB:Hid (¬Xb os t.2):=λh=>by rcases HBS.o.1 h with h | h | h <;> omega
        go_wp2_with (first | (go_at_call_of 328 (Value.slice vb k vd);refine (HOI.o _ (Te _ _)).mono ?_;rintro _ w1 ⟨rfl,ht1⟩;have HT1:Hid (Tch NoB wr w1):=ht1;have y1:=HFC.o w1 ht1;clear ht1) | (go_at_call 328;refine (HOT.o _ HT1.o).mono ?_;rintro _ w2 ⟨rfl,ht2⟩;have HT2:Hid (Tch NoB wr w2):=HT1.o.trans ht2 noE;have y2:=HFC.o w2 HT2.o;clear ht2) | (go_at_call_of 329 (Value.slice vb k vd);refine (HAI.o _ HT3.o).mono ?_;rintro _ w4 ⟨rfl,ht4⟩;have HT4:Hid (Tch NoB wr w4):=HT3.o.trans ht4 noE;clear ht4) | (go_at_call 329;refine (HAT.o _ HT2.o).mono ?_;rintro _ w3 ⟨rfl,ht3⟩;have HT3:Hid (Tch NoB wr w3):=HT2.o.trans ht3 noE;clear ht3))
        go_ret2
        exact HEND.o _ HT4.o HB.o

theorem Jjz (hD:DgC) (wj:Nat) (hw1:1<=wj) (hw:wj<=32):∀(n:Nat) (l:List Held) (w:World) (v:Value),l.length<=n->(∀h∈l,Jo wj h.1/\JC h.2)->(l.map (·.1)).Nodup->RhAt w v l->l.length<=900000000->
  Calls prog 106 #[.int .i64 (wj:Int),v] w λe w'=>∃s:List UInt8,e=.returned (.string ⟨s.toArray⟩)/\Root (dgW wj) (koR l) s/\Tch NoB w w':=by
 intro n
 induction n with
 | zero=>
  intro l w v hl hok hnd hv hlen
  obtain rfl:l=[]:=QP (by omega)
  obtain ⟨a,c,hvs⟩:=hv.shape
  have hvs:v=.slice a 0 c:=hvs
  subst hvs
  clear hv
  go_enter func106,ntmps106
  go_wp2
  go_ret
  exact ⟨[69],rfl,.none,Te _ _⟩
 | succ n ih=>
  intro l w v hl hok hnd hv hlen
  match l,hl,hok,hnd,hv,hlen with
  | [],hl,hok,hnd,hv,hlen=>
   obtain ⟨a,c,hvs⟩:=hv.shape
   have hvs:v=.slice a 0 c:=hvs
   subst hvs
   clear hv
   go_enter func106,ntmps106
   go_wp2
   go_ret
   exact ⟨[69],rfl,.none,Te _ _⟩
  | [x],hl,hok,hnd,hv,hlen=>
   rcases hv with ⟨_,e⟩ | ⟨g,o,c,hvs,⟨hg,_⟩,hcell⟩
   ·cases e
   have hvs:v=.slice (some ⟨g,o,none⟩) 1 c:=hvs
   subst hvs
   obtain ⟨f0,f1,f2⟩:=hcell 0 (by simp)
   simp only [Nat.zero_mul,Nat.add_zero,List.getElem_cons_zero] at f0 f1 f2
   obtain ⟨k1,k2⟩:=hok x (by simp)
   have HLT:Hid (∀V,Calls prog 165 #[.agg #[.string (keyS x.1),.int .u64 ((x.2.1:Nat):Int),.int .u8 ((x.2.2:Nat):Int)]] V λe w'=>e=.returned (.string ⟨(76 :: (Jd x.1++outB x.2)).toArray⟩)/\Tch NoB V w'):=λV=>Jgc x V k2.2 (by rw [JY k1];omega)
   have HR:Hid (Root (dgW wj) (koR [x]) (76 :: (Jd x.1++outB x.2))):=Root.one _ _
   clear hok hnd hcell ih hl
   generalize 76 :: (Jd x.1++outB x.2)=X at *
   generalize keyS x.1=kx at *
   go_enter func106,ntmps106
   go_wp2_with (go_at_call 165;refine (HLT.o _).mono ?_;rintro _ w1 ⟨rfl,ht1⟩;have HT1:Hid (Tch _ _ w1):=ht1;clear ht1)
   go_ret
   exact ⟨X,rfl,HR.o,HT1.o⟩
  | h0 :: x :: r,hl,hok,hnd,hv,hlen=>
   obtain ⟨b,hb,hno,hyes⟩:=Je2 h0 x r (λh hh=>(hok h hh).1) hnd
   obtain ⟨s1,s2⟩:=Jk9 h0 (x :: r) b hno
   obtain ⟨a,c,hvs⟩:=hv.shape
   have hls:(h0 :: x :: r).length=r.length+2:=rfl
   rw [hls] at hvs hl hlen s1 s2
   subst hvs
   have HF:Hid (∀V,Tch NoB w V->Calls prog 166 #[.slice a (r.length+2) c] V λe w'=>e=.returned (.int .i64 (b:Int))/\Tch NoB V w'):=λV hV=>Jmb wj b hw _ h0 (x :: r) V (hv.tch0 hV) (λh hh=>(hok h hh).1) (by simp;omega) hb hno hyes
   have HSD:Hid (∀V (u:Nat),Tch NoB w V->Calls prog 167 #[.slice a (r.length+2) c,.int .i64 (b:Int),.int .i64 (u:Int)] V λe w'=>∃v',e=.returned v'/\ROwn V.heap.size w' v' (sidL (h0 :: x :: r) b u)/\Tch NoB V w'):=λV u hV=>Jmd wj b u hw _ (h0 :: x :: r) V (hv.tch0 hV) (λh hh=>(hok h hh).1) (by rw [hls];omega) hb
   have HSD0:=λV hV=>HSD.o V 0 hV
   have HSD1:=λV hV=>HSD.o V 1 hV
   have HS0:Hid (∀V,_->Calls _ _ _ V _):=HSD0
   have HS1:Hid (∀V,_->Calls _ _ _ V _):=HSD1
   have HIH:Hid (∀(u:Nat) (V:World) (v:Value),(sidL (h0 :: x :: r) b u).length<r.length+2->RhAt V v (sidL (h0 :: x :: r) b u)->Calls prog 106 #[.int .i64 (wj:Int),v] V λe w'=>∃S:BA,e=.returned (.string S)/\(Root (dgW wj) (koR (sidL (h0 :: x :: r) b u)) S.data.toList/\S.size<=1000)/\Tch NoB V w'):=λu V v hlt hv=>(ih (sidL (h0 :: x :: r) b u) V v (by omega) (Jg4 _ b u hok) (Jgl _ b u hnd) hv (by omega)).mono (by
    rintro e w' ⟨s,he,hr,ht⟩
    exact ⟨⟨s.toArray⟩,he,⟨hr,by rw [Jk];exact hr.rlen hw (λh hh=>(Jg4 _ b u hok h hh).1)⟩,ht⟩)
   have HDG:Hid (∀(S:BA) (V:World),S.size<=1000->Calls prog 103 #[.int .i64 (wj:Int),.string S] V λe w'=>∃D,e=.returned (.string D)/\D=dgW wj S.data.toList/\Tch NoB V w'):=λS V hs=>(hD wj S V hw1 hw (by omega)).mono (by rintro _ _ ⟨rfl,h⟩;exact ⟨_,rfl,rfl,h⟩)
   have HFT:Hid (∀(p q:BA) (V:World),p.size=wj->q.size=wj->Calls prog 168 #[.int .i64 (b:Int),.string p,.string q] V λe w'=>e=.returned (.string ⟨(78 :: (beL b 2 2++(p.data.toList++q.data.toList))).toArray⟩)/\Tch NoB V w'):=λp q V hp hq=>by
    have hp':p.data.toList.length=wj:=by rw [QA];exact hp
    have hq':q.data.toList.length=wj:=by rw [QA];exact hq
    have:=Jgb b p.data.toList q.data.toList V (by omega) (by omega) (by omega)
    simpa using this
   have HEND:Hid (∀s t:List UInt8,Root (dgW wj) (koR (sidL (h0 :: x :: r) b 0)) s->Root (dgW wj) (koR (sidL (h0 :: x :: r) b 1)) t->Root (dgW wj) (koR (h0 :: x :: r)) (78 :: (beL b 2 2++((dgW wj s).data.toList++(dgW wj t).data.toList)))):=λs t hs ht=>JhX h0 (x :: r) b hno hyes hs ht
   have hlen':r.length<=900000000:=by omega
   have HL:Hid ((sidL (h0 :: x :: r) b 0).length<r.length+2/\(sidL (h0 :: x :: r) b 1).length<r.length+2):=⟨s1,s2⟩
   have n0:¬((r.length+2:Nat):Int)=0:=by omega
   have n1:¬((r.length+2:Nat):Int)=1:=by omega
   clear hok hnd hv ih hl HSD HSD0 HSD1 hno hyes hls s1 s2 hlen
   go_enter func106,ntmps106
   go_wp2_with (first
    | (go_at_call 166;refine (HF.o _ (Te _ _)).mono ?_;rintro _ w1 ⟨rfl,ht1⟩;have HT1:Hid (Tch NoB w w1):=ht1;clear ht1)
    | (go_at_call_of 167 (Value.int .i64 0);refine (HS0.o _ HT1.o).mono ?_;rintro _ w2 ⟨va,rfl,hoa,ht2⟩;have HT2:Hid (Tch NoB w w2):=HT1.o.trans ht2 (λ_ h=>.inl h);have HRA:Hid (RhAt w2 va _):=hoa.at;clear ht2 hoa)
    | (go_at_call_of 167 (Value.int .i64 1);refine (HS1.o _ HT3.o).mono ?_;rintro _ w4 ⟨vb,rfl,hob,ht4⟩;have HT4:Hid (Tch NoB w w4):=HT3.o.trans ht4 (λ_ h=>.inl h);have HRB:Hid (RhAt w4 vb _):=hob.at;clear ht4 hob)
    | (go_at_call_of 106 va;refine (HIH.o 0 _ va HL.o.1 HRA.o).mono ?_;rintro _ w3 ⟨p,rfl,hrp,ht3⟩;have HT3:Hid (Tch NoB w w3):=HT2.o.trans ht3 (λ_ h=>.inl h);have HP:Hid (_/\_):=hrp;clear ht3 hrp)
    | (go_at_call_of 106 vb;refine (HIH.o 1 _ vb HL.o.2 HRB.o).mono ?_;rintro _ w5 ⟨q,rfl,hrq,ht5⟩;have HT5:Hid (Tch NoB w w5):=HT4.o.trans ht5 (λ_ h=>.inl h);have HQ:Hid (_/\_):=hrq;clear ht5 hrq)
    | (go_at_call_of 103 (Value.string p);refine (HDG.o p _ HP.o.2).mono ?_;rintro _ w6 ⟨dp,rfl,hdp,ht6⟩;have HDP:Hid (dp=_):=hdp;clear hdp;have HT6:Hid (Tch NoB w w6):=HT5.o.trans ht6 (λ_ h=>.inl h);clear ht6)
    | (go_at_call_of 103 (Value.string q);refine (HDG.o q _ HQ.o.2).mono ?_;rintro _ w7 ⟨dq,rfl,hdq,ht7⟩;have HDQ:Hid (dq=_):=hdq;clear hdq;have HT7:Hid (Tch NoB w w7):=HT6.o.trans ht7 (λ_ h=>.inl h);clear ht7)
    | (go_at_call 168;refine (HFT.o _ _ _ (by rw [HDP.o];exact Jq wj hw _) (by rw [HDQ.o];exact Jq wj hw _)).mono ?_;rintro _ w8 ⟨rfl,ht8⟩;have HT8:Hid (Tch NoB w w8):=HT7.o.trans ht8 (λ_ h=>.inl h);clear ht8))
   go_ret
   exact ⟨_,rfl,by have:=HEND.o _ _ HP.o.1 HQ.o.1;rw [<-HDP.o,<-HDQ.o] at this;exact this,HT8.o⟩

abbrev Lv:=(BA×BA×BA)×Sl
def lvC (x:Lv):List Value:=[.string x.1.1,.string x.1.2.1,.string x.1.2.2,.slice x.2.1 x.2.2.1 x.2.2.2]
def lvA (l:List Lv):List Value:=l.flatMap lvC
theorem JkS (l:List Lv):∀u∈lvA l,u.oneCell'=true:=by
 intro u hu
 simp only [lvA,List.mem_flatMap,lvC] at hu
 obtain ⟨x,_,hu⟩:=hu
 simp only [List.mem_cons,QD,or_false] at hu
 rcases hu with rfl | rfl | rfl | rfl <;> rfl
theorem Jf5 (l l':List Lv):lvA (l++l')=lvA l++lvA l':=by simp [lvA]
theorem JkR (l:List Lv):∀(i:Nat) (h:i<l.length),(lvA l)[i * 4]? =some (.string l[i].1.1)/\(lvA l)[i * 4+1]? =some (.string l[i].1.2.1)/\(lvA l)[i * 4+2]? =some (.string l[i].1.2.2)/\(lvA l)[i * 4+3]? =some (.slice l[i].2.1 l[i].2.2.1 l[i].2.2.2):=by
 induction l with
 | nil=>intro i h;simp at h
 | cons x r ih=>
  intro i h
  cases i with
  | zero=>simp [lvA,lvC]
  | succ i=>
   have e:∀j,(lvA (x :: r))[(i+1) * 4+j]? =(lvA r)[i * 4+j]? :=by
    intro j
    show (lvC x++lvA r)[(i+1) * 4+j]? =_
    rw [Qz (by simp [lvC];omega)]
    congr 1;simp [lvC];omega
   refine ⟨?_,?_,?_,?_⟩
   ·have:=e 0;rw [Nat.add_zero,Nat.add_zero] at this;rw [this];simpa using (ih i (by simpa using h)).1
   ·rw [e 1];simpa using (ih i (by simpa using h)).2.1
   ·rw [e 2];simpa using (ih i (by simpa using h)).2.2.1
   ·rw [e 3];simpa using (ih i (by simpa using h)).2.2.2
def Jij (w:World) (g k:Nat) (x:Lv):Prop:=w.cell? ⟨g,k,none⟩=some (.string x.1.1)/\w.cell? ⟨g,k+1,none⟩=some (.string x.1.2.1)/\w.cell? ⟨g,k+2,none⟩=some (.string x.1.2.2)/\w.cell? ⟨g,k+3,none⟩=some (.slice x.2.1 x.2.2.1 x.2.2.2)
def YE (base:Nat) (w:World) (v:Value) (l:List Lv):Prop:=w.ownsRow base 205 4 v l.length (lvA l)
theorem YE.own {base:Nat} {w:World} {v:Value} {l:List Lv} (h:YE base w v l):∀k,v.ownBlock=some k->base<=k/\k<w.heap.size:=by
 obtain ⟨_,⟨rfl,h0⟩ | ⟨g,cap,cur,rfl,hb,hrow,_⟩⟩:=h
 ·intro k hk;cases hk
 ·intro k hk;cases hk;exact ⟨hb,(Jb hrow)⟩
theorem YE.tch {base:Nat} {w w':World} {v:Value} {l:List Lv} {S:Nat->Prop} (h:YE base w v l) (k:Tch S w w') (hs:∀j,v.ownBlock=some j->¬S j):YE base w' v l:=by
 obtain ⟨h1,⟨rfl,h0⟩ | ⟨g,cap,cur,rfl,hb,hrow,h2⟩⟩:=h
 ·exact ⟨h1,.inl ⟨rfl,h0⟩⟩
 ·exact ⟨h1,.inr ⟨g,cap,cur,rfl,hb,(k.block g (Jb hrow) (hs g rfl)).trans hrow,h2⟩⟩
theorem YE.at {base:Nat} {w:World} {v:Value} {l:List Lv} (h:YE base w v l) (hl:l ≠ []):∃g cap,v=.slice (some ⟨g,0,none⟩) l.length cap/\g<w.heap.size/\∀i (hi:i<l.length),Jij w g (i * 4) l[i]:=by
 obtain ⟨_,⟨rfl,h0⟩ | ⟨g,cap,cur,rfl,_,hrow,_,_,hsz,htake⟩⟩:=h
 ·exact absurd (QP h0) hl
 ·refine ⟨g,cap,rfl,(Jb hrow),λi hi=>?_⟩
  obtain ⟨e0,e1,e2,e3⟩:=JkR l i hi
  have hc:∀j u,(lvA l)[j]? =some u->w.cell? ⟨g,j,none⟩=some u:=by
   intro j u hu
   rw [<-htake] at hu
   have hj:=(Qo.1 hu).1
   rw [List.getElem?_take_of_lt (by rw [QB] at hj;omega)] at hu
   rw [Ja hrow,<-Array.getElem?_toList]
   exact hu
  exact ⟨hc _ _ e0,hc _ _ e1,hc _ _ e2,hc _ _ e3⟩
theorem Jkx:(prog.info? 205).map (λi=>(i.zero,i.size,i.bytes))=some (some (.agg #[.string ⟨#[]⟩,.string ⟨#[]⟩,.string ⟨#[]⟩,.slice none 0 0]),4,72):=by kernel_rfl
theorem JcT {base:Nat} {w:World} {v:Value} {l:List Lv} (h:YE base w v l) (k:Nat) (x:Lv) (hx:Jij w k 0 x) (ty:TypeId) (hb:l.length<=1000000000) (hbase:base<=w.heap.size):
  ∃v' w',(Builtin.append_ #[206,206] ty #[v,.slice (some ⟨k,0,none⟩) 1 1]).run prog w=.ok v' w'/\YE base w' v' (l++[x])/\w.grownBy w' v.ownBlock/\(v'.ownBlock=v.ownBlock\/v'.ownBlock=some w.heap.size):=by
 obtain ⟨i,hi,hp⟩:=Option.map_eq_some_iff.1 Jkx
 simp only [Qw] at hp
 obtain ⟨hz,hsz,hby⟩:=hp
 obtain ⟨v',w',hr,h2,h3,_,h4⟩:=run_append_own_at (P:=prog) w base 206 ty 205 i _ 4 72 underlying206 hi hz hsz hby rfl (by omega) v l.length (lvA l) h ⟨k,0,none⟩ 1 1 (lvA [x]) rfl (λj u hu=>by
  rw [Addr.add_lit,Nat.zero_add]
  obtain ⟨c0,c1,c2,c3⟩:=hx
  match j with
  | 0=>simp only [lvA,lvC,QG,List.flatMap_nil,QC,List.getElem?_cons_zero,Qh] at hu;rw [<-hu];exact c0
  | 1=>simp only [lvA,lvC,QG,List.flatMap_nil,QC,List.getElem?_cons_zero,List.getElem?_cons_succ,Qh] at hu;rw [<-hu];exact c1
  | 2=>simp only [lvA,lvC,QG,List.flatMap_nil,QC,List.getElem?_cons_zero,List.getElem?_cons_succ,Qh] at hu;rw [<-hu];exact c2
  | 3=>simp only [lvA,lvC,QG,List.flatMap_nil,QC,List.getElem?_cons_zero,List.getElem?_cons_succ,Qh] at hu;rw [<-hu];exact c3
  | j+4=>simp [lvA,lvC] at hu) (JkS _) (by simp only [maxLen];omega) (by omega) hbase
 exact ⟨v',w',hr,by unfold YE;rw [Qe,Jf5];exact h2,h3,h4⟩
def lvH (i:Nat) (x:Lv):HdL:=(i,x.1.1,x.1.2.1,x.1.2.2)
structure RfAt (wj base:Nat) (w:World) (rb:Nat) (G:Nat->Prop) (ch:Ch) (vL:Value) (lv:List Lv) (by':BA):Prop where
 row:w.heap[rb]? =some (.cells #[.int .i64 (wj:Int),vL,.int .i64 0,.string by'] 208)
 lvs:YE base w vL lv
 rbG:G rb
 vG:∀j,vL.ownBlock=some j->G j
 cG:∀x∈lv,∀j,(Value.slice x.2.1 x.2.2.1 x.2.2.2).ownBlock=some j->G j
 own:∀j,G j->base<=j/\j<w.heap.size
 len:lv.length=ch.length/\1<=ch.length
 hdr:∀(i:Nat) x c,lv[i]? =some x->ch[i]? =some c->HdOk wj (lvH i x)/\c.1=⟨(hdrB (lvH i x)).toArray⟩
 coins:∀(i:Nat) x c,lv[i]? =some x->ch[i]? =some c->∃l:List Held,RhAt w (.slice x.2.1 x.2.2.1 x.2.2.2) l/\Book wj c.2 l/\l.length<=9 * (i+1)
 log:by'.size<=1000 * ch.length
theorem RfAt.tch {wj base:Nat} {w w':World} {rb:Nat} {G S:Nat->Prop} {ch:Ch} {vL:Value} {lv:List Lv} {b:BA} (h:RfAt wj base w rb G ch vL lv b) (k:Tch S w w') (hs:∀j,S j->¬G j):RfAt wj base w' rb G ch vL lv b:=
 ⟨(k.block _ (Jb h.row) (λe=>hs _ e h.rbG)).trans h.row,h.lvs.tch k (λj hj e=>hs j e (h.vG j hj)),h.rbG,h.vG,h.cG,λj hj=>⟨(h.own j hj).1,Qk (h.own j hj).2 k.size⟩,h.len,h.hdr,λi x c h1 h2=>by
  obtain ⟨l,p1,p2,p3⟩:=h.coins i x c h1 h2
  exact ⟨l,p1.tch k (λj hj e=>hs j e (h.cG x (QT h1) j hj)),p2,p3⟩,h.log⟩
