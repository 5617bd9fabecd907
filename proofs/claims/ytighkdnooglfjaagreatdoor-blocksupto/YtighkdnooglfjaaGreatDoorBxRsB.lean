import Derived.Test.YtighkdnooglfjaaGreatDoorBxKPay
namespace Go.Proofs.YtighkdnooglfjaaGreatDoor
open Tryz
set_option maxRecDepth 100000
set_option maxHeartbeats 4000000
open Go.RowKit

theorem Jiz {wj:Nat} (hw:wj<=32) {s:List UInt8} {ts:List TxL} (h:XJ wj s=some ts):s.length<=385/\ts.length<=3/\∀t∈ts,TxOk wj t:=by
 rw [<-Jcj wj []] at h
 cases hb:(PS.rd [] s).body wj [] with
 | none=>rw [hb] at h;cases h
 | some x=>
  obtain ⟨us,p⟩:=x
  rw [hb] at h
  obtain ⟨b,r',h1,h2,h3,h4⟩:=Zl wj hw _ _ _ _ hb
  subst h3
  cases r' with
  | cons a r=>cases h
  | nil=>
   cases h
   rw [h2,QC]
   exact ⟨h1,h4⟩
theorem Jml {base:Nat} {w:World} {v:Value} {ts:List TxL} (h:YC base w v ts):∃sl,TxsR w.heap.size w v sl/\TxIs w.heap.size w ts sl:=by
 obtain ⟨l,h1,h2,h3⟩:=h
 refine ⟨l,h1.at.raw,h2.symm,λi hi hi'=>?_⟩
 have:=h3 i _ _ (Qd hi') (Qd hi)
 exact ⟨this.1.at.raw,this.2.at.raw⟩
def RSub (wj base rb:Nat) (G:Nat->Prop) (ch:Ch) (t:List UInt8) (w:World) (e:Ending) (w':World):Prop:=
 match Xi wj ch t with
 | .error er=>e=.returned (.int .i64 (Xj er))/\Tch NoB w w'
 | .ok ch'=>e=.returned (.int .i64 0)/\Tch G w w'/\∃G' vL lv b,RfAt wj base w' rb G' ch' vL lv b/\∀j,G' j->G j\/w.heap.size<=j
theorem Jjt (hD:DgC) {wj base:Nat} (hw1:1<=wj) (hw:wj<=32) {w:World} {rb:Nat} {G:Nat->Prop} {ch:Ch} {vL:Value} {lv:List Lv} {b:BA} (h:RfAt wj base w rb G ch vL lv b) (hl:ch.length<=1000000) (hbw:base<=w.heap.size) (T:BA) (hT:T.size<=10000000):
  Calls prog 110 #[.pointer (some ⟨rb,0,none⟩),.string T] w (RSub wj base rb G ch T.data.toList w):=by
 have h1:=h.len.2
 have hne:lv ≠ []:=λe=>by have:=h.len;rw [e] at this;simp at this;omega
 obtain ⟨g,cap,hvL,hg,_⟩:=h.lvs.at hne
 rw [h.len.1] at hvL
 subst hvL
 have HRF:Hid (∀V,Tch NoB w V->RfAt wj base V rb G ch (.slice (some ⟨g,0,none⟩) ch.length cap) lv b):=λV hV=>h.tch hV (λ_ e=>e.elim)
 have HP:Hid (∀V,Tch NoB w V->V.cell? ⟨rb,0,none⟩=some (.int .i64 (wj:Int))/\V.cell? ⟨rb,1,none⟩=some (.slice (some ⟨g,0,none⟩) ch.length cap)):=λV hV=>by
  have hr:=(HRF.o V hV).row
  exact ⟨Ja hr,Ja hr⟩
 have hsz:T.data.toList.length=T.size:=by rw [QA];rfl
 obtain ⟨z0,z1⟩:=HP.o w (Te _ _)
 obtain ⟨N,hN⟩:∃N:Nat,4+3 * wj=N:=⟨_,rfl⟩
 have wn:IntKind.i64.wrap (3 * (wj:Int))=3 * (wj:Int):=w63 _ (by omega) (by omega)
 have wn2:IntKind.i64.wrap (4+3 * (wj:Int))=(N:Int):=by rw [w63 _ (by omega) (by omega)];omega
 clear h hne
 by_cases hshort:T.size<N
 ·have hsi:(T.size:Int)<(N:Int):=by omega
  have HE:Hid (Xi wj ch T.data.toList=.error .form):=by
   show Xi _ _ _=_
   unfold Xi
   rw [hN,hsz,if_pos hshort]
  clear hsz hN
  go_enter func110,ntmps110
  go_wp2
  go_ret
  show RSub _ _ _ _ _ _ _ _ _
  unfold RSub
  rw [HE.o]
  exact ⟨rfl,Te _ _⟩
 ·have hsi:¬(T.size:Int)<(N:Int):=by omega
  have hNl:(N:Int)<=(T.size:Int):=by omega
  obtain ⟨S1,hS1⟩:∃S1:BA,T.extract N T.size=S1:=⟨_,rfl⟩
  have HS1:Hid (S1.data.toList=T.data.toList.drop N):=by
   show _=_
   rw [<-hS1,ByteArray.data_extract,Array.toList_extract,List.extract_eq_take_drop,QS]
   rw [List.length_drop,hsz]
   omega
  have hS1s:S1.size<=10000000:=by rw [<-hS1,ByteArray.size_extract];omega
  have HBD:Hid (∀V,Calls prog 170 #[.int .i64 (wj:Int),.string S1] V (Jlm wj (T.data.toList.drop N) V)):=λV=>by
   have:=Jl9 wj hw1 hw S1 hS1s V
   rw [HS1.o] at this
   exact this
  cases hb:XJ wj (T.data.toList.drop N) with
  | none=>
   have HBD2:Hid (∀V,Calls prog 170 #[.int .i64 (wj:Int),.string S1] V λe w'=>∃v,e=.returned (.tuple #[v,.bool false])/\Tch NoB V w'):=λV=>(HBD.o V).mono (by
    rintro e w' ⟨g1,g2⟩
    rw [hb] at g2
    obtain ⟨v,he⟩:=g2
    exact ⟨v,he,g1⟩)
   have HE:Hid (Xi wj ch T.data.toList=.error .form):=by
    show Xi _ _ _=_
    unfold Xi
    rw [hN,hsz,if_neg hshort,hb]
   clear hsz hN hb HBD HS1
   go_enter func110,ntmps110
   go_upto_region 4 with fail
   go_cut [6,7] (λ_ v7 wx=>v7=.bool false/\Hid (Tch NoB w wx))
   case first=>
    go_region_held3 (λV=>V.cell? ⟨rb,0,none⟩=some (.int .i64 (wj:Int))) (go_keep) ((go_at_call 170;refine (HBD2.o _).mono ?_;rintro _ w1 ⟨v,rfl,ht1⟩;have HT1:Hid (Tch NoB w w1):=(Td NoB w 1).trans ht1 (λ_ h=>.inl h);have y0:=(HP.o w1 HT1.o).1;clear ht1))
    all_goals
     go_wp2
     go_meet
     exact ⟨rfl,HT1⟩
   case rest=>
   obtain ⟨rfl,HT1⟩:=hcut
   go_wp2
   go_ret
   show RSub _ _ _ _ _ _ _ _ _
   unfold RSub
   rw [HE.o]
   exact ⟨rfl,HT1.o⟩
  | some ts=>
   obtain ⟨hbl,h3,ho⟩:=Jiz hw hb
   have HBB:Hid (JB ts=T.data.toList.drop N):=JeP hb
   have HBD2:Hid (∀V,Calls prog 170 #[.int .i64 (wj:Int),.string S1] V λe w'=>∃va vm vc,e=.returned (.tuple #[.slice va vm vc,.bool true])/\YC V.heap.size w' (.slice va vm vc) ts/\Tch NoB V w'):=λV=>(HBD.o V).mono (by
    rintro e w' ⟨g1,g2⟩
    rw [hb] at g2
    obtain ⟨v,he,hv⟩:=g2
    obtain ⟨l,hv1,_⟩:=id hv
    obtain ⟨va,vm,vc,hs⟩:=hv1.shape3
    subst hs
    exact ⟨va,vm,vc,he,hv,g1⟩)
   have hlg:=Jfa ch h1
   obtain ⟨m,hm⟩:∃m:Nat,ch.length=m+1:=⟨ch.length - 1,by omega⟩
   rw [show ch.length - 1=m by omega] at hlg
   have HTP:Hid (∀V,Tch NoB w V->Calls prog 118 #[.pointer (some ⟨rb,0,none⟩)] V λe w'=>e=.returned (.int .i64 (m:Int))/\Tch NoB V w'):=λV hV=>by
    have:=JgY (HRF.o V hV) (by omega)
    rw [show (ch.length:Int) - 1=(m:Int) by omega] at this
    exact this
   have HM:Hid (ch.length=m+1):=hm
   obtain ⟨D1,hD1⟩:∃D1,dgW wj (72 :: ch.last.1.data.toList)=D1:=⟨_,rfl⟩
   have hD1s:D1.size=wj:=by rw [<-hD1];exact Jq wj hw _
   have HID:Hid (∀V,Tch NoB w V->Calls prog 172 #[.pointer (some ⟨rb,0,none⟩),.int .i64 (m:Int)] V λe w'=>e=.returned (.string D1)/\Tch NoB V w'):=λV hV=>by
    have:=r_id hD hw1 hw (HRF.o V hV) (by omega) m ch.last hlg
    rw [hD1] at this
    exact this
   have HIN:Hid (∀V,Calls prog 171 #[.int .u64 (ch.length:Int),.int .i64 4] V λe w'=>e=.returned (.string ⟨(beL ch.length 4 4).toArray⟩)/\Tch NoB V w'):=λV=>Ya ch.length 4 V (by omega)
   have hwr:IntKind.u64.wrap (ch.length:Int)=(ch.length:Int):=by simp [IntKind.wrap,IntKind.bits,IntKind.signed];omega
   have hS1l:S1.data.toList.length<=385:=by rw [HS1.o];exact hbl
   have a1:=JZ [66] S1.data.toList (by simp at hS1l ⊢;omega)
   simp only [Array.toArray_toList] at a1
   have e1:∀y:BA,(⟨y.data⟩:BA)=y:=λy=>rfl
   rw [e1] at a1
   have a1':∀W,(Op.stringOp .add (⟨#[66]⟩:BA) S1).run prog W=.ok (.string ⟨(66 :: S1.data.toList).toArray⟩) W:=a1
   obtain ⟨D2,hD2⟩:∃D2,dgW wj (66 :: S1.data.toList)=D2:=⟨_,rfl⟩
   have hD2s:D2.size=wj:=by rw [<-hD2];exact Jq wj hw _
   have HDB:Hid (∀V,Calls prog 103 #[.int .i64 (wj:Int),.string ⟨(66 :: S1.data.toList).toArray⟩] V λe w'=>e=.returned (.string D2)/\Tch NoB V w'):=λV=>by
    have:=hD wj ⟨(66 :: S1.data.toList).toArray⟩ V hw1 hw (by rw [Jk,Qp];omega)
    rw [show (⟨(66 :: S1.data.toList).toArray⟩:BA).data.toList=66 :: S1.data.toList from rfl,hD2] at this
    exact this
   obtain ⟨X0,hX0⟩:∃X0:BA,⟨(beL ch.length 4 4).toArray⟩=X0:=⟨_,rfl⟩
   have hX0s:X0.size=4:=by rw [<-hX0,Jk,Je]
   obtain ⟨TP,hTP⟩:∃TP:BA,X0++D1++D2=TP:=⟨_,rfl⟩
   have HTP2:Hid (TP.data.toList=tipB wj ch (T.data.toList.drop N)):=by
    show _=_
    rw [<-hTP,<-HS1.o]
    unfold tipB
    rw [hD1,hD2,<-hX0]
    simp
   have b1:∀W,(Op.stringOp .add X0 D1).run prog W=.ok (.string (X0++D1)) W:=λW=>run_string_add_sum (P:=prog) W X0 D1 (by omega)
   have b2:∀W,(Op.stringOp .add (X0++D1) D2).run prog W=.ok (.string (X0++D1++D2)) W:=λW=>run_string_add_sum (P:=prog) W _ D2 (by rw [ByteArray.size_append];omega)
   rw [hTP] at b2
   rw [hX0] at HIN
   clear hTP hX0 hX0s hD1 hD2 hD1s hD2s a1 e1 hm hlg HBD
   generalize (⟨(66 :: S1.data.toList).toArray⟩:BA)=SB at *
   generalize X0++D1=X1 at *
   have HSUB:Hid (Xi wj ch T.data.toList=if T.data.toList.take (4+2 * wj) ≠ tipB wj ch (T.data.toList.drop N) then .error .tip else match JA (dgW wj) ch.last.2 ts with
     | .error e=>.error e
     | .ok st=>if (T.data.toList.drop (4+2 * wj)).take wj ≠ (JV (dgW wj) st).data.toList then .error .root else .ok (ch++[(⟨(T.data.toList.take N).toArray⟩,st)])):=by
    show Xi _ _ _=_
    unfold Xi
    rw [hN,hsz,if_neg hshort,hb]
    rfl
   have hwn:IntKind.i64.wrap ((N:Int) - (wj:Int))=((4+2 * wj:Nat):Int):=by rw [w63 _ (by omega) (by omega)];omega
   have p1:((4+2 * wj:Nat):Int)<=(T.size:Int):=by omega
   have p2:((4+2 * wj:Nat):Int)<=(N:Int):=by omega
   obtain ⟨S2,hS2⟩:∃S2:BA,T.extract 0 (4+2 * wj)=S2:=⟨_,rfl⟩
   have HS2:Hid (S2.data.toList=T.data.toList.take (4+2 * wj)):=by
    show _=_
    rw [<-hS2,ByteArray.data_extract,Array.toList_extract]
    simp [List.extract_eq_take_drop]
   obtain ⟨S3,hS3⟩:∃S3:BA,T.extract (4+2 * wj) N=S3:=⟨_,rfl⟩
   have HS3:Hid (S3.data.toList=(T.data.toList.drop (4+2 * wj)).take wj):=by
    show _=_
    rw [<-hS3,ByteArray.data_extract,Array.toList_extract,List.extract_eq_take_drop,show N - (4+2 * wj)=wj by omega]
   have HNN:Hid (4+3 * wj=N/\N<=T.size):=⟨hN,by omega⟩
   obtain ⟨N1,hN1⟩:∃N1:Nat,4+2 * wj=N1:=⟨_,rfl⟩
   rw [hN1] at hwn p1 p2 hS2 hS3 HSUB HS2 HS3
   have HN1:Hid (4+2 * wj=N1):=hN1
   clear hb hsz hN hN1
   go_enter func110,ntmps110
   go_upto_region 4 with fail
   go_cut [6,7] (λv6 v7 wx=>v7=.bool true/\∃va vm vc,v6=.slice va vm vc/\Hid (YC w.heap.size wx (.slice va vm vc) ts)/\Hid (Tch NoB w wx))
   case first=>
    go_region_held3 (λV=>V.cell? ⟨rb,0,none⟩=some (.int .i64 (wj:Int))) (go_keep) ((go_at_call 170;refine (HBD2.o _).mono ?_;rintro _ w1 ⟨va,vm,vc,rfl,htx,ht1⟩;have HTX:Hid (YC w.heap.size w1 _ ts):=htx;have HT1:Hid (Tch NoB w w1):=(Td NoB w 1).trans ht1 (λ_ h=>.inl h);have y0:=(HP.o w1 HT1.o).1;clear ht1 htx))
    all_goals
     go_wp2
     go_meet
     exact ⟨rfl,va,vm,vc,rfl,HTX,HT1⟩
   case rest=>
   obtain ⟨rfl,va,vm,vc,rfl,HTX,HT1⟩:=hcut
   obtain ⟨wA,hwA⟩:∃wA,wA=wc:=⟨wc,rfl⟩
   subst hwA
   clear z0 z1 HBD2
   obtain ⟨z0,z1⟩:=HP.o wA HT1.o
   go_upto_region 7 with fail
   go_cut [8] (λv8 wx=>v8=.string TP/\Hid (Tch NoB wA wx))
   case first=>
    go_region_held3 (λV=>V.cell? ⟨rb,0,none⟩=some (.int .i64 (wj:Int))/\V.cell? ⟨rb,1,none⟩=some (.slice (some ⟨g,0,none⟩) ch.length cap)) (go_keep) ((first
     | (go_at_call 171;refine (HIN.o _).mono ?_;rintro _ w2 ⟨rfl,ht2⟩;have HT2:Hid (Tch NoB wA w2):=(Td NoB wA 1).trans ht2 (λ_ h=>.inl h);have y2:=HP.o w2 (HT1.o.trans HT2.o (λ_ h=>.inl h));obtain ⟨y20,y21⟩:=y2;clear ht2)
     | (go_at_call 118;refine (HTP.o _ (HT1.o.trans HT2.o (λ_ h=>.inl h))).mono ?_;rintro _ w3 ⟨rfl,ht3⟩;have HT3:Hid (Tch NoB wA w3):=HT2.o.trans ht3 (λ_ h=>.inl h);have y3:=HP.o w3 (HT1.o.trans HT3.o (λ_ h=>.inl h));obtain ⟨y30,y31⟩:=y3;clear ht3)
     | (go_at_call 172;refine (HID.o _ (HT1.o.trans HT3.o (λ_ h=>.inl h))).mono ?_;rintro _ w4 ⟨rfl,ht4⟩;have HT4:Hid (Tch NoB wA w4):=HT3.o.trans ht4 (λ_ h=>.inl h);have y4:=HP.o w4 (HT1.o.trans HT4.o (λ_ h=>.inl h));obtain ⟨y40,y41⟩:=y4;clear ht4)
     | (go_at_call 103;refine (HDB.o _).mono ?_;rintro _ w5 ⟨rfl,ht5⟩;have HT5:Hid (Tch NoB wA w5):=HT4.o.trans ht5 (λ_ h=>.inl h);have y5:=HP.o w5 (HT1.o.trans HT5.o (λ_ h=>.inl h));obtain ⟨y50,y51⟩:=y5;clear ht5)))
    all_goals
     go_wp2
     go_meet
     exact ⟨rfl,HT5⟩
   case rest=>
   obtain ⟨rfl,HT2⟩:=hcut
   obtain ⟨wB,hwB⟩:∃wB,wB=wc:=⟨wc,rfl⟩
   subst hwB
   clear z0 z1 HIN HTP HID HDB b1 b2 a1'
   have HTB:Hid (Tch NoB w wB):=HT1.o.trans HT2.o (λ_ h=>.inl h)
   obtain ⟨z0,z1⟩:=HP.o wB HTB.o
   by_cases htip:T.data.toList.take N1=tipB wj ch (T.data.toList.drop N)
   ·have hcmp:(S2.toList == TP.toList)=true:=by rw [ByteArray.toList_eq,ByteArray.toList_eq,HS2.o,HTP2.o,htip];simp
    rw [if_neg (λh=>h htip)] at HSUB
    have HTIP:Hid (T.data.toList.take N1=tipB wj ch (T.data.toList.drop N)):=htip
    clear htip
    obtain ⟨sl,hsA,hsI⟩:=Jml (HTX.o.tch HT2.o)
    have HLV:Hid (Calls prog 173 #[.pointer (some ⟨rb,0,none⟩),.slice va vm vc] wB (RLv wj ch ts G wB)):=JgV hD hw1 hw (HRF.o wB HTB.o) (by omega) _ _ ts sl h3 ho hsA hsI
    clear hsA hsI
    cases hap:JA (dgW wj) ch.last.2 ts with
    | error er=>
     have HLV2:Hid (Calls prog 173 #[.pointer (some ⟨rb,0,none⟩),.slice va vm vc] wB λe w'=>e=.returned (.tuple #[.agg #[.string ⟨#[]⟩,.string ⟨#[]⟩,.string ⟨#[]⟩,.slice none 0 0],.int .i64 (Xj er)])/\Tch NoB wB w'):=HLV.o.mono (by
      rintro e w' ⟨g1,g2⟩
      rw [hap] at g2
      exact ⟨g2,g1⟩)
     rw [hap] at HSUB
     simp only at HSUB
     have hne:¬Xj er=0:=by cases er <;> decide
     clear HLV hap
     go_wp2_with (go_at_call 173;refine HLV2.o.mono ?_;rintro _ w6 ⟨rfl,ht6⟩;have HT6:Hid (Tch NoB wB w6):=ht6;clear ht6)
     go_ret
     show RSub _ _ _ _ _ _ _ _ _
     unfold RSub
     rw [HSUB.o]
     exact ⟨rfl,(HTB.o.trans HT6.o (λ_ h=>.inl h)).trans (Ta NoB _ _) (λ_ h=>.inl h)⟩
    | ok st=>
     have HLV2:Hid (Calls prog 173 #[.pointer (some ⟨rb,0,none⟩),.slice va vm vc] wB λe w'=>∃(E1 E2 E3:BA) (s:Sl),e=.returned (.tuple #[.agg #[.string E1,.string E2,.string E3,.slice s.1 s.2.1 s.2.2],.int .i64 0])/\(E1=dgW wj (72 :: ch.last.1.data.toList)/\E2=dgW wj (66 :: JB ts)/\E3=JV (dgW wj) st)/\(∃l:List Held,RhAt w' (.slice s.1 s.2.1 s.2.2) l/\Book wj st l/\l.length<=9 * (ch.length+1)/\∀j,(Value.slice s.1 s.2.1 s.2.2).ownBlock=some j->G j\/wB.heap.size<=j)/\Tch NoB wB w'):=HLV.o.mono (by
      rintro e w' ⟨g1,g2⟩
      rw [hap] at g2
      obtain ⟨s,l,he,k1,k2,k3,k4⟩:=g2
      exact ⟨_,_,_,s,he,⟨rfl,rfl,rfl⟩,⟨l,k1,k2,k3,k4⟩,g1⟩)
     rw [hap] at HSUB
     simp only at HSUB
     clear HLV hap
     go_upto_region 14 with (go_at_call 173;refine HLV2.o.mono ?_;rintro _ w6 ⟨E1,E2,E3,s,rfl,hes,hcs,ht6⟩;have HES:Hid (_/\_):=hes;have HCS:Hid (∃l:List Held,_):=hcs;have HT6:Hid (Tch NoB wB w6):=ht6;clear ht6 hes hcs)
     obtain ⟨wC,hwC⟩:∃wC,wC=w6.alloc (.cells #[.string E1,.string E2,.string E3,.slice s.1 s.2.1 s.2.2] 205):=⟨_,rfl⟩
     have HT6C:Hid (Tch NoB w6 wC):=by rw [hwC];exact Ta _ _ _
     have HTC:Hid (Tch NoB w wC):=(HTB.o.trans HT6.o (λ_ h=>.inl h)).trans HT6C.o (λ_ h=>.inl h)
     have HBX:Hid (wC.heap[w6.heap.size]? =some (.cells #[.string E1,.string E2,.string E3,.slice s.1 s.2.1 s.2.2] 205)):=by rw [hwC];exact Qf _ _
     rw [<-hwC]
     clear hwC z0 z1 HLV2
     have HB6:Hid (w.heap.size<=w6.heap.size):=Qm HTB.o.size HT6.o.size
     generalize w6.heap.size=xb at *
     obtain ⟨z0,z1⟩:=HP.o wC HTC.o
     have b2:wC.cell? ⟨xb,2,none⟩=some (.string E3):=Ja HBX.o
     obtain ⟨q,hq,hq2⟩:∃q:Bool,(E3.toList == S3.toList)=q/\(q=true↔(T.data.toList.drop N1).take wj=(JV (dgW wj) st).data.toList):=⟨_,rfl,by
      rw [beq_iff_eq,ByteArray.toList_eq,ByteArray.toList_eq,HS3.o,HES.o.2.2]
      exact eq_comm⟩
     have HQ2:Hid (q=true↔_):=hq2
     have hqn:(E3.toList != S3.toList)= !q:=by rw [bne,hq]
     clear hq2
     go_cut [86] (λv wx=>v=.bool (!q)/\Hid (Tch NoB wC wx))
     case first=>
      go_region_held3 (λV=>V.cell? ⟨rb,0,none⟩=some (.int .i64 (wj:Int))/\V.cell? ⟨xb,2,none⟩=some (.string E3)) (go_keep) (fail)
      all_goals
       go_wp2
       go_meet
       refine ⟨?_,Td _ _ 1⟩
       first
        | rfl
        | (rw [<-hqn])
        | (rw [<-hqn];rfl)
        | simp [hqn,hq]
     case rest=>
     obtain ⟨rfl,HTD⟩:=hcut
     obtain ⟨wD,hwD⟩:∃wD,wD=wc:=⟨wc,rfl⟩
     subst hwD
     clear z0 z1 b2 hqn hq
     have HTDw:Hid (Tch NoB w wD):=HTC.o.trans HTD.o (λ_ h=>.inl h)
     cases q with
     | false=>
      rw [if_pos (λh=>by have:=HQ2.o.2 h;cases this)] at HSUB
      go_wp2
      go_ret
      show RSub _ _ _ _ _ _ _ _ _
      unfold RSub
      rw [HSUB.o]
      exact ⟨rfl,HTDw.o⟩
     | true=>
      rw [if_neg (λh=>h (HQ2.o.1 rfl))] at HSUB
      have HBD:Hid (wD.heap[xb]? =some (.cells #[.string E1,.string E2,.string E3,.slice s.1 s.2.1 s.2.2] 205)):=(HTD.o.block _ (Jb HBX.o) (λh=>h)).trans HBX.o
      obtain ⟨z0,z1⟩:=HP.o wD HTDw.o
      have b0:wD.cell? ⟨xb,0,none⟩=some (.string E1):=Ja HBD.o
      have b1:wD.cell? ⟨xb,1,none⟩=some (.string E2):=Ja HBD.o
      have b2:wD.cell? ⟨xb,2,none⟩=some (.string E3):=Ja HBD.o
      have b3:wD.cell? ⟨xb,3,none⟩=some (.slice s.1 s.2.1 s.2.2):=Ja HBD.o
      have HSS:Hid (∀V,Tch NoB wD V->(V.cell? ⟨rb,1,none⟩=some (.slice (some ⟨g,0,none⟩) ch.length cap))/\(V.cell? ⟨xb,0,none⟩=some (.string E1)/\V.cell? ⟨xb,1,none⟩=some (.string E2)/\V.cell? ⟨xb,2,none⟩=some (.string E3)/\V.cell? ⟨xb,3,none⟩=some (.slice s.1 s.2.1 s.2.2))):=λV hV=>by
       have hr:=(hV.block _ (Jb HBD.o) (λh=>h)).trans HBD.o
       exact ⟨(HP.o V (HTDw.o.trans hV (λ_ h=>.inl h))).2,Ja hr,Ja hr,Ja hr,Ja hr⟩
      have HRD:Hid (RfAt wj base (wD.alloc (.cells #[.string E1,.string E2,.string E3,.slice s.1 s.2.1 s.2.2] 205)).drew rb G ch (.slice (some ⟨g,0,none⟩) ch.length cap) lv b):=HRF.o _ (HTDw.o.trans (Tch.box wD _) (λ_ h=>.inl h))
      have hnw:=Qf wD (.cells #[.string E1,.string E2,.string E3,.slice s.1 s.2.1 s.2.2] 205)
      obtain ⟨v3,w3,hrun,hown3,hg3,hv3⟩:=JcT (w:=(wD.alloc (.cells #[.string E1,.string E2,.string E3,.slice s.1 s.2.1 s.2.2] 205)).drew) HRD.o.lvs wD.heap.size ((E1,E2,E3),s) ⟨cell_of_row (wD.alloc _) _ _ _ _ _ hnw,cell_of_row (wD.alloc _) _ _ _ _ _ hnw,cell_of_row (wD.alloc _) _ _ _ _ _ hnw,cell_of_row (wD.alloc _) _ _ _ _ _ hnw⟩ 206 (by rw [HRD.o.len.1];omega) (Qm (Qm hbw HTDw.o.size) (Tch.box wD _).size)
      have HT3:Hid (Tch (λj=>j=g) wD w3):=((Tch.box wD _).mono noE).trans (Tg hg3) (λj hj=>.inl (by cases hj;rfl))
      have hrg:rb ≠ g:=λe=>JcQ HRD.o.row HRD.o.lvs (by rw [e];rfl)
      have hxg:xb ≠ g:=λe=>by
       have h5:=(HRD.o.own g (HRD.o.vG g rfl)).2
       have h6:=((HRF.o w (Te _ _)).own g ((HRF.o w (Te _ _)).vG g rfl)).2
       have h7:=HB6.o
       omega
      have HRW:Hid (wD.heap[rb]? =some (.cells #[.int .i64 (wj:Int),.slice (some ⟨g,0,none⟩) ch.length cap,.int .i64 0,.string b] 208)):=(HRF.o wD HTDw.o).row
      have HR3:Hid (w3.heap[rb]? =some (.cells #[.int .i64 (wj:Int),.slice (some ⟨g,0,none⟩) ch.length cap,.int .i64 0,.string b] 208)):=(HT3.o.block _ (Jb HRW.o) hrg).trans HRW.o
      have hbx3:=(HT3.o.block _ (Jb HBD.o) hxg).trans HBD.o
      have HS3W:Hid ((w3.cell? ⟨rb,1,none⟩=some (.slice (some ⟨g,0,none⟩) ch.length cap))/\(w3.cell? ⟨xb,0,none⟩=some (.string E1)/\w3.cell? ⟨xb,1,none⟩=some (.string E2)/\w3.cell? ⟨xb,2,none⟩=some (.string E3)/\w3.cell? ⟨xb,3,none⟩=some (.slice s.1 s.2.1 s.2.2))):=⟨Ja HR3.o,Ja hbx3,Ja hbx3,Ja hbx3,Ja hbx3⟩
      have c3:=HS3W.o.1
      have f3:w3.frozen? ⟨rb,1,none⟩=false:=Qg _ _ _ _ _ HR3.o
      have HV3:Hid (∀j,v3.ownBlock=some j->j=g\/wD.heap.size<=j):=λj hj=>by
       have h5:=(Tch.box wD (.cells #[.string E1,.string E2,.string E3,.slice s.1 s.2.1 s.2.2] 205)).size
       rcases hv3 with h | h
       ·rw [h] at hj;cases hj;exact .inl rfl
       ·rw [h] at hj;cases hj;exact .inr h5
      have HOW3:Hid (YE base w3 v3 (lv++[((E1,E2,E3),s)])):=hown3
      obtain ⟨ka,km,kc,hk3⟩:∃ka km kc,v3=.slice ka km kc:=by
       obtain ⟨_,⟨h,_⟩ | ⟨g',cap',cur,h,_⟩⟩:=hown3
       ·exact ⟨_,_,_,h⟩
       ·exact ⟨_,_,_,h⟩
      subst hk3
      obtain ⟨w4,hw4⟩:∃w4,w3.setCell ⟨rb,1,none⟩ (.slice ka km kc)=w4:=⟨_,rfl⟩
      have HW4:Hid (w3.setCell ⟨rb,1,none⟩ (.slice ka km kc)=w4):=hw4
      have e4:w4=w3.setRow rb #[.int .i64 (wj:Int),.slice ka km kc,.int .i64 0,.string b]:=by rw [<-hw4];exact Qj w3 rb 1 _ _ _ _ HR3.o
      have HR4:Hid (w4.heap[rb]? =some (.cells #[.int .i64 (wj:Int),.slice ka km kc,.int .i64 0,.string b] 208)):=by rw [e4];exact Qi _ _ _ _ _ _ HR3.o
      have HT4:Hid (Tch (λj=>j=rb) w3 w4):=by rw [e4];exact Ts _ _ _
      have HTL:Hid (T.data.toList.length<=900):=by
       have h5:(T.data.toList.drop N).length<=385:=hbl
       rw [List.length_drop] at h5
       show T.data.toList.length<=900
       have h6:=HNN.o.1
       omega
      have HNT:Hid (Calls prog 107 #[.pointer (some ⟨rb,0,none⟩),.string ⟨#[66]⟩,.string T] w4 λe w'=>e=.returned (.tuple #[])/\Tch (λj=>j=rb) w4 w'/\∃R:BA,R.size<=b.size+1000/\w'.heap[rb]? =some (.cells #[.int .i64 (wj:Int),.slice ka km kc,.int .i64 0,.string R] 208)):=by
       have hbs:b.size<=1000 * ch.length:=(HRF.o w (Te _ _)).log
       have h5:=JgW hD [66] T.data.toList rfl (by have:=HTL.o;omega) w4 rb _ _ _ b (by omega) HR4.o
       simp only [Array.toArray_toList] at h5
       refine Calls.mono (h5) ?_
       rintro _ w' ⟨rfl,k2,k3⟩
       refine ⟨rfl,k2,_,?_,k3⟩
       have e1:(⟨(recB [66] T.data.toList).toArray⟩:BA).size=7+T.data.toList.length:=by rw [Jk,JcM [66] _ rfl]
       rw [ByteArray.size_append,e1]
       have:=HTL.o
       omega
      clear hnw hown3 hg3 hbx3 e4 hw4 hv3
      go_upto_region 15 with fail
      refine Xd (S:=λV=>(V.cell? ⟨rb,1,none⟩=some (.slice (some ⟨g,0,none⟩) ch.length cap))/\(V.cell? ⟨xb,0,none⟩=some (.string E1)/\V.cell? ⟨xb,1,none⟩=some (.string E2)/\V.cell? ⟨xb,2,none⟩=some (.string E3)/\V.cell? ⟨xb,3,none⟩=some (.slice s.1 s.2.1 s.2.2))) 20 (by simp) (by kernel_rfl) (by kernel_rfl) (HSS.o _ (Td _ _ 1)) ?_
      intro hHeld l o hl ho
      simp only [List.dropLast_cons_cons,List.dropLast_singleton] at hl
      simp only [List.getLast_cons_cons,List.getLast_singleton] at ho
      subst hl
      subst ho
      simp only [Qp,Qv,Nat.reduceAdd]
      refine Ji (i:=0) (v:=?ve0) rfl (by kernel_rfl) (by kernel_rfl) (by kernel_rfl) (λ_ _ _ h=>h) rfl ?he0 (by assumption) ?re0
      case he0=>(intro W hSW;(try dsimp only at hSW);go_simp;(try with_reducible rfl))
      simp only [Act.put,Qa,Qb,Qc]
      refine Ji (i:=1) (v:=?ve1) rfl (by kernel_rfl) (by kernel_rfl) (by kernel_rfl) (λ_ _ _ h=>h) rfl ?he1 (by assumption) ?re1
      case he1=>(intro W hSW;(try dsimp only at hSW);go_simp;(try with_reducible rfl))
      simp only [Act.put,Qa,Qb,Qc]
      refine Ji (i:=2) (v:=?ve2) rfl (by kernel_rfl) (by kernel_rfl) (by kernel_rfl) (λ_ _ _ h=>h) rfl ?he2 (by assumption) ?re2
      case he2=>(intro W hSW;(try dsimp only at hSW);go_simp;(try with_reducible rfl))
      simp only [Act.put,Qa,Qb,Qc]
      refine Ji (i:=3) (v:=?ve3) rfl (by kernel_rfl) (by kernel_rfl) (by kernel_rfl) (λ_ _ _ h=>h) rfl ?he3 (by assumption) ?re3
      case he3=>(intro W hSW;(try dsimp only at hSW);go_simp;(try with_reducible rfl))
      simp only [Act.put,Qa,Qb,Qc]
      refine Ji (i:=4) (v:=?ve4) rfl (by kernel_rfl) (by kernel_rfl) (by kernel_rfl) (λ_ _ _ h=>h) rfl ?he4 (by assumption) ?re4
      case he4=>(intro W hSW;(try dsimp only at hSW);go_simp;(try with_reducible rfl))
      simp only [Act.put,Qa,Qb,Qc]
      refine Ji (i:=5) (v:=?ve5) rfl (by kernel_rfl) (by kernel_rfl) (by kernel_rfl) (λ_ _ _ h=>h) rfl ?he5 (by assumption) ?re5
      case he5=>(intro W hSW;(try dsimp only at hSW);go_simp;(try with_reducible rfl))
      simp only [Act.put,Qa,Qb,Qc]
      refine JbQ (i:=6) rfl (by kernel_rfl) (λK hK=>?_)
      go_simp
      refine hK.out _ _ (by first | exact HSS.o _ (Tch.box wD _) | exact HSS.o _ (Tch.drewAlloc wD _)) (λ_=>?_)
      clear hK K
      try simp only [Act.put,Qa,Qb,Qc]
      refine JbQ (i:=7) rfl (by kernel_rfl) (λK hK=>?_)
      refine ZB hrun (by rfl) _ _ (by rfl) (by rfl) (by rfl) ?_
      refine hK.out _ _ HS3W.o (λ_=>?_)
      clear hK K
      try simp only [Act.put,Qa,Qb,Qc]
      refine Ji (i:=8) (v:=?ve8) rfl (by kernel_rfl) (by kernel_rfl) (by kernel_rfl) (λ_ _ _ h=>h) rfl ?he8 (by assumption) ?re8
      case he8=>(intro W hSW;(try dsimp only at hSW);go_simp;(try with_reducible rfl))
      simp only [Act.put,Qa,Qb,Qc]
      refine Ji (i:=9) (v:=?ve9) rfl (by kernel_rfl) (by kernel_rfl) (by kernel_rfl) (λ_ _ _ h=>h) rfl ?he9 (by assumption) ?re9
      case he9=>(intro W hSW;(try dsimp only at hSW);go_simp;(try with_reducible rfl))
      simp only [Act.put,Qa,Qb,Qc]
      refine wpAnyH_done (by kernel_rfl) ?_ _
      show wpList _ _ _ [_] _ _
      go_wp2_with (go_at_call 107;rw [HW4.o];refine HNT.o.mono ?_;rintro _ w5 ⟨rfl,ht5,hr5⟩;have HT5:Hid (Tch _ w4 w5):=ht5;have HR5:Hid (∃R:BA,_):=hr5;clear ht5 hr5)
      go_ret
      show RSub _ _ _ _ _ _ _ _ _
      unfold RSub
      rw [HSUB.o]
      obtain ⟨R,hRs,hR5⟩:=HR5.o
      obtain ⟨l,hl1,hl2,hl3,hl4⟩:=HCS.o
      obtain ⟨he1,he2,he3⟩:=HES.o
      have t35:Tch (λj=>j=rb) w3 w5:=HT4.o.trans HT5.o (λ_ h=>.inl h)
      have hN:=HNN.o.1
      have hN1:=HN1.o
      have hhd:(⟨(T.data.toList.take N).toArray⟩:BA)=⟨(hdrB (lvH ch.length ((E1,E2,E3),s))).toArray⟩:=by
       have h5:=HQ2.o.1 (by first | rfl | trivial)
       rw [show N=N1+wj by omega,List.take_add,HTIP.o,h5]
       unfold hdrB lvH tipB
       rw [<-HBB.o,<-he1,<-he2,<-he3]
       simp
      have hok:HdOk wj (lvH ch.length ((E1,E2,E3),s)):=⟨by show ch.length<2 ^ 32;omega,by show E1.size=wj;rw [he1];exact Jq wj hw _,by show E2.size=wj;rw [he2];exact Jq wj hw _,by show E3.size=wj;rw [he3];exact Xk (dgW wj) wj (λl=>Jq wj hw l) st⟩
      have hgrow:=Jk3 (x:=((E1,E2,E3),s)) (st:=st) (HRF.o w (Te _ _)) HTDw.o HT3.o t35 HOW3.o HV3.o hR5 hRs ⟨l,hl1.tch0 (HT6C.o.trans HTD.o (λ_ h=>.inl h)),hl2,hl3,λj hj=>(hl4 j hj).imp id (λh=>Qm HTB.o.size h)⟩ ⟨hok,hhd⟩ hbw
      exact ⟨rfl,hgrow⟩
   ·have hcmp:(S2.toList == TP.toList)=false:=by
     rw [beq_eq_false_iff_ne,ByteArray.toList_eq,ByteArray.toList_eq,HS2.o,HTP2.o]
     exact htip
    rw [if_pos htip] at HSUB
    clear htip
    go_wp2
    go_ret
    show RSub _ _ _ _ _ _ _ _ _
    unfold RSub
    rw [HSUB.o]
    exact ⟨rfl,HTB.o⟩
