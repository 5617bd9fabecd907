import Derived.Test.YtighkdnooglfjaaGreatDoorLcLiB
namespace Go.Proofs.YtighkdnooglfjaaGreatDoor
open Tryz
set_option maxRecDepth 100000
set_option maxHeartbeats 1000000
open Go.RowKit

variable {wj:Int}{l r:List BA}{pre:List UInt8}{b:Nat}{v:Value}{w w1 wr:World}
def ZJ(l:List BA):Prop:=∀i (h:i+1<l.length),Lib.compareBytes (l[i]'(by omega)).data.toList l[i+1].data.toList<0
theorem Jdv(b:Nat)(g:Option Nat)(wj:Int)(what:BA)(base:Nat)(v:Value)(l:List BA)(p:PS)(w:World)(hp:Jc w b g wj .nilIface p)(hv:NOwn base w v l)(hr:ZJ l)(hl:l.length<=1000000000):
  Calls prog 244 #[.pointer (some ⟨b,0,none⟩),.string what,v,.func (.func 245) #[] #[]] w λe w'=>e=.returned (.tuple #[])/\Tch NoB w w':=by
 obtain⟨va,vc,hvs⟩:=hv.shape;have HV:Hid (NOwn base w v l):=hv;have HVS:Hid (v=.slice va l.length vc):=hvs;have HR:Hid (ZJ l):=hr;have ce:=hp.errCell;have HCE:Hid (∀V,Tch NoB w V->V.cell? ⟨b,2,none⟩=some .nilIface):=λV hT=>(hp.tch hT (λh=>h) (λ_ _ h=>h)).errCell;obtain⟨n,hn⟩:∃n,n=l.length:=⟨_,rfl⟩
 rw[hvs,<-hn];have HN:Hid (n=l.length):=hn;have hnb:n<=1000000000:=by omega
 clear hp hv hr hl hvs hn ce;go_enter func244,ntmps244;go_wp2;go_loopw [8] (λi wr=>∃k:Nat,1<=k/\i=.int .i64 (k:Int)/\Hid (Tch NoB w wr)) (λi _=>n+1-(intOf i).toNat)
 case atStart=>exact⟨1,Ql _,rfl,Te _ _⟩
 case round=>
  obtain⟨k,hk,rfl,HT⟩:=hrel;have ce:=HCE.o wr HT.o
  by_cases hlt:k<n
  ·obtain⟨j,hjk⟩:∃j,k=j+1:=⟨k-1,by omega⟩
   have hkl:k<l.length:=(by have:=HN.o;omega);have hjl:j<l.length:=(by omega);obtain⟨x,hx⟩:∃x,x=l[j]:=⟨_,rfl⟩
   obtain⟨y,hy⟩:∃y,y=l[k]:=⟨_,rfl⟩
   obtain⟨gi,cap,hvg,_,_,_,hcell⟩:=HV.o.at (λe=>by rw[e]at hjl;simp at hjl);have hva:va=some ⟨gi,0,none⟩:=(by rw[HVS.o]at hvg;cases hvg;rfl);subst hva;have HC:Hid (∀V,Tch NoB w V->V.cell? ⟨gi,j,none⟩=some (.string x)/\V.cell? ⟨gi,k,none⟩=some (.string y)):=λV hT=>by
    have c1:=(hcell j hjl).1;have c2:=(hcell k hkl).1;exact⟨((hT.cell (p:=⟨gi,j,none⟩) (Qr _ _ c1) (λh=>h)).trans c1).trans (by rw[hx]),((hT.cell (p:=⟨gi,k,none⟩) (Qr _ _ c2) (λh=>h)).trans c2).trans (by rw[hy])⟩
   obtain⟨z,hz⟩:∃z,z=Lib.compareBytes x.data.toList y.data.toList:=⟨_,rfl⟩
   have hz0:¬(0<=z):=(by have:=HR.o j (by omega);subst hjk;rw[<-hx,<-hy,<-hz]at this;omega);have HCO:Hid (∀V,Calls prog 245 #[.string x,.string y] V λe w'=>e=.returned (.int .i64 z)/\w'=V):=λV=>by rw[hz];exact strings_Compare x y V
   obtain⟨c1,c2⟩:=HC.o wr HT.o;have hen:∀args w,(callFunc 245 args).run prog w=.ok (.enter 245 args) w:=λ_ _=>by kernel_rfl
   have hki:(k:Int)<(n:Int):=(by omega);have hji:(j:Int)<(n:Int):=(by omega);have hsub:IntKind.i64.wrap ((k:Int)-1)=(j:Int):=(by simp[IntKind.wrap,IntKind.bits,IntKind.signed];omega);have HJK:Hid (k=j+1):=hjk;clear hcell hx hy hz hjl hkl hvg hjk;go_upto_region 3 with fail;go_cut [33] (λv wx=>v=.bool false/\Hid (Tch NoB w wx))
   case first=>
    go_region_held3 (λV=>V.cell? ⟨gi,j,none⟩=some (.string x)/\V.cell? ⟨gi,k,none⟩=some (.string y)) (go_keep) ((go_at_call 245;refine(HCO.o _).mono ?_;rintro _ X⟨rfl,hX⟩;rw[hX];clear hX X))
    all_goals go_wp2;go_meet;exact⟨by simp[hz0],HT.o.go (Td _ _ _)⟩
   case rest=>
   obtain⟨rfl,HT2⟩:=hcut;clear c1 c2 hsub;go_wp2;go_roundw
   case rel=>exact⟨k+1,by omega,by go_num,HT2⟩
   case measure=>simp[intOf];omega
  ·have hki:¬(k:Int)<(n:Int):=(by omega);go_wp2;exact bodyPost_end (v:=.tuple #[]) (results_none results244 _ _ _) rfl ⟨rfl,HT.o⟩
theorem JdT(E:Nat->Addr)(b:Nat)(g:Option Nat)(wj:Int)(v:Value)(l:List BA)(done:List UInt8)(w:World)(hp:Jc w b g wj .nilIface (.wr done))(hv:TxAt b w v l)(hs:∀t∈l,t.size<65536)(hr:ZJ l)(hl:l.length<=1000000000)(hd:(done++szsB l).length<=1000000000000):
  Calls prog 156 #[.pointer (some ⟨b,0,none⟩),v] w λe w'=>(∃v',e=.returned v')/\JY w w' b g wj (.wr (done++szsB l)):=by
 have hmf:∀(fn:Fn)(first cap:Array Value)(w:World),(Instr.makeFunc fn first cap).run prog w=.ok (.func fn first cap) w:=λ_ _ _ _=>rfl;have HRW:Hid (Calls prog 243 _ w _):=JnS E b g wj ⟨#[110,111,100,101]⟩ v l done w hp hv hs hl hd;have HRI:Hid (∀V v',RowI b g wj w done l v' V->Calls prog 244 #[.pointer (some ⟨b,0,none⟩),.string ⟨#[110,111,100,101]⟩,v',.func (.func 245) #[] #[]] V λe w'=>e=.returned (.tuple #[])/\RowI b g wj w done l v' w'):=λV v' h=>by
  obtain⟨g1,hp1,_⟩:=h.port;exact(Jdv b g1 wj _ _ v' l _ V hp1 h.own hr hl).mono λe w' k=>⟨k.1,h.next k.2⟩
 obtain⟨va,vc,hvs⟩:=hv.shape;rw[hvs]at HRW ⊢;clear hp hv hs hr hl hd hvs;go_enter func156,ntmps156;go_wp2_with fail;refine HRW.o.mono ?_;rintro _ w1⟨v',rfl,hI⟩;obtain⟨a',c',hv'⟩:=hI.own.shape;subst hv';have HI:Hid (RowI b g wj w done l (.slice a' l.length c') w1):=hI;clear hI HRW;go_wp2_with fail;refine(HRI.o w1 _ HI.o).mono ?_;rintro _ w2⟨rfl,hI2⟩;have HI2:Hid (RowI b g wj w done l (.slice a' l.length c') w2):=hI2;clear hI2;go_wp2;go_ret;exact⟨⟨_,rfl⟩,HI2.o.port⟩

theorem JlC(b:Nat)(wj:Int)(pre rest:List UInt8)(t:BA)(ht:t.size<65536)(hnum:numL (beL t.size 2 2)=t.size)(hd:(pre++szB t++rest).length<=1000000000000)(w:World)(hp:Jc w b none wj .nilIface (.rd pre (szB t++rest))):
  Calls prog 210 #[.pointer (some ⟨b,0,none⟩),.string ⟨#[]⟩] w λe w'=>e=.returned (.string t)/\JY w w' b none wj (.rd (pre++szB t) rest):=by
 have hl2:(beL t.size 2 2).length=2:=Jf _ _ _;have htl:t.data.toList.length=t.size:=JT t;have hdl:pre.length+(t.size+2)+rest.length<=1000000000000:=by simp only[Qe,JbQ]at hd;omega
 have hn:(PS.rd pre (szB t++rest)).num 0 2=some (t.size,.rd (pre++beL t.size 2 2) (t.data.toList++rest)):=by simp only[PS.num,szB,Qs];rw[if_pos (by simp[hl2]),List.take_left' hl2,List.drop_left' hl2,hnum]
 have hx:(PS.rd (pre++beL t.size 2 2) (t.data.toList++rest)).txt [] t.size=some (t.data.toList,.rd (pre++szB t) rest):=by simp only[PS.txt];rw[if_pos (by simp[htl]),List.take_left' htl,List.drop_left' htl,szB,Qs]
 have HN:Hid (Calls prog 138 #[.pointer (some ⟨b,0,none⟩),.int .u64 ((0:Nat):Int),.int .i64 2] w λe w'=>e=.returned (.int .u64 (t.size:Int))/\JY w w' b none wj (.rd (pre++beL t.size 2 2) (t.data.toList++rest))):=Xs b none wj 0 2 t.size _ _ w hp (by omega) (by simp only[PS.len,Qe,JbQ];omega) hn;have HT:Hid (∀w1 g1,Jc w1 b g1 wj .nilIface (.rd (pre++beL t.size 2 2) (t.data.toList++rest))->Calls prog 209 #[.pointer (some ⟨b,0,none⟩),.string ⟨#[]⟩,.int .i64 (t.size:Int)] w1 λe w'=>e=.returned (.string t)/\JY w1 w' b g1 wj (.rd (pre++szB t) rest)):=λw1 g1 h1=>
  (Zk b g1 wj ⟨#[]⟩ t.size t.data.toList _ _ w1 h1 (by simp only[PS.len,Qe,hl2,htl];omega) hx).mono λe w' k=>⟨by rw[k.1,strL],k.2⟩
 have h2:IntKind.i64.wrap (t.size:Int)=(t.size:Int):=Xe _ (by omega) (by omega);have h3:IntKind.u64.wrap (0:Int)=0:=by decide
 generalize t.size=sz at *;clear hp hn hx hd hdl ht hnum htl hl2;go_enter func210,ntmps210;go_wp2_with fail;refine HN.o.mono ?_;rintro _ w1⟨rfl,g1,hp1,hm1,ht1⟩;have HM1:Hid (Jm w none g1):=hm1;have HT1:Hid (Tch _ w w1):=ht1;have HP1:Hid (Jc _ _ _ _ _ _):=hp1;clear hp1 hm1 ht1 HN;go_wp2_with fail;refine(HT.o w1 g1 HP1.o).mono ?_;rintro _ w2⟨rfl,hto⟩;have HTO:Hid (JY w w2 b none wj _):=JY.trans HM1.o HT1.o hto;clear hto HT HP1;go_wp2;go_ret;exact⟨rfl,HTO.o⟩
structure RowR(b:Nat)(wj:Int)(w:World)(pre:List UInt8)(l r:List BA)(v:Value)(wr:World):Prop where
 own:NOwn w.heap.size wr v l
 port:Jc wr b none wj .nilIface (.rd (pre++szsB l) (szsB r))
 tch:Tch (λk=>k=b) w wr
theorem RowR.next(h:RowR b wj w pre l r v wr)(k:Tch NoB wr w1):RowR b wj w pre l r v w1:=
 ⟨h.own.tch k (λ_ _ e=>e),h.port.tch k (λe=>e) (λ_ _ e=>e),h.tch.trans k (λ_ e=>e.elim)⟩
theorem RowR.add{x:BA}(h:RowR b wj w pre l (x::r) v wr)(hb:b<w.heap.size)(hl:l.length<=1000000000)(h1:JY wr w1 b none wj (.rd (pre++szsB l++szB x) (szsB r))):
  ∃v' w3,(Builtin.append_ #[58,58] 58 #[v,.slice (some ⟨w1.heap.size,0,none⟩) 1 1]).run prog (w1.alloc (.cells #[.string x] 9))=.ok v' w3/\RowR b wj w pre (l++[x]) r v' w3:=by
 obtain⟨g2,hp2,hm2,ht2⟩:=h1;have hg2:g2=none:=hp2.1;subst hg2;have hz:=h.tch.size;have hz2:=ht2.size;have hown:∀k,v.ownBlock=some k->w.heap.size<=k:=λk hk=>(h.own.own k hk).1;have tb:Tch (λk=>k=b) wr w1:=ht2.mono (λk hk=>by
  rcases hk with hk|hk
  ·exact .inl hk
  ·cases hk)
 have n1:NOwn w.heap.size w1 v l:=h.own.tch tb (λk hk e=>by have:=hown k hk;omega);have tA:=Ta NoB w1 (.cells #[.string x] 9);obtain⟨v',w3,hr,h3,hg⟩:=Xz (n1.tch tA (λ_ _ e=>e)) w1.heap.size x (Ja (Qf _ _)) 58 (by omega) (by simp;omega);refine⟨v',w3,hr,h3,?_,((h.tch.trans tb (λ_ e=>.inl e)).trans tA (λ_ e=>e.elim)).trans (Tg hg) (λk hk=>.inr (hown k hk.symm))⟩;have e:pre++szsB (l++[x])=pre++szsB l++szB x:=by simp[szsB]
 rw[e];exact(hp2.tch tA (λh=>h) (λ_ _ h=>h)).tch (Tg hg) (λe=>by have:=hown b e.symm;omega) (λ_ h=>by cases h)
theorem JnR(E:Nat->Addr)(b:Nat)(wj:Int)(what:BA)(l:List BA)(pre:List UInt8)(w:World)(hp:Jc w b none wj .nilIface (.rd pre (szsB l)))(hs:∀t∈l,t.size<65536)(hl:l.length<=1000000000)(hd:(pre++szsB l).length<=1000000000000):
  Calls prog 243 #[.pointer (some ⟨b,0,none⟩),.string what,.slice none 0 0,.func (.func 210) #[.pointer (some ⟨b,0,none⟩)] #[]] w λe w'=>∃v',e=.returned v'/\RowR b wj w pre l [] v' w':=by
 have hb:=hp.lt;have HS:Hid ((∀t∈l,t.size<65536)/\l.length<=1000000000/\(pre++szsB l).length<=1000000000000):=⟨hs,hl,hd⟩
 have HI0:Hid (RowR b wj w pre [] l (.slice none 0 0) w):=⟨NOwn.nil _ _,by simpa [szsB]using hp,Te _ _⟩
 obtain⟨n,hn⟩:∃n,n=l.length:=⟨_,rfl⟩
 have HN:Hid (n=l.length):=hn;have hnb:n<=1000000000:=by omega
 clear hp hs hl hd hn;go_enter func243,ntmps243;go_wp2;go_loopw [9,10] (λv9 i wr=>∃k:Nat,k<=n/\i=.int .i64 (k:Int)/\(∃a m c,v9=.slice a m c)/\Hid (RowR b wj w pre (l.take k) (l.drop k) v9 wr)) (λ_ i _=>n-(intOf i).toNat)
 case atStart=>exact⟨0,Nat.zero_le _,rfl,⟨_,_,_,rfl⟩,HI0⟩
 case round=>
  obtain⟨k,hk,rfl,⟨a9,m9,c9,rfl⟩,HI⟩:=hrel;have HM:Hid (Calls prog 221 #[.pointer (some ⟨b,0,none⟩),.bool false] wr λe w'=>e=.returned (.bool (!(szsB (l.drop k)).isEmpty))/\Tch NoB wr w'):=Jio E b none wj false (some (.rd (pre++szsB (l.take k)) (szsB (l.drop k)))) wr HI.o.port;have hki:¬(k:Int)<0:=by omega
  by_cases hlt:k<n
  ·have hkl:k<l.length:=(by have:=HN.o;omega);obtain⟨x,hx⟩:∃x,x=l[k]:=⟨_,rfl⟩
   have hdr:l.drop k=x::l.drop (k+1):=(by rw[hx];exact List.drop_eq_getElem_cons hkl);have htk:l.take (k+1)=l.take k++[x]:=(by rw[hx,QQ hkl]);have hxs:x.size<65536:=(by rw[hx];exact HS.o.1 _ (Qx hkl));have hle:(pre++szsB (l.take k)++szB x++szsB (l.drop (k+1))).length<=1000000000000:=(by have h1:=HS.o.2.2;rw[<-List.take_append_drop (k+1) l,htk]at h1;simp only[szsB,List.flatMap_append,QG,List.flatMap_nil,QC,Qe]at h1 ⊢;omega);have hem:(szsB (l.drop k)).isEmpty=false:=by
    rw[hdr];have:(szsB (x::l.drop (k+1))).length ≠ 0:=by simp[szsB,JbQ]
    cases h:szsB (x::l.drop (k+1)) with
    | nil=>rw[h]at this;simp at this
    | cons _ _=>rfl
   rw[hem]at HM;rw[hdr]at HI;have HSZ:Hid (∀V,Jc V b none wj .nilIface (.rd (pre++szsB (l.take k)) (szB x++szsB (l.drop (k+1))))->Calls prog 210 #[.pointer (some ⟨b,0,none⟩),.string ⟨#[]⟩] V λe w'=>e=.returned (.string x)/\JY V w' b none wj (.rd (pre++szsB (l.take k)++szB x) (szsB (l.drop (k+1))))):=λV h=>JlC b wj _ _ x hxs (by rw[Jab x.size 2 (by omega) 2 (Ql _)];simp) hle V h;have HTK:Hid (l.take (k+1)=l.take k++[x]):=htk;clear hx hdr htk hxs hle hem hkl;go_wp2_with fail;refine HM.o.mono ?_;rintro _ w1⟨rfl,ht1⟩;have HI1:Hid (RowR b wj w pre (l.take k) (x::l.drop (k+1)) (.slice a9 m9 c9) w1):=HI.o.next ht1;have HC:Hid (Calls prog 210 #[.pointer (some ⟨b,0,none⟩),.string ⟨#[]⟩] w1 λe w'=>e=.returned (.string x)/\∃v' w3,(Builtin.append_ #[58,58] 58 #[.slice a9 m9 c9,.slice (some ⟨w'.heap.size,0,none⟩) 1 1]).run prog (w'.alloc (.cells #[.string x] 9))=.ok v' w3/\RowR b wj w pre (l.take k++[x]) (l.drop (k+1)) v' w3):=by refine(HSZ.o w1 (by have:=HI1.o.port;simpa [szsB]using this)).mono ?_;rintro e w2⟨rfl,hpt⟩;exact⟨rfl,HI1.o.add hb (by rw[QB];have:=HN.o;omega) hpt⟩
   clear ht1 HM HI HSZ;go_wp2_with fail;refine HC.o.mono ?_;rintro _ w2⟨rfl,v',w3,hap,hI3⟩;obtain⟨a',c',hsv⟩:=hI3.own.shape;have hsv2:∃a n c,v'=.slice a n c:=⟨_,_,_,hsv⟩
   clear hsv;obtain⟨a2,m2,c2,rfl⟩:=hsv2;have ce:=hI3.port.errCell;have HI3:Hid (RowR b wj w pre (l.take k++[x]) (l.drop (k+1)) (.slice a2 m2 c2) w3):=hI3;clear hI3 HC;go_wp2_with (at_builtin;refine Xu rfl _ _ 58 rfl rfl rfl hap ?_);go_roundw
   case rel=>exact⟨k+1,hlt,by go_num,⟨_,_,_,rfl⟩,by rw[HTK.o];exact HI3⟩
   case measure=>simp[intOf];omega
  ·have hle:l.length<=k:=(by have:=HN.o;omega);have HKE:Hid (l.take k=l/\l.drop k=[]):=⟨QR hle,List.drop_of_length_le hle⟩
   have hem:(szsB (l.drop k)).isEmpty=true:=(by rw[HKE.o.2];rfl);rw[hem]at HM;clear hle hem;go_wp2_with fail;refine HM.o.mono ?_;rintro _ w1⟨rfl,ht1⟩;have HI1:Hid (RowR b wj w pre (l.take k) (l.drop k) (.slice a9 m9 c9) w1):=HI.o.next ht1;clear ht1 HI HM;go_wp2;go_ret;exact⟨_,rfl,by have:=HI1.o;rwa [HKE.o.1,HKE.o.2]at this⟩
theorem JdS(E:Nat->Addr)(b:Nat)(wj:Int)(l:List BA)(pre:List UInt8)(w:World)(hp:Jc w b none wj .nilIface (.rd pre (szsB l)))(hs:∀t∈l,t.size<65536)(hr:ZJ l)(hl:l.length<=1000000000)(hd:(pre++szsB l).length<=1000000000000):
  Calls prog 156 #[.pointer (some ⟨b,0,none⟩),.slice none 0 0] w λe w'=>∃v',e=.returned v'/\RowR b wj w pre l [] v' w':=by
 have hmf:∀(fn:Fn)(first cap:Array Value)(w:World),(Instr.makeFunc fn first cap).run prog w=.ok (.func fn first cap) w:=λ_ _ _ _=>rfl;have HRW:Hid (Calls prog 243 _ w _):=JnR E b wj ⟨#[110,111,100,101]⟩ l pre w hp hs hl hd;have HRI:Hid (∀V v',RowR b wj w pre l [] v' V->Calls prog 244 #[.pointer (some ⟨b,0,none⟩),.string ⟨#[110,111,100,101]⟩,v',.func (.func 245) #[] #[]] V λe w'=>e=.returned (.tuple #[])/\RowR b wj w pre l [] v' w'):=λV v' h=>
  (Jdv b none wj _ _ v' l _ V h.port h.own hr hl).mono λe w' k=>⟨k.1,h.next k.2⟩
 clear hp hs hr hl hd;go_enter func156,ntmps156;go_wp2_with fail;refine HRW.o.mono ?_;rintro _ w1⟨v',rfl,hI⟩;obtain⟨a',c',hv'⟩:=hI.own.shape;subst hv';have HI:Hid (RowR b wj w pre l [] (.slice a' l.length c') w1):=hI;clear hI HRW;go_wp2_with fail;refine(HRI.o w1 _ HI.o).mono ?_;rintro _ w2⟨rfl,hI2⟩;have HI2:Hid (RowR b wj w pre l [] (.slice a' l.length c') w2):=hI2;clear hI2;go_wp2;go_ret;exact⟨_,rfl,HI2.o⟩
