import Derived.Test.YtighkdnooglfjaaGreatDoorLxLiE
namespace Go.Proofs.YtighkdnooglfjaaGreatDoor
open Tryz
set_option maxRecDepth 100000
set_option maxHeartbeats 2000000
open Go.RowKit

variable {s:BA}{b:Bool}{x:Jk}{l r:List BA}{pre:List UInt8}{p wj:Nat}{v:Value}{w w1 wr:World}
theorem JlB(b:Nat)(wj:Int)(pre rest:List UInt8)(t:BA)(ht:t.size<65536)(hnum:numL (beL t.size 2 2)=t.size)(hd:(pre++szB t++rest).length<=1000000000000)(w:World)(hp:Jc w b none wj .nilIface (.rd pre (szB t++rest))):
  Calls prog 210 #[.pointer (some ⟨b,0,none⟩),.string ⟨#[]⟩] w λe w'=>e=.returned (.string t)/\JW w w' b none wj (.rd (pre++szB t) rest):=by
 have hl2:(beL t.size 2 2).length=2:=Jf _ _ _;have htl:t.data.toList.length=t.size:=JR t;have hdl:pre.length+(t.size+2)+rest.length<=1000000000000:=by simp only[Qe,JbQ]at hd;omega
 have hn:(PS.rd pre (szB t++rest)).num 0 2=some (t.size,.rd (pre++beL t.size 2 2) (t.data.toList++rest)):=by simp only[PS.num,szB,Qs];rw[if_pos (by simp[hl2]),List.take_left' hl2,List.drop_left' hl2,hnum]
 have hx:(PS.rd (pre++beL t.size 2 2) (t.data.toList++rest)).txt [] t.size=some (t.data.toList,.rd (pre++szB t) rest):=by simp only[PS.txt];rw[if_pos (by simp[htl]),List.take_left' htl,List.drop_left' htl,szB,Qs]
 have HN:Hid (Calls prog 138 #[.pointer (some ⟨b,0,none⟩),.int .u64 ((0:Nat):Int),.int .i64 2] w λe w'=>e=.returned (.int .u64 (t.size:Int))/\JW w w' b none wj (.rd (pre++beL t.size 2 2) (t.data.toList++rest))):=Xp b none wj 0 2 t.size _ _ w hp (by omega) (by simp only[PS.len,Qe,JbQ];omega) hn;have HT:Hid (∀w1 g1,Jc w1 b g1 wj .nilIface (.rd (pre++beL t.size 2 2) (t.data.toList++rest))->Calls prog 209 #[.pointer (some ⟨b,0,none⟩),.string ⟨#[]⟩,.int .i64 (t.size:Int)] w1 λe w'=>e=.returned (.string t)/\JW w1 w' b g1 wj (.rd (pre++szB t) rest)):=λw1 g1 h1=>
  (Zj b g1 wj ⟨#[]⟩ t.size t.data.toList _ _ w1 h1 (by simp only[PS.len,Qe,hl2,htl];omega) hx).mono λe w' k=>⟨by rw[k.1,strL],k.2⟩
 have h2:IntKind.i64.wrap (t.size:Int)=(t.size:Int):=Xc _ (by omega) (by omega);have h3:IntKind.u64.wrap (0:Int)=0:=by decide
 generalize t.size=sz at *;clear hp hn hx hd hdl ht hnum htl hl2;go_enter func210,ntmps210;go_wp2_with fail;refine HN.o.mono ?_;rintro _ w1⟨rfl,g1,hp1,hm1,ht1⟩;have HM1:Hid (Jm w none g1):=hm1;have HT1:Hid (Tch _ w w1):=ht1;have HP1:Hid (Jc _ _ _ _ _ _):=hp1;clear hp1 hm1 ht1 HN;go_wp2_with fail;refine(HT.o w1 g1 HP1.o).mono ?_;rintro _ w2⟨rfl,hto⟩;have HTO:Hid (JW w w2 b none wj _):=JW.trans HM1.o HT1.o hto;clear hto HT HP1;go_wp2;go_ret;exact⟨rfl,HTO.o⟩
structure RowR(b:Nat)(wj:Int)(w:World)(pre:List UInt8)(l r:List BA)(v:Value)(wr:World):Prop where
 own:NOwn w.heap.size wr v l
 port:Jc wr b none wj .nilIface (.rd (pre++szsB l) (szsB r))
 tch:Tch (λk=>k=b) w wr
theorem RowR.next{b:Nat}{wj:Int}(h:RowR b wj w pre l r v wr)(k:Tch NoB wr w1):RowR b wj w pre l r v w1:=
 ⟨h.own.tch k (λ_ _ e=>e),h.port.tch k (λe=>e) (λ_ _ e=>e),h.tch.trans k (λ_ e=>e.elim)⟩
theorem RowR.add{b:Nat}{wj:Int}{x:BA}(h:RowR b wj w pre l (x::r) v wr)(hb:b<w.heap.size)(hl:l.length<=1000000000)(h1:JW wr w1 b none wj (.rd (pre++szsB l++szB x) (szsB r))):
  ∃v' w3,(Builtin.append_ #[58,58] 58 #[v,.slice (some ⟨w1.heap.size,0,none⟩) 1 1]).run prog (w1.alloc (.cells #[.string x] 9))=.ok v' w3/\RowR b wj w pre (l++[x]) r v' w3:=by
 obtain⟨g2,hp2,hm2,ht2⟩:=h1;have hg2:g2=none:=hp2.1;subst hg2;have hz:=h.tch.size;have hz2:=ht2.size;have hown:∀k,v.ownBlock=some k->w.heap.size<=k:=λk hk=>(h.own.own k hk).1;have tb:Tch (λk=>k=b) wr w1:=ht2.mono (λk hk=>by
  rcases hk with hk|hk
  ·exact .inl hk
  ·cases hk)
 have n1:NOwn w.heap.size w1 v l:=h.own.tch tb (λk hk e=>by have:=hown k hk;omega);have tA:=Ta NoB w1 (.cells #[.string x] 9);obtain⟨v',w3,hr,h3,hg⟩:=Xx (n1.tch tA (λ_ _ e=>e)) w1.heap.size x (Ja (Qf _ _)) 58 (by omega) (by simp;omega);refine⟨v',w3,hr,h3,?_,((h.tch.trans tb (λ_ e=>.inl e)).trans tA (λ_ e=>e.elim)).trans (Tg hg) (λk hk=>.inr (hown k hk.symm))⟩;have e:pre++szsB (l++[x])=pre++szsB l++szB x:=by simp[szsB]
 rw[e];exact(hp2.tch tA (λh=>h) (λ_ _ h=>h)).tch (Tg hg) (λe=>by have:=hown b e.symm;omega) (λ_ h=>by cases h)
theorem JnO(E:Nat->Addr)(b:Nat)(wj:Int)(what:BA)(l:List BA)(pre:List UInt8)(w:World)(hp:Jc w b none wj .nilIface (.rd pre (szsB l)))(hs:∀t∈l,t.size<65536)(hl:l.length<=1000000000)(hd:(pre++szsB l).length<=1000000000000):
  Calls prog 243 #[.pointer (some ⟨b,0,none⟩),.string what,.slice none 0 0,.func (.func 210) #[.pointer (some ⟨b,0,none⟩)] #[]] w λe w'=>∃v',e=.returned v'/\RowR b wj w pre l [] v' w':=by
 have hb:=hp.lt;have HS:Hid ((∀t∈l,t.size<65536)/\l.length<=1000000000/\(pre++szsB l).length<=1000000000000):=⟨hs,hl,hd⟩
 have HI0:Hid (RowR b wj w pre [] l (.slice none 0 0) w):=⟨NOwn.nil _ _,by simpa [szsB]using hp,Te _ _⟩
 obtain⟨n,hn⟩:∃n,n=l.length:=⟨_,rfl⟩
 have HN:Hid (n=l.length):=hn;have hnb:n<=1000000000:=by omega
 clear hp hs hl hd hn;go_enter func243,ntmps243;go_wp2;go_loopw [9,10] (λv9 i wr=>∃k:Nat,k<=n/\i=.int .i64 (k:Int)/\(∃a m c,v9=.slice a m c)/\Hid (RowR b wj w pre (l.take k) (l.drop k) v9 wr)) (λ_ i _=>n-(intOf i).toNat)
 case atStart=>exact⟨0,Nat.zero_le _,rfl,⟨_,_,_,rfl⟩,HI0⟩
 case round=>
  obtain⟨k,hk,rfl,⟨a9,m9,c9,rfl⟩,HI⟩:=hrel;have HM:Hid (Calls prog 221 #[.pointer (some ⟨b,0,none⟩),.bool false] wr λe w'=>e=.returned (.bool (!(szsB (l.drop k)).isEmpty))/\Tch NoB wr w'):=Jir E b none wj false (some (.rd (pre++szsB (l.take k)) (szsB (l.drop k)))) wr HI.o.port;have hki:¬(k:Int)<0:=by omega
  by_cases hlt:k<n
  ·have hkl:k<l.length:=(by have:=HN.o;omega);obtain⟨x,hx⟩:∃x,x=l[k]:=⟨_,rfl⟩
   have hdr:l.drop k=x::l.drop (k+1):=(by rw[hx];exact List.drop_eq_getElem_cons hkl);have htk:l.take (k+1)=l.take k++[x]:=(by rw[hx,QQ hkl]);have hxs:x.size<65536:=(by rw[hx];exact HS.o.1 _ (Qx hkl));have hle:(pre++szsB (l.take k)++szB x++szsB (l.drop (k+1))).length<=1000000000000:=(by have h1:=HS.o.2.2;rw[<-List.take_append_drop (k+1) l,htk]at h1;simp only[szsB,List.flatMap_append,QG,List.flatMap_nil,QC,Qe]at h1 ⊢;omega);have hem:(szsB (l.drop k)).isEmpty=false:=by
    rw[hdr];have:(szsB (x::l.drop (k+1))).length ≠ 0:=by simp[szsB,JbQ]
    cases h:szsB (x::l.drop (k+1)) with
    | nil=>rw[h]at this;simp at this
    | cons _ _=>rfl
   rw[hem]at HM;rw[hdr]at HI;have HSZ:Hid (∀V,Jc V b none wj .nilIface (.rd (pre++szsB (l.take k)) (szB x++szsB (l.drop (k+1))))->Calls prog 210 #[.pointer (some ⟨b,0,none⟩),.string ⟨#[]⟩] V λe w'=>e=.returned (.string x)/\JW V w' b none wj (.rd (pre++szsB (l.take k)++szB x) (szsB (l.drop (k+1))))):=λV h=>JlB b wj _ _ x hxs (by rw[Jab x.size 2 (by omega) 2 (Ql _)];simp) hle V h;have HTK:Hid (l.take (k+1)=l.take k++[x]):=htk;clear hx hdr htk hxs hle hem hkl;go_wp2_with fail;refine HM.o.mono ?_;rintro _ w1⟨rfl,ht1⟩;have HI1:Hid (RowR b wj w pre (l.take k) (x::l.drop (k+1)) (.slice a9 m9 c9) w1):=HI.o.next ht1;have HC:Hid (Calls prog 210 #[.pointer (some ⟨b,0,none⟩),.string ⟨#[]⟩] w1 λe w'=>e=.returned (.string x)/\∃v' w3,(Builtin.append_ #[58,58] 58 #[.slice a9 m9 c9,.slice (some ⟨w'.heap.size,0,none⟩) 1 1]).run prog (w'.alloc (.cells #[.string x] 9))=.ok v' w3/\RowR b wj w pre (l.take k++[x]) (l.drop (k+1)) v' w3):=by refine(HSZ.o w1 (by have:=HI1.o.port;simpa [szsB]using this)).mono ?_;rintro e w2⟨rfl,hpt⟩;exact⟨rfl,HI1.o.add hb (by rw[QB];have:=HN.o;omega) hpt⟩
   clear ht1 HM HI HSZ;go_wp2_with fail;refine HC.o.mono ?_;rintro _ w2⟨rfl,v',w3,hap,hI3⟩;obtain⟨a',c',hsv⟩:=hI3.own.shape;have hsv2:∃a n c,v'=.slice a n c:=⟨_,_,_,hsv⟩
   clear hsv;obtain⟨a2,m2,c2,rfl⟩:=hsv2;have ce:=hI3.port.errCell;have HI3:Hid (RowR b wj w pre (l.take k++[x]) (l.drop (k+1)) (.slice a2 m2 c2) w3):=hI3;clear hI3 HC;go_wp2_with (at_builtin;refine Xr rfl _ _ 58 rfl rfl rfl hap ?_);go_roundw
   case rel=>exact⟨k+1,hlt,by go_num,⟨_,_,_,rfl⟩,by rw[HTK.o];exact HI3⟩
   case measure=>simp[intOf];omega
  ·have hle:l.length<=k:=(by have:=HN.o;omega);have HKE:Hid (l.take k=l/\l.drop k=[]):=⟨QR hle,List.drop_of_length_le hle⟩
   have hem:(szsB (l.drop k)).isEmpty=true:=(by rw[HKE.o.2];rfl);rw[hem]at HM;clear hle hem;go_wp2_with fail;refine HM.o.mono ?_;rintro _ w1⟨rfl,ht1⟩;have HI1:Hid (RowR b wj w pre (l.take k) (l.drop k) (.slice a9 m9 c9) w1):=HI.o.next ht1;clear ht1 HI HM;go_wp2;go_ret;exact⟨_,rfl,by have:=HI1.o;rwa [HKE.o.1,HKE.o.2]at this⟩
theorem JdU(E:Nat->Addr)(b:Nat)(wj:Int)(l:List BA)(pre:List UInt8)(w:World)(hp:Jc w b none wj .nilIface (.rd pre (szsB l)))(hs:∀t∈l,t.size<65536)(hr:ZJ l)(hl:l.length<=1000000000)(hd:(pre++szsB l).length<=1000000000000):
  Calls prog 156 #[.pointer (some ⟨b,0,none⟩),.slice none 0 0] w λe w'=>∃v',e=.returned v'/\RowR b wj w pre l [] v' w':=by
 have hmf:∀(fn:Fn)(first cap:Array Value)(w:World),(Instr.makeFunc fn first cap).run prog w=.ok (.func fn first cap) w:=λ_ _ _ _=>rfl;have HRW:Hid (Calls prog 243 _ w _):=JnO E b wj ⟨#[110,111,100,101]⟩ l pre w hp hs hl hd;have HRI:Hid (∀V v',RowR b wj w pre l [] v' V->Calls prog 244 #[.pointer (some ⟨b,0,none⟩),.string ⟨#[110,111,100,101]⟩,v',.func (.func 245) #[] #[]] V λe w'=>e=.returned (.tuple #[])/\RowR b wj w pre l [] v' w'):=λV v' h=>
  (Jdx b none wj _ _ v' l _ V h.port h.own hr hl).mono λe w' k=>⟨k.1,h.next k.2⟩
 clear hp hs hr hl hd;go_enter func156,ntmps156;go_wp2_with fail;refine HRW.o.mono ?_;rintro _ w1⟨v',rfl,hI⟩;obtain⟨a',c',hv'⟩:=hI.own.shape;subst hv';have HI:Hid (RowR b wj w pre l [] (.slice a' l.length c') w1):=hI;clear hI HRW;go_wp2_with fail;refine(HRI.o w1 _ HI.o).mono ?_;rintro _ w2⟨rfl,hI2⟩;have HI2:Hid (RowR b wj w pre l [] (.slice a' l.length c') w2):=hI2;clear hI2;go_wp2;go_ret;exact⟨_,rfl,HI2.o⟩

theorem JaI(s q a r:List UInt8)(k:Nat)(h:a.length=k):Jl s k (some (.rd q (a++r)))=(a,some (.rd (q++a) r)):=by
 subst h;have e:(PS.rd q (a++r)).txt s a.length=some (a,.rd (q++a) r):=by simp[PS.txt]
 simp[Jl,e]
theorem JdG(x:Nat)(q r:List UInt8)(n k:Nat)(h:n<2 ^ (8*k)):JP x k (some (.rd q (beL n k k++r)))=(n,some (.rd (q++beL n k k) r)):=by
 have hl:(beL n k k).length=k:=Jf _ _ _;have hb:numL (beL n k k)=n:=by rw[Jab n k h k (Ql _),Nat.sub_self];simp
 have e:(PS.rd q (beL n k k++r)).num x k=some (n,.rd (q++beL n k k) r):=by simp only[PS.num];rw[if_pos (by simp[hl]),List.take_left' hl,List.drop_left' hl,hb]
 simp[JP,e]
theorem JjK(hw:wj<=32)(h:XL wj x):∃q,XH wj Xa (some (.rd [] (txtN x)))=(x,some (.rd q [])):=by
 rcases h with rfl|⟨t,rfl,ht⟩
 ·exact⟨[69],rfl⟩
 ·rw[Xg]
  cases t with
  | leaf k o=>
   have h1:Jl Xa.1.data.toList 1 (some (.rd [] (Tr.text (dgW wj) (.leaf k o))))=([76],some (.rd [76] (k++outB o))):=JaI _ [] [76] (k++outB o) 1 rfl;have h2:Zv wj Xa.2.1.data.toList (some (.rd [76] (k++outB o)))=(k,some (.rd ([76]++k) (outB o))):=(by unfold Zv;rw[JaI _ [76] k (outB o) (wj+1) ht.1];simp only;rw[if_neg (by have:=ht.2.1;omega)]);have h3:stO Xa.2.2.1 (some (.rd ([76]++k) (outB o)))=(o,some (.rd ([76]++k++beL o.1 8 8++beL o.2 1 1) [])):=(by unfold stO outB;rw[JdG _ ([76]++k) (beL o.2 1 1) o.1 8 (by have:=ht.2.2.1;omega)];have:=JdG Xa.2.2.1.2 ([76]++k++beL o.1 8 8) [] o.2 1 (by have:=ht.2.2.2;omega);rw[QC]at this;simp only[this]);refine⟨[76]++k++beL o.1 8 8++beL o.2 1 1,?_⟩;unfold XH XT;rw[h1];simp only[h2,h3];rfl
  | br b l r=>
   have hl:=(JR (Tr.dig (dgW wj) l)).trans (ZM hw l);have hr:=(JR (Tr.dig (dgW wj) r)).trans (ZM hw r);have h1:Jl Xa.1.data.toList 1 (some (.rd [] (Tr.text (dgW wj) (.br b l r))))=([78],some (.rd [78] (beL b 2 2++((Tr.dig (dgW wj) l).data.toList++(Tr.dig (dgW wj) r).data.toList)))):=JaI _ [] [78] _ 1 rfl;have h2:Zc wj Xa.2.2.2.1 (some (.rd [78] (beL b 2 2++((Tr.dig (dgW wj) l).data.toList++(Tr.dig (dgW wj) r).data.toList))))=(b,some (.rd ([78]++beL b 2 2) ((Tr.dig (dgW wj) l).data.toList++(Tr.dig (dgW wj) r).data.toList))):=(by unfold Zc;rw[JdG _ [78] _ b 2 (by have:=ht.1;omega)];simp only;rw[if_neg (by have:=ht.1;omega)]);have h3:=JaI Xa.2.2.2.2.1.data.toList ([78]++beL b 2 2) (Tr.dig (dgW wj) l).data.toList (Tr.dig (dgW wj) r).data.toList wj hl;have h4:=JaI Xa.2.2.2.2.2.data.toList ([78]++beL b 2 2++(Tr.dig (dgW wj) l).data.toList) (Tr.dig (dgW wj) r).data.toList [] wj hr;rw[QC]at h4;refine⟨[78]++beL b 2 2++(Tr.dig (dgW wj) l).data.toList++(Tr.dig (dgW wj) r).data.toList,?_⟩;unfold XH stBr;rw[h1];simp only[h2,h3,h4];rfl

theorem Jge(h:(Instr.lookup 262 (.map (some p)) (.string s) true).run prog w=.ok (.tuple #[.agg (Jo x),.bool b]) w):
  Calls prog 298 #[.map (some p),.string s] w λe w'=>e=.returned (.bool b)/\Tch NoB w w':=by
 obtain⟨n1,n2,⟨n3,n4⟩,n5,n6,n7⟩:=x;simp only[Jo]at h;have hT:=Ta NoB w (.cells #[.string n1,.string n2,.int .u64 (n3:Int),.int .u8 (n4:Int),.int .i64 n5,.string n6,.string n7] 281);go_enter func298,ntmps298;go_wp2;go_ret;exact⟨rfl,hT⟩
theorem JcN{a o:Int}(h:(Instr.lookup 268 (.map (some p)) (.string s) true).run prog w=.ok (.tuple #[.agg #[.int .u64 a,.int .u8 o],.bool b]) w):
  Calls prog 238 #[.map (some p),.string s] w λe w'=>e=.returned (.bool b)/\Tch NoB w w':=by
 have hT:=Ta NoB w (.cells #[.int .u64 a,.int .u8 o] 80);go_enter func238,ntmps238;go_wp2;go_ret;exact⟨rfl,hT⟩
theorem JcM(h:(Instr.lookup 267 (.map (some p)) (.string s) true).run prog w=.ok (.tuple #[.agg #[],.bool b]) w):
  Calls prog 231 #[.map (some p),.string s] w λe w'=>e=.returned (.bool b)/\Tch NoB w w':=by
 have hT:=Ta NoB w (.cells #[] 288);go_enter func231,ntmps231;go_wp2;go_ret;exact⟨rfl,hT⟩

theorem JfA:KLw 9:=KLw.str underlying9
theorem byTy:MpTy 262 9 281 (.agg (Jo Xa)):=⟨underlying262,JfA,λw=>by kernel_rfl⟩
theorem Jez:MpTy 268 9 80 (.agg #[.int .u64 0,.int .u8 0]):=⟨underlying268,JfA,λw=>by kernel_rfl⟩
theorem Jgu:MpTy 267 9 288 (.agg #[]):=⟨underlying267,JfA,λw=>by kernel_rfl⟩
section
variable {α:Type}{enc:α->Value}{l:List (BA×α)}{s:BA}{a:α}{m e:TypeId}{z:Value}{w:World}{p:Nat}
def smE(enc:α->Value)(l:List (BA×α)):List (Value×Value):=l.map λq=>(.string q.1,enc q.2)
theorem Je6(s:BA):IsK 9 (.string s):=.inr ⟨underlying9,s,rfl⟩
theorem JcV:∀q∈smE enc l,IsK 9 q.1:=λq hq=>by
 obtain⟨x,_,rfl⟩:=QK.1 hq;exact Je6 _
theorem JlC:(smE enc l).map (·.1)=(l.map (·.1)).map Value.string:=by simp[smE]
theorem JgQ(h:(l.map (·.1)).Nodup):((smE enc l).map (·.1)).Nodup:=by
 rw[JlC];exact List.Pairwise.map _ (λa b hab e=>hab (by cases e;rfl)) h
theorem JlD(h:s ∉ l.map (·.1)):Value.string s ∉ (smE enc l).map (·.1):=by
 rw[JlC];intro k;obtain⟨x,hx,e⟩:=QK.1 k
 cases e
 exact h hx
theorem Jcg(T:MpTy m 9 e z)(h:MpAt w p (smE enc l))(hd:(l.map (·.1)).Nodup)(hq:(s,a)∈l)(c:Bool):(Instr.lookup m (.map (some p)) (.string s) c).run prog w=.ok (if c then .tuple #[enc a,.bool true] else enc a) w:=by
 obtain⟨j,hj⟩:=List.getElem?_of_mem hq;exact Jfk T h JcV (JgQ hd) j (by rw[smE,List.getElem?_map,hj];rfl) c
theorem JaU(T:MpTy m 9 e z)(h:MpAt w p (smE enc l))(hn:s ∉ l.map (·.1))(c:Bool):(Instr.lookup m (.map (some p)) (.string s) c).run prog w=.ok (if c then .tuple #[z,.bool false] else z) w:=
 Jis T h (Je6 s) JcV (JlD hn) c
theorem Jfw(T:MpTy m 9 e z)(h:MpAt w p (smE enc l))(hn:s ∉ l.map (·.1)):(Instr.mapUpdate m (.map (some p)) (.string s) (enc a)).run prog w=.ok () (w.setMp p (smE enc (l++[(s,a)])))/\MpAt (w.setMp p (smE enc (l++[(s,a)]))) p (smE enc (l++[(s,a)])):=by
 refine⟨?_,Zu h _⟩;rw[JnH T h (Je6 s) JcV (JlD hn)];simp[smE]
end
abbrev byE(b:ByL):List (Value×Value):=smE (λn=>.agg (Jo n)) b
def Jm2(b:ByL)(d:BA):Prop:=d∈b.map (·.1)
def JaL(b:ByL):Prop:=¬(b.map (·.1)).Nodup
def Er3(w:World):Prop:=(∃t u,w.cell? ⟨12,0,none⟩=some (.iface t u))/\(∃t u,w.cell? ⟨9,0,none⟩=some (.iface t u))/\∃t u,w.cell? ⟨10,0,none⟩=some (.iface t u)
theorem Er3.tch{S:Nat->Prop}{w':World}(h:Er3 w)(k:Tch S w w')(hs:∀j,S j->18<=j):Er3 w':=by
 have hk:∀g,g<18->(∃t u,w.cell? ⟨g,0,none⟩=some (.iface t u))->∃t u,w'.cell? ⟨g,0,none⟩=some (.iface t u):=λg hg ⟨t,u,hc⟩=>⟨t,u,(k.cell (Qr _ _ hc) (λe=>by have:=hs _ e;show False;simp only at this;omega)).trans hc⟩
 exact⟨hk _ (by decide) h.1,hk _ (by decide) h.2.1,hk _ (by decide) h.2.2⟩
theorem Jl2(E:Nat->Addr)(hw1:1<=wj)(hw:wj<=32)(p:Nat)(b:ByL)(i:Value)(hx:XL wj x)(w:World)(hE:Env E w)(hT:Er3 w)(hp12:18<=p)(hm:MpAt w p (byE b))(hd:(b.map (·.1)).Nodup):
  Calls prog 228 #[.agg #[.int .i64 (wj:Int),.map (some p)],i,.string (bsL (txtN x))] w λe w'=>Tch (λj=>j=p) w w'/\((dgW wj (txtN x) ∉ b.map (·.1)/\e=.returned .nilIface/\MpAt w' p (byE (b++[(dgW wj (txtN x),x)])))\/(Jm2 b (dgW wj (txtN x))/\∃t u,e=.returned (.iface t u))):=by
 obtain⟨q,hq⟩:=JjK hw hx;have hlen:=Zx hw hx;have hpl:=(Jb hm)
 obtain⟨W,hW⟩:∃W,W=w.alloc (.cells #[.int .i64 (wj:Int),.map (some p)] 264):=⟨_,rfl⟩
 have tA:Tch NoB w W:=by rw[hW];exact Ta _ _ _
 have r0:W.heap[w.heap.size]? =some (.cells #[.int .i64 (wj:Int),.map (some p)] 264):=by rw[hW];exact Qf _ _
 have HW:Hid (W=_):=hW;have HTA:Hid (Tch NoB w W):=tA;have hsz:W.heap.size=w.heap.size+1:=by rw[hW];simp
 obtain⟨B,hB⟩:∃B,B=W.heap.size:=⟨_,rfl⟩
 have HND:Hid (∀V,Tch NoB W V->Jc V B none (wj:Int) .nilIface (.rd [] (txtN x))->Calls prog 240 #[.pointer (some ⟨B,0,none⟩),.agg #[.string ⟨#[]⟩,.string ⟨#[]⟩,.int .u64 0,.int .u8 0,.int .i64 0,.string ⟨#[]⟩,.string ⟨#[]⟩]] V λe w'=>e=.returned (.agg (Jo x))/\Jc w' B none (wj:Int) .nilIface (.rd q [])/\Tch (λj=>j=B) V w'):=λV hV hP=>by
  have:=Jit E B (by rw[hB,hsz];have:=hE.size;omega) none wj (by omega) Xa (by decide) (some (.rd [] (txtN x))) V ((hE.tch tA noE).tch hV noE) hP (by simp[JZ,PS.len];omega);rw[hq]at this;refine this.mono ?_;rintro e w'⟨rfl,g',h1,h2,h3⟩;have hg:g'=none:=h1.1;subst hg;exact⟨rfl,h1,h3.mono (λj hj=>hj.elim (λh=>.inl h) (λh=>by cases h))⟩
 have HOF:Hid (∀V,Tch (λj=>j=B) W V->Calls prog 130 #[.int .i64 (wj:Int),.string (bsL (txtN x))] V λe w'=>e=.returned (.string (dgW wj (txtN x)))/\Tch NoB V w'):=λV hV=>Jbe E wj (bsL (txtN x)) V ((hE.tch tA noE).tch hV (λj h=>by rw[h,hB,hsz];have:=hE.size;omega)) hw1 hw (by show (txtN x).toArray.size<=_;simp;omega);have HNR:Hid (∀V,Calls prog 85 #[.int .i64 (wj:Int),.string (bsL (txtN x))] V λe w'=>e=.returned (.pointer (some ⟨V.heap.size,0,none⟩))/\Jc w' V.heap.size none wj .nilIface (.rd [] (txtN x))/\Tch NoB V w'):=λV=>XR _ _ _;have HDN:Hid (∀V,Jc V B none (wj:Int) .nilIface (.rd q [])->Calls prog 88 #[.pointer (some ⟨B,0,none⟩)] V λe w'=>e=.returned .nilIface/\Tch NoB V w'):=λV h=>JbH B _ q V h;obtain⟨dg,hdg⟩:∃dg,dg=dgW wj (txtN x):=⟨_,rfl⟩
 rw[<-hdg]at HOF ⊢;obtain⟨tx,htx⟩:∃tx,tx=bsL (txtN x):=⟨_,rfl⟩
 rw[<-htx]at HOF HNR ⊢;generalize hpl':txtN x=pl at *;have HP:Hid (p<w.heap.size/\18<=p):=⟨hpl,hp12⟩
 have HM:Hid (MpAt w p (byE b)):=hm;have HD:Hid ((b.map (·.1)).Nodup):=hd;have HR0:Hid (W.heap[w.heap.size]? =_):=r0;have HER:Hid (Er3 w):=hT;have HBS:Hid (B=W.heap.size/\W.heap.size=w.heap.size+1):=⟨hB,hsz⟩
 have HX:Hid (Jo x=Jo x):=rfl;obtain⟨n1,n2,⟨n3,n4⟩,n5,n6,n7⟩:=x;have HNC:Hid (Jo (n1,n2,(n3,n4),n5,n6,n7)= #[.string n1,.string n2,.int .u64 (n3:Int),.int .u8 (n4:Int),.int .i64 n5,.string n6,.string n7]):=rfl;rw[HNC.o]at HND;have c0:W.cell? ⟨w.heap.size,0,none⟩=some (.int .i64 (wj:Int)):=Ja r0;clear hE hT hp12 hm hd hx hq hlen hpl tA r0 hW hsz hdg htx hpl' HX hB;go_enter func228,ntmps228;go_upto_region 1 with fail;rw[<-HW.o];go_wp2_with fail;refine(HNR.o W).mono ?_;rw[<-HBS.o.1];rintro _ w1⟨rfl,hp1,ht1⟩;have HT1:Hid (Tch NoB W w1):=ht1;have HP1:Hid (Jc w1 B none (wj:Int) .nilIface (.rd [] pl)):=hp1;clear ht1 hp1 HNR c0;go_wp2_with fail;refine(HND.o w1 HT1.o HP1.o).mono ?_;rintro _ w2⟨rfl,hp2,ht2⟩;obtain⟨W3,hW3⟩:∃W3,W3=w2.alloc (.cells #[.string n1,.string n2,.int .u64 (n3:Int),.int .u8 (n4:Int),.int .i64 n5,.string n6,.string n7] 281):=⟨_,rfl⟩
 have hA:Tch NoB w2 W3:=by rw[hW3];exact Ta _ _ _
 have HT3:Hid (Tch (λj=>j=B) W W3):=((HT1.o.mono noE).trans ht2 (λ_ h=>.inl h)).go hA;have HP3:Hid (Jc W3 B none (wj:Int) .nilIface (.rd q [])):=hp2.tch hA (λh=>h) (λ_ _ h=>h);have HR3:Hid (W3.heap[w2.heap.size]? =some (.cells #[.string n1,.string n2,.int .u64 (n3:Int),.int .u8 (n4:Int),.int .i64 n5,.string n6,.string n7] 281)):=by show W3.heap[w2.heap.size]? =_;rw[hW3];exact Qf _ _
 have HW3:Hid (W3=_):=hW3;have HZ2:Hid (W.heap.size<=w2.heap.size):=Qm HT1.o.size ht2.size;clear hp2 ht2 hA hW3 HND HT1 HP1;go_upto_region 3 with fail;rw[<-HW3.o];go_wp2_with fail;refine(HDN.o W3 HP3.o).mono ?_;rintro _ w4⟨rfl,ht4⟩;have HT4:Hid (Tch (λj=>j=B) W w4):=HT3.o.go ht4;have HT34:Hid (Tch NoB W3 w4):=ht4;have c0:w4.cell? ⟨w.heap.size,0,none⟩=some (.int .i64 (wj:Int)):=Ja ((HT4.o.block _ (Jb HR0.o) (by have:=HBS.o;omega)).trans HR0.o);clear ht4 HDN HP3;go_wp2_with fail;refine(HOF.o w4 HT4.o).mono ?_;rintro _ w5⟨rfl,ht5⟩;have HT5:Hid (Tch (λj=>j=B) W w5):=HT4.o.go ht5;have HTW:Hid (Tch NoB w w5):=HTA.o.trans HT5.o (λj hj=>.inr (by have:=HBS.o;omega));have hm5:=HM.o.next HTW.o (λh=>h);have HR5:Hid (w5.heap[w2.heap.size]? =some (.cells #[.string n1,.string n2,.int .u64 (n3:Int),.int .u8 (n4:Int),.int .i64 n5,.string n6,.string n7] 281)):=((HT34.o.go ht5).block _ (Jb HR3.o) (λh=>h)).trans HR3.o;have c1:w5.cell? ⟨w.heap.size,1,none⟩=some (.map (some p)):=Ja ((HT5.o.block _ (Jb HR0.o) (by have:=HBS.o;omega)).trans HR0.o);have HM5:Hid (MpAt w5 p (byE b)):=hm5;clear ht5 HOF hm5 HT34 HT4 c0 HT3 HR3
 by_cases hin:dg∈b.map (·.1)
 ·have HIN:Hid (Jm2 b dg):=hin;obtain⟨⟨dg',x'⟩,hq',rfl⟩:=QK.1 hin;have hl:=Jcg byTy HM5.o HD.o hq' true;have HH:Hid (Calls prog 298 #[.map (some p),.string dg'] w5 _):=Jge hl;obtain⟨⟨t,u,hte⟩,_,_⟩:=HER.o.tch HTW.o noE;clear hin hq' hl;go_wp2_with fail;refine HH.o.mono ?_;rintro _ w6⟨rfl,ht6⟩;have HT6:Hid (Tch NoB w5 w6):=ht6;have hte6:w6.cell? ⟨12,0,none⟩=some (.iface t u):=(ht6.cell (Qr _ _ hte) (λh=>h)).trans hte;clear ht6 hte HH c1;go_wp2_with fail;refine(Xk _ t u w6).mono ?_;rintro _ _⟨rfl,rfl⟩;go_wp2;go_ret;exact⟨((HTW.o.go HT6.o).go (Ta _ _ _)).mono noE,.inr ⟨HIN.o,_,_,rfl⟩⟩
 ·have HIN:Hid (dg ∉ b.map (·.1)):=hin;have hl:=JaU byTy HM5.o hin true;have HH:Hid (Calls prog 298 #[.map (some p),.string dg] w5 _):=Jge hl;clear hin hl;go_wp2_with fail;refine HH.o.mono ?_;rintro _ w6⟨rfl,ht6⟩;have HT6:Hid (Tch NoB w w6):=HTW.o.go ht6;have c1:w6.cell? ⟨w.heap.size,1,none⟩=some (.map (some p)):=(ht6.cell (Qr _ _ c1) (λh=>h)).trans c1;have hr6:=(ht6.block _ (Jb HR5.o) (λh=>h)).trans HR5.o;have k0:w6.cell? ⟨w2.heap.size,0,none⟩=some (.string n1):=Ja hr6;have k1:w6.cell? ⟨w2.heap.size,1,none⟩=some (.string n2):=Ja hr6;have k2:w6.cell? ⟨w2.heap.size,2,none⟩=some (.int .u64 (n3:Int)):=Ja hr6;have k3:w6.cell? ⟨w2.heap.size,3,none⟩=some (.int .u8 (n4:Int)):=Ja hr6;have k4:w6.cell? ⟨w2.heap.size,4,none⟩=some (.int .i64 n5):=Ja hr6;have k5:w6.cell? ⟨w2.heap.size,5,none⟩=some (.string n6):=Ja hr6;have k6:w6.cell? ⟨w2.heap.size,6,none⟩=some (.string n7):=Ja hr6;obtain⟨hup,hmn⟩:=Jfw (a:=(n1,n2,(n3,n4),n5,n6,n7)) byTy (HM5.o.next ht6 (λh=>h)) HIN.o

  rw[HNC.o]at hup;have HMN:Hid (MpAt _ p _):=hmn;have HTN:Hid (Tch (λj=>j=p) w6 _):=Tch.setMp w6 p (smE (λn=>.agg (Jo n)) (b++[(dg,(n1,n2,(n3,n4),n5,n6,n7))]));generalize w6.setMp p (smE (λn=>.agg (Jo n)) (b++[(dg,(n1,n2,(n3,n4),n5,n6,n7))]))=w7 at *;clear ht6 hr6 hmn HH;go_wp2;go_ret;exact⟨(HT6.o.mono noE).trans HTN.o (λ_ h=>.inl h),.inl ⟨HIN.o,rfl,HMN.o⟩⟩

theorem Jk4{E:Nat->Addr}(hE:Env E w)(i:Nat)(hi:i<=10000000000000):Calls prog 101 #[.int .i64 (i:Int)] w λe w'=>(∃s:BA,s.size<=30/\e=.returned (.string s))/\Tch NoB w w':=by
 refine(strconv_Itoa (i:Int) (by omega) (by omega) w hE.pow).mono λe w' h=>?_;obtain⟨h1,k,os,h2⟩:=h;refine⟨⟨_,?_,h1⟩,by rw[h2];exact(Tch.of_below (Jc6 w k os)).mono (λ_ h=>.inr h)⟩;have:=Lib.itoa_length_le (i:Int) (by omega) (by omega);show (Lib.itoa (i:Int)).toArray.size<=30;simp;omega
def byOf(wj:Nat)(xs:List Jk):ByL:=xs.map λx=>(dgW wj (txtN x),x)
structure AddI(wj p:Nat)(xs:List Jk)(w:World)(k:Nat)(W:World):Prop where
 tch:Tch (λj=>j=p) w W
 nd:((byOf wj (xs.take k)).map (·.1)).Nodup
 mp:MpAt W p (byE (byOf wj (xs.take k)))
theorem Jku(E:Nat->Addr)(hw1:1<=wj)(hw:wj<=32)(p:Nat)(xs:List Jk)(hxs:∀x∈xs,XL wj x)(w:World)(hE:Env E w)(hT:Er3 w)(hp:18<=p)(k:Nat)(hk:k<xs.length)(V:World)(hI:AddI wj p xs w k V):
  Calls prog 228 #[.agg #[.int .i64 (wj:Int),.map (some p)],.int .i64 (k:Int),.string (bsL (txtN xs[k]))] V λe w'=>(e=.returned .nilIface/\AddI wj p xs w (k+1) w')\/(Tch (λj=>j=p) w w'/\JaL (byOf wj xs)/\∃t u,e=.returned (.iface t u)):=by
 have hK:∀j,j=p->18<=j:=λj hj=>by rw[hj];exact hp
 refine(Jl2 E hw1 hw p _ _ (hxs _ (Qx hk)) V (hE.tch hI.tch hK) (hT.tch hI.tch hK) hp hI.mp hI.nd).mono ?_;rintro e w'⟨ht,⟨hn,rfl,hm⟩|⟨hin,t,u,rfl⟩⟩
 ·have e1:byOf wj (xs.take (k+1))=byOf wj (xs.take k)++[(dgW wj (txtN xs[k]),xs[k])]:=by
   unfold byOf;rw[QQ hk,List.map_append];rfl
  refine .inl ⟨rfl,hI.tch.trans ht (λ_ h=>.inl h),?_,by rw[e1];exact hm⟩;rw[e1,List.map_append,List.nodup_append];refine⟨hI.nd,by simp,?_⟩;rintro a ha b hb rfl;simp only[List.map_cons,List.map_nil,Qt]at hb;exact hn (hb ▸ ha)
 ·refine .inr ⟨hI.tch.trans ht (λ_ h=>.inl h),λhnd=>?_,t,u,rfl⟩;have e1:byOf wj xs=byOf wj (xs.take k)++byOf wj (xs.drop k):=by
   unfold byOf;rw[<-List.map_append,List.take_append_drop]
  rw[e1,List.map_append,List.nodup_append]at hnd;refine hnd.2.2 _ hin (dgW wj (txtN xs[k])) ?_ rfl;rw[List.drop_eq_getElem_cons hk];exact QM
theorem JkP(E:Nat->Addr)(hw1:1<=wj)(hw:wj<=32)(p:Nat)(xs:List Jk)(hxs:∀x∈xs,XL wj x)(hl:xs.length<=1000000000)(a:Option Addr)(c n:Nat)(hn:n=xs.length)(w:World)(hE:Env E w)(hT:Er3 w)(hp:18<=p)(hm:MpAt w p [])
 (hc:∀k (h:k<xs.length),∃g,a=some ⟨g,0,none⟩/\g ≠ p/\w.cell? ⟨g,k,none⟩=some (.string (bsL (txtN xs[k])))):
  Calls prog 227 #[.string ⟨#[110,111,100,101]⟩,.slice a n c,.func (.func 228) #[.agg #[.int .i64 (wj:Int),.map (some p)]] #[]] w λe w'=>Tch (λj=>j=p) w w'/\((e=.returned .nilIface/\((byOf wj xs).map (·.1)).Nodup/\MpAt w' p (byE (byOf wj xs)))\/(JaL (byOf wj xs)/\∃t u,e=.returned (.iface t u))):=by
 have HADD:Hid (∀k (hk:k<xs.length) V,AddI wj p xs w k V->Calls prog 228 #[.agg #[.int .i64 (wj:Int),.map (some p)],.int .i64 (k:Int),.string (bsL (txtN xs[k]))] V _):=λk hk V hI=>Jku E hw1 hw p xs hxs w hE hT hp k hk V hI;have HIT:Hid (∀V,Tch (λj=>j=p) w V->∀k:Nat,k<=1000000000->Calls prog 101 #[.int .i64 (k:Int)] V λe w'=>(∃s:BA,s.size<=30/\e=.returned (.string s))/\Tch NoB V w'):=λV hV k hk=>Jk4 (hE.tch hV (λj hj=>by rw[hj];exact hp)) k (by omega);have HC:Hid (∀k (h:k<xs.length),∃g,a=some ⟨g,0,none⟩/\g ≠ p/\w.cell? ⟨g,k,none⟩=some (.string (bsL (txtN xs[k])))):=hc;have HN:Hid (n=xs.length):=hn;have hnb:n<=1000000000:=by omega
 have HI0:Hid (AddI wj p xs w 0 w):=⟨Te _ _,by simp[byOf],by simpa [byOf,smE]using hm⟩
 clear hc hn hl hxs hE hT hp hm;go_enter func227,ntmps227;go_wp2;go_loopw [12] (λi wr=>∃k:Nat,k<=n/\i=.int .i64 (k:Int)/\Hid (AddI wj p xs w k wr)) (λi _=>n-(intOf i).toNat)
 case atStart=>exact⟨0,Nat.zero_le _,rfl,HI0⟩
 case round=>
  obtain⟨k,hk,rfl,HI⟩:=hrel
  by_cases hlt:k<n
  ·have hkl:k<xs.length:=(by rw[<-HN.o];exact hlt);obtain⟨g,rfl,hgp,hcg⟩:=HC.o k hkl;have c0:wr.cell? ⟨g,k,none⟩=some (.string (bsL (txtN xs[k]))):=(HI.o.tch.cell (Qr _ _ hcg) hgp).trans hcg;have HCA:Hid (∀V,AddI wj p xs w k V->_):=λV hV=>HADD.o k hkl V hV;generalize bsL (txtN xs[k])=tx at *;have hlti:(k:Int)<(n:Int):=(by omega);have hk0:(0:Int)<=(k:Int):=(by omega);clear hkl hcg hgp HC HADD;go_wp2_with fail;refine(HCA.o wr HI.o).mono ?_;clear HCA;rintro _ w1 (⟨rfl,hI1⟩|⟨ht1,hnn,t,v,rfl⟩)
   ·have HI1:Hid (AddI wj p xs w (k+1) w1):=hI1;clear hI1;go_wp2;go_roundw
    case rel=>exact⟨k+1,by omega,by go_num,HI1⟩
    case measure=>simp[intOf];omega
   ·have HT1:Hid (Tch (λj=>j=p) w w1):=ht1;have HNN:Hid (JaL (byOf wj xs)):=hnn;clear ht1 c0 hnn;go_wp2_with fail;refine(HIT.o w1 HT1.o k (by omega)).mono ?_;rintro _ w2⟨⟨s1,hs1,rfl⟩,ht2⟩;have HT2:Hid (Tch (λj=>j=p) w w2):=HT1.o.go ht2;have hws:((⟨#[110,111,100,101]⟩:BA)++(⟨#[32]⟩:BA)).size<=1001:=(by decide);generalize (⟨#[110,111,100,101]⟩:BA)++(⟨#[32]⟩:BA)=ws at *;have hnb:¬(ws.size+s1.size > 9223372036854775807):=(by omega);clear ht2 HT1 HIT;go_wp2_with fail;refine(Xk (ws++s1) t v _).mono ?_;rintro _ _⟨rfl,rfl⟩;go_wp2;go_ret;exact⟨HT2.o.go (Ta _ _ _),.inr ⟨HNN.o,_,_,rfl⟩⟩
  ·have HK:Hid (k=n):=(by omega:k=n)
   have hge:¬(k:Int)<(n:Int):=(by omega);go_wp2;go_ret;have e:xs.take k=xs:=QR (by rw[HK.o,HN.o];exact Ql _);have h:=HI.o;refine⟨h.tch,.inl ⟨rfl,?_,?_⟩⟩
   ·have:=h.nd;rwa [e]at this
   ·have:=h.mp;rwa [e]at this
theorem Jd5(E:Nat->Addr)(hw1:1<=wj)(hw:wj<=32)(xs:List Jk)(hxs:∀x∈xs,XL wj x)(hl:xs.length<=1000000000)(hr:ZJ (xs.map λx=>bsL (txtN x)))(w:World)(hE:Env E w)(hT:Er3 w):
  Calls prog 149 #[.int .i64 (wj:Int),.string ⟨(szsB (xs.map λx=>bsL (txtN x))).toArray⟩] w λe w'=>Tch NoB w w'/\∃p,w.heap.size<=p/\((e=.returned (.tuple #[.agg #[.int .i64 (wj:Int),.map (some p)],.nilIface])/\((byOf wj xs).map (·.1)).Nodup/\MpAt w' p (byE (byOf wj xs)))\/(JaL (byOf wj xs)/\∃t u,e=.returned (.tuple #[.agg #[.int .i64 (wj:Int),.map (some p)],.iface t u]))):=by
 have hz:∀t∈xs.map λx=>bsL (txtN x),t.size<=100:=λt ht=>by
  obtain⟨x,hx,rfl⟩:=QK.1 ht;have:=Zx hw (hxs x hx);show (txtN x).toArray.size<=100;simpa using this
 have hzl:=JeK _ hz;rw[QL]at hzl;have HES:=hE.size;obtain⟨W,hW⟩:∃W,W=w.alloc (.cells #[.int .i64 0,.map none] 264):=⟨_,rfl⟩
 have tA:Tch NoB w W:=by rw[hW];exact Ta _ _ _
 have HW:Hid (W=_):=hW;have HTA:Hid (Tch NoB w W):=tA;have HR0:Hid (W.heap[w.heap.size]? =some (.cells #[.int .i64 0,.map none] 264)):=by show W.heap[w.heap.size]? =_;rw[hW];exact Qf _ _
 have hsz:W.heap.size=w.heap.size+1:=by rw[hW];simp
 have HSZ:Hid (W.heap.size=w.heap.size+1):=hsz;have HDF:Hid (∀V,Jc V W.heap.size none (wj:Int) .nilIface (.rd [] (szsB (xs.map λx=>bsL (txtN x))))->Calls prog 156 #[.pointer (some ⟨W.heap.size,0,none⟩),.slice none 0 0] V λe w'=>∃v',e=.returned v'/\RowR W.heap.size wj V [] (xs.map λx=>bsL (txtN x)) [] v' w'):=λV hP=>JdU E W.heap.size wj _ [] V hP (λt ht=>by have:=hz t ht;omega) hr (by rw[QL];exact hl) (by rw[List.nil_append];omega);have HNR:Hid (∀V,Calls prog 85 #[.int .i64 (wj:Int),.string ⟨(szsB (xs.map λx=>bsL (txtN x))).toArray⟩] V λe w'=>e=.returned (.pointer (some ⟨V.heap.size,0,none⟩))/\Jc w' V.heap.size none wj .nilIface (.rd [] (szsB (xs.map λx=>bsL (txtN x))))/\Tch NoB V w'):=λV=>XR _ _ _;have HEA:Hid (∀(p:Nat)(a:Option Addr)(c n:Nat)(V:World),n=xs.length->Tch NoB w V->18<=p->MpAt V p []->(∀k (h:k<xs.length),∃g,a=some ⟨g,0,none⟩/\g ≠ p/\V.cell? ⟨g,k,none⟩=some (.string (bsL (txtN xs[k]))))->Calls prog 227 #[.string ⟨#[110,111,100,101]⟩,.slice a n c,.func (.func 228) #[.agg #[.int .i64 (wj:Int),.map (some p)]] #[]] V _):=λp a c n V hn hV hp hm hc=>JkP E hw1 hw p xs hxs hl a c n hn V (hE.tch hV noE) (hT.tch hV noE) hp hm hc;have HKW:Hid (18<=w.heap.size):=HES;generalize hS:szsB (xs.map λx=>bsL (txtN x))=S at *;generalize (⟨S.toArray⟩:BA)=sb at *;have HS:Hid (szsB (xs.map λx=>bsL (txtN x))=S):=hS;have hmf:∀(fn:Fn)(first cap:Array Value)(w:World),(Instr.makeFunc fn first cap).run prog w=.ok (.func fn first cap) w:=λ_ _ _ _=>rfl;clear hS hz hzl hE hT hr hl hxs tA hW hsz HES;go_enter func149,ntmps149;go_upto_region 1 with fail;rw[<-HW.o];go_wp2_with fail;refine(HNR.o W).mono ?_;rintro _ w1⟨rfl,hp1,ht1⟩;have HT1:Hid (Tch NoB W w1):=ht1;have HP1:Hid (Jc w1 W.heap.size none (wj:Int) .nilIface (.rd [] S)):=hp1;clear ht1 hp1 HNR;go_wp2_with fail;refine(HDF.o w1 HP1.o).mono ?_;rintro _ w2⟨v',rfl,hI⟩;obtain⟨a',c',hv'⟩:=hI.own.shape;rw[QL]at hv';subst hv';have HI:Hid (RowR W.heap.size wj w1 [] (xs.map λx=>bsL (txtN x)) [] (.slice a' xs.length c') w2):=hI;have HDN:Hid (Calls prog 88 #[.pointer (some ⟨W.heap.size,0,none⟩)] w2 λe w'=>e=.returned .nilIface/\Tch NoB w2 w'):=JbH W.heap.size _ _ w2 hI.port;have HT2:Hid (Tch NoB w w2):=(HTA.o.go HT1.o).trans hI.tch (λj hj=>.inr (by have:=HSZ.o;omega));have HR2:Hid (w2.heap[w.heap.size]? =some (.cells #[.int .i64 0,.map none] 264)):=((((HT1.o.mono noE).trans hI.tch (λ_ h=>.inl h)).block _ (Jb HR0.o) (by have:=HSZ.o;omega))).trans HR0.o;clear hI HDF HP1;go_wp2_with fail;refine HDN.o.mono ?_;rintro _ w3⟨rfl,ht3⟩;have HT3:Hid (Tch NoB w w3):=HT2.o.go ht3;have HR3:Hid (w3.heap[w.heap.size]? =some (.cells #[.int .i64 0,.map none] 264)):=(ht3.block _ (Jb HR2.o) (λh=>h)).trans HR2.o;have HOW:Hid (NOwn w1.heap.size w3 (.slice a' xs.length c') (xs.map λx=>bsL (txtN x))):=HI.o.own.tch ht3 (λ_ _ h=>h);obtain⟨hmk,hm0⟩:=JcR 262 w3;obtain⟨W4,hW4⟩:∃W4,W4=(w3.alloc (.map #[] 0)).alloc (.cells #[.int .i64 (wj:Int),.map (some w3.heap.size)] 264):=⟨_,rfl⟩
 have t4:Tch NoB w3 W4:=by rw[hW4];exact Tch.allocs _ _ _ _
 have hm4:MpAt W4 w3.heap.size []:=by rw[hW4];exact hm0.next (Ta NoB _ _) (λh=>h)
 have hr4:W4.heap[w3.heap.size+1]? =some (.cells #[.int .i64 (wj:Int),.map (some w3.heap.size)] 264):=by rw[hW4];exact heap_alloc2_new _ _ _
 have d0:W4.cell? ⟨w3.heap.size+1,0,none⟩=some (.int .i64 (wj:Int)):=Ja hr4;have d1:W4.cell? ⟨w3.heap.size+1,1,none⟩=some (.map (some w3.heap.size)):=Ja hr4;have HR4:Hid (W4.heap[w3.heap.size+1]? =_):=hr4;have HT4:Hid (Tch NoB w3 W4):=t4;have HW4:Hid (W4=_):=hW4;have HEC:Hid (Calls prog 227 #[.string ⟨#[110,111,100,101]⟩,.slice a' xs.length c',.func (.func 228) #[.agg #[.int .i64 (wj:Int),.map (some w3.heap.size)]] #[]] W4 _):=HEA.o w3.heap.size a' c' xs.length W4 rfl (HT3.o.go t4) (by have:=HT3.o.size;have:=HKW.o;omega) hm4 (λk h=>by
  have hl':k<(xs.map λx=>bsL (txtN x)).length:=by rw[QL];exact h
  obtain⟨g,cap,hv,hgb,hgl,⟨gc,gm,hgr⟩,hcells⟩:=HOW.o.at (λe=>by rw[e]at hl';simp at hl');simp only[Qy]at hv;obtain⟨rfl,_,_⟩:=hv;refine⟨g,rfl,by omega,?_⟩;have:=hcells k hl';rw[List.getElem_map]at this;exact(t4.cell (p:=⟨g,k,none⟩) hgl (λh=>h)).trans this.1)
 clear ht3 hm0 t4 hm4 hr4 hW4 HEA HDN HI HOW HT2 HR2;go_upto_region 7 with fail;rw[<-HW4.o];go_wp2_with fail;refine HEC.o.mono ?_;rintro e w5⟨ht5,hpost⟩;have HT5:Hid (Tch NoB w w5):=(HT3.o.go HT4.o).trans ht5 (λj hj=>.inr (by have:=HT3.o.size;omega));have hr5:=(ht5.block _ (Jb HR4.o) (by omega)).trans HR4.o;have hq5:w5.heap[w.heap.size]? =some (.cells #[.int .i64 0,.map none] 264):=(ht5.block _ (Qk (Jb HR3.o) HT4.o.size) (by have:=(Jb HR3.o);omega)).trans ((HT4.o.block _ (Jb HR3.o) (λh=>h)).trans HR3.o);have k0:w5.cell? ⟨w3.heap.size+1,0,none⟩=some (.int .i64 (wj:Int)):=Ja hr5;have k1:w5.cell? ⟨w3.heap.size+1,1,none⟩=some (.map (some w3.heap.size)):=Ja hr5;have j0:w5.cell? ⟨w.heap.size,0,none⟩=some (.int .i64 0):=Ja hq5;have j1:w5.cell? ⟨w.heap.size,1,none⟩=some (.map none):=Ja hq5;have f0:w5.frozen? ⟨w.heap.size,0,none⟩=false:=Qg _ _ _ _ _ hq5;have f1:w5.frozen? ⟨w.heap.size,1,none⟩=false:=Qg _ _ _ _ _ hq5;have HQ5:Hid (w5.heap[w.heap.size]? =_):=hq5;have HZ3:Hid (w.heap.size<=w3.heap.size/\w.heap.size<w3.heap.size):=⟨HT3.o.size,(Jb HR3.o)⟩
 have HSET:Hid (∀x y:Value,((w5.setCell ⟨w.heap.size,0,none⟩ x).setCell ⟨w.heap.size,1,none⟩ y).heap[w.heap.size]? =some (.cells #[x,y] 264)/\Tch (λj=>j=w.heap.size) w5 ((w5.setCell ⟨w.heap.size,0,none⟩ x).setCell ⟨w.heap.size,1,none⟩ y)):=λx y=>by
  rw[Qj w5 w.heap.size 0 _ _ (0,0) _ hq5,Qj _ w.heap.size 1 _ _ (0,0) _ (Qi _ _ _ _ _ _ hq5)];exact⟨Qi _ _ _ _ _ _ (Qi _ _ _ _ _ _ hq5),(Ts w5 w.heap.size _).trans (Ts _ w.heap.size _) (λ_ h=>.inl h)⟩
 clear ht5 hr5 hq5 HEC
 rcases hpost with⟨rfl,hnd,hmp⟩|⟨hnn,t,u,rfl⟩
 ·have HND:Hid (((byOf wj xs).map (·.1)).Nodup):=hnd;have HMP:Hid (MpAt w5 w3.heap.size (byE (byOf wj xs))):=hmp;clear hnd hmp;go_wp2;obtain⟨p1,ts⟩:=HSET.o (.int .i64 (wj:Int)) (.map (some w3.heap.size));refine QJ (v:=.tuple #[.agg #[.int .i64 (wj:Int),.map (some w3.heap.size)],.nilIface]) (Jn results149 _ _ w.heap.size _ _ (0,0) _ rfl p1 underlying264 rfl (by kernel_rfl)) rfl ?_;exact⟨HT5.o.trans ts (λj hj=>.inr (by omega)),w3.heap.size,HZ3.o.1,.inl ⟨rfl,HND.o,HMP.o.next ts (by have:=HZ3.o.2;omega)⟩⟩
 ·have HNN:Hid (JaL (byOf wj xs)):=hnn;clear hnn;go_wp2;obtain⟨p1,ts⟩:=HSET.o (.int .i64 (wj:Int)) (.map (some w3.heap.size));refine QJ (v:=.tuple #[.agg #[.int .i64 (wj:Int),.map (some w3.heap.size)],.iface t u]) (Jn results149 _ _ w.heap.size _ _ (0,0) _ rfl p1 underlying264 rfl (by kernel_rfl)) rfl ?_;exact⟨HT5.o.trans ts (λj hj=>.inr (by omega)),w3.heap.size,HZ3.o.1,.inr ⟨HNN.o,t,u,rfl⟩⟩
