import Derived.Test.YtighkdnooglfjaaGreatDoorLxPRoot
import Derived.Test.YtighkdnooglfjaaGreatDoorLxKPay
namespace Go.Proofs.YtighkdnooglfjaaGreatDoor
open Go.RowKit

theorem JgB:∀(n:Nat)(a b:List UInt8),a.length=n->b.length=n->numL a=numL b->a=b
 | 0,a,b,ha,hb,_=>by rw[QO ha,QO hb]
 | n+1,a,b,ha,hb,h=>by
  have hna:a ≠ []:=λe=>by rw[e]at ha;simp at ha
  have hnb:b ≠ []:=λe=>by rw[e]at hb;simp at hb
  have ea:=List.dropLast_concat_getLast hna;have eb:=List.dropLast_concat_getLast hnb;rw[<-ea,<-eb,JaQ,JaQ]at h;have h1:=UInt8.toNat_lt (a.getLast hna);have h2:=UInt8.toNat_lt (b.getLast hnb);have e1:numL a.dropLast=numL b.dropLast:=by omega
  have e2:(a.getLast hna).toNat=(b.getLast hnb).toNat:=by omega
  have i1:=JgB n a.dropLast b.dropLast (by simp[ha]) (by simp[hb]) e1;rw[<-ea,<-eb,i1,UInt8.toNat_inj.1 e2]
theorem JkC(l:List UInt8)(k:Nat)(h:l.length=k):beL (numL l) k k=l:=by
 refine JgB k _ _ (Jf _ _ _) h ?_;have hlt:=JcT l;rw[h]at hlt;have h2:numL l<2 ^ (8*k):=by rw[Nat.pow_mul];exact hlt
 rw[Jab (numL l) k h2 k (Ql _),Nat.sub_self];simp
theorem Jjd{wj:Nat}{z y:HdL}{q r q' r':List UInt8}(h:(PS.rd q r).hdr wj z=some (y,.rd q' r')):r=hdrB y++r':=by
 unfold PS.hdr at h;simp only[PS.num]at h
 split at h
 ·cases h
 ·rename_i n p1 h1
  split at h1
  ·rename_i k1;simp only[Qh,Qw]at h1;obtain⟨rfl,rfl⟩:=h1;simp only[PS.txt]at h
   split at h
   ·cases h
   ·rename_i t1 p2 h2
    split at h2
    ·rename_i k2;simp only[Qh,Qw]at h2;obtain⟨rfl,rfl⟩:=h2;dsimp only at h
     split at h
     ·cases h
     ·rename_i t2 p3 h3
      split at h3
      ·rename_i k3;simp only[Qh,Qw]at h3;obtain⟨rfl,rfl⟩:=h3;dsimp only at h
       split at h
       ·cases h
       ·rename_i t3 p4 h4
        split at h4
        ·rename_i k4;simp only[Qh,Qw]at h4;obtain⟨rfl,rfl⟩:=h4;simp only[Qh,Qw,PS.rd.injEq]at h;obtain⟨rfl,_,rfl⟩:=h;unfold hdrB;dsimp only;rw[JkC (r.take 4) 4 (by rw[QB];omega)];simp only[Qs,List.take_append_drop]
        ·cases h4
      ·cases h3
    ·cases h2
  ·cases h1
theorem Jg1{wj:Nat}(hw:wj<=32){ch ch':Ch}{s:List UInt8}(hc:∀c∈ch,HdIs wj c)(h:YP (dgW wj) wj ch s=.ok ch'):∀c∈ch',HdIs wj c:=by
 unfold YP at h
 split at h
 ·rename_i y pre body hh
  split at h
  ·rename_i ts q hb
   split at h
   ·cases h
   ·split at h
    ·cases h
    ·rename_i st ha
     split at h
     ·cases h
     ·rename_i hroot;simp only[Except.ok.injEq]at h;subst h;intro c hcm
      rcases QE.1 hcm with hcm|hcm
      ·exact hc c hcm
      ·simp only[Qt]at hcm;subst hcm;have hbytes:=Jjd hh;obtain⟨b,r',_,_,_,hok⟩:=Jdp wj hw _ _ _ _ _ hh;refine⟨y,?_,hok,?_⟩
       ·dsimp only;rw[hbytes,Qe,Nat.add_sub_cancel,List.take_left]
       ·simpa using hroot
  ·cases h
 ·cases h
def QAt(wj base pn:Nat)(w:World)(lb:Nat)(F:Nat->Prop)(fl:Nat)(ch:Ch):Prop:=LAt wj base pn w lb F fl ch/\∀c∈ch,HdIs wj c
def JbR(E:Nat->Addr)(base pn wj:Nat):Led E wj base where
 At:=QAt wj base pn
 keep:=λh k hs=>⟨h.1.keep k hs,h.2⟩
 own:=λh j hj=>by obtain⟨⟨_,lg,cb,r,bs,lv,C⟩,_⟩:=h;exact C.low j hj
 kinds:=λh j hj cur T m hr=>by
  obtain⟨⟨_,lg,cb,r,bs,lv,C⟩,_⟩:=h
  rcases C.kind j hj cur T m hr with rfl|rfl|rfl|rfl<;>decide
 tip:=λh _=>Jmu wj base h.1
 header:=λh hA hF _ _=>Jhu E wj base h hA.1 hF
 seals:=λv ts hA hF hv hts h3 hc=>Jjn E wj base v ts hA.1 hF hv hts h3 hc
 submits:=λ{_ _ _ _ ch} s hA hF hs hc=>(Jgo E wj base s hA.1 hF hs hc).mono λe w' k=>by
  obtain⟨k0,F',k1,k2⟩:=k;refine⟨k0,F',k1,?_⟩
  cases hr:YP (dgW wj) wj ch s.data.toList with
  | ok ch'=>rw[hr]at k2;exact⟨k2.1,k2.2,Jg1 hA.1.1.2 hA.2 hr⟩
  | error er=>rw[hr]at k2;exact⟨k2.1,k2.2,hA.2⟩
def JmW(E:Nat->Addr)(base wj:Nat):Led E wj base:=JbR E base 0 wj
def Jj3(E:Nat->Addr)(base:Nat):Jia E base where
 led:=JmW E base
 make:=λwj {_} v outs hw1 hw hF hbw hv h1 h3 ho=>(Jla E base wj v outs hw1 hw hF hbw hv h1 h3 ho).mono λe w' k=>by
  obtain⟨k0,lb,F,h,st,k1,k2,k3,k4⟩:=k;refine⟨k0,lb,F,h,st,k1,⟨k2,λc hc=>?_⟩,k3⟩;simp only[Qt]at hc;rw[hc];exact k4


open Tryz
set_option maxRecDepth 100000
set_option maxHeartbeats 1000000

theorem Jmm{w:World}(xb:Nat)(a b:Int)(p0:Option Addr)(pn p1:Nat)(R:World->World->Prop)(hP:∀W,Tch NoB w W->Calls prog 17 #[.pointer (some ⟨xb,0,none⟩),.slice p0 pn p1] W λe w'=>e=.returned (.bool true)/\R W w'):
  Calls prog 20 #[.pointer (some ⟨xb,0,none⟩),.agg #[.int .i64 1,.int .i64 a,.int .i64 b,.slice p0 pn p1]] w λe w'=>e=.returned (.bool true)/\∃W,Tch NoB w W/\R W w':=by
 have HP:Hid (∀W,Tch NoB w W->_):=hP;clear hP;go_enter func20,ntmps20;go_wp2_with fail;refine(HP.o _ (Ta _ _ _)).mono ?_;rintro _ w1⟨rfl,hR⟩;have HR:Hid (R _ w1):=hR;clear hR HP;go_wp2;go_ret;exact⟨rfl,_,Ta _ _ _,HR.o⟩
theorem Jml{w:World}(xb:Nat)(kd a b:Int)(p0:Option Addr)(pn p1:Nat)(h1:¬kd=1)(h2:¬kd=2):
  Calls prog 20 #[.pointer (some ⟨xb,0,none⟩),.agg #[.int .i64 kd,.int .i64 a,.int .i64 b,.slice p0 pn p1]] w λe w'=>e=.returned (.bool true)/\Tch NoB w w':=by
 go_enter func20,ntmps20;go_wp2;go_ret;exact⟨rfl,Ta _ _ _⟩
theorem JI.len2{E:Nat->Addr}{wj base:Nat}{L:Led E wj base}{w:World}{xb lb:Nat}{F:Nat->Prop}{fl:Nat}{ch:Ch}{vst:Value}{sl:List Sl}{states:List (List Held)}(h:JI L w xb lb F fl ch vst sl states):∃va vc,vst=.slice va states.length vc/\w.cell? ⟨xb,2,none⟩=some (.slice va states.length vc)/\w.cell? ⟨xb,0,none⟩=some (.pointer (some ⟨lb,0,none⟩)):=by
 have hsl:=h.len.1;obtain⟨g,cap,hv,_⟩:=h.st.at (λe=>by have:=h.len;rw[e]at this;simp at this;omega);have hr:=h.row;rw[hv,hsl]at hr;exact⟨_,_,by rw[hv,hsl],Ja hr,Ja hr⟩
