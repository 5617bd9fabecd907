import Derived.Test.YtighkdnooglfjaaGreatDoorOcChI
namespace Go.Proofs.YtighkdnooglfjaaGreatDoor
open Go.Proofs.Tryz
set_option maxRecDepth 100000
set_option maxHeartbeats 1000000
open Go.RowKit

theorem Jdp (a:Addr) (w:World):(method 641 153 (.pointer (some a)) "trove/wire.place").run prog w=.ok (379,.pointer (some a)) w:=by kernel_rfl
theorem Jdq (a:Addr) (w:World):(method 641 153 (.pointer (some a)) "trove/wire.since").run prog w=.ok (380,.pointer (some a)) w:=by kernel_rfl
theorem JkR (b:Nat) (g:Option Nat) (wd:Int) (e:Value) (done:List UInt8) (w:World) (hp:Jc w b g wd e (.wr done)):
  Calls prog 379 #[.pointer (some ⟨b,0,none⟩)] w λe w'=>e=.returned (.int .i64 (done.length:Int))/\w=w':=by
 obtain ⟨v,hv,hbs,hrow⟩:=hp
 obtain ⟨a,c,rfl⟩:=hbs.shape
 have c3:w.cell? ⟨b,3,none⟩=some (.slice a (bc done).length c):=Ja hrow
 rw [XY] at c3
 clear hv hbs hrow
 go_enter func379,ntmps379
 go_wp2
 go_ret
 exact ⟨rfl,rfl⟩
theorem JkS (b:Nat) (g:Option Nat) (wd:Int) (err:Value) (done:List UInt8) (w:World) (hp:Jc w b g wd err (.wr done)):
  Calls prog 380 #[.pointer (some ⟨b,0,none⟩),.int .i64 0] w λe w'=>e=.returned (.string ⟨done.toArray⟩)/\Tch NoB w w':=by
 obtain ⟨v,hv,hbs,hrow⟩:=hp
 have c3:w.cell? ⟨b,3,none⟩=some v:=Ja hrow
 have hst0:=Xu (P:=prog) (w:=w) (l:=done) hbs 52 9 5 underlying52 underlying5 underlying9
 obtain ⟨a,c,rfl⟩:=hbs.shape
 clear hv hbs hrow
 generalize (⟨done.toArray⟩:BA)=r at *
 generalize (bc done).length=n at *
 go_enter func380,ntmps380
 go_wp2
 go_ret
 exact ⟨rfl,Te _ _⟩
def recA (letter content:List UInt8):List UInt8:=letter++beL content.length 2 2++content
def recB (letter content:List UInt8):List UInt8:=recA letter content++(dgW 4 (recA letter content)).data.toList
theorem strL (s:BA):(⟨s.data.toList.toArray⟩:BA)=s:=by simp
theorem Jkv (b:Nat) (g:Option Nat) (wd:Int) (done:List UInt8) (s:BA) (hs:s.size<65536) (hd:done.length<=1000000000000) (w:World) (hp:Jc w b g wd .nilIface (.wr done)):
  Calls prog 210 #[.pointer (some ⟨b,0,none⟩),.string s] w λe w'=>e=.returned (.string s)/\Xx w w' b g wd (.wr (done++beL s.size 2 2++s.data.toList)):=by
 have hnum:(PS.wr done).num s.size 2=some (s.size,.wr (done++beL s.size 2 2)):=by simp only [PS.num];rw [if_pos (by omega)]
 have htxt:(PS.wr (done++beL s.size 2 2)).txt s.data.toList s.size=some (s.data.toList,.wr (done++beL s.size 2 2++s.data.toList)):=by
  simp only [PS.txt];rw [if_pos (by simp only [QA];rfl)]
 have HN:Hid (Calls prog 138 #[.pointer (some ⟨b,0,none⟩),.int .u64 (s.size:Int),.int .i64 2] w λe w'=>e=.returned (.int .u64 (s.size:Int))/\Xx w w' b g wd (.wr (done++beL s.size 2 2))):=Xk b g wd s.size 2 s.size (.wr done) _ w hp (by omega) (by simp only [PS.len];omega) hnum
 have HT:Hid (∀w1 g1,Jc w1 b g1 wd .nilIface (.wr (done++beL s.size 2 2))->Calls prog 209 #[.pointer (some ⟨b,0,none⟩),.string s,.int .i64 (s.size:Int)] w1 λe w'=>e=.returned (.string s)/\Xx w1 w' b g1 wd (.wr (done++beL s.size 2 2++s.data.toList))):=λw1 g1 h1=>
  (ZJ b g1 wd s s.size s.data.toList _ _ w1 h1 (by simp only [PS.len,Qe,Je];omega) htxt).mono λe w' k=>⟨by rw [k.1,strL],k.2⟩
 have h1:IntKind.u64.wrap (s.size:Int)=(s.size:Int):=JA _ (by omega) (by omega)
 have h2:IntKind.i64.wrap (s.size:Int)=(s.size:Int):=JC _ (by omega) (by omega)
 clear hp hnum htxt hs hd
 go_enter func210,ntmps210
 go_wp2_with fail
 refine HN.o.mono ?_
 rintro _ w1 ⟨rfl,g1,hp1,hm1,ht1⟩
 have HM1:Hid (Jm w g g1):=hm1
 have HT1:Hid (Tch _ w w1):=ht1
 have HP1:Hid (Jc _ _ _ _ _ _):=hp1
 clear hp1 hm1 ht1 HN
 go_wp2_with fail
 refine (HT.o w1 g1 HP1.o).mono ?_
 rintro _ w2 ⟨rfl,hto⟩
 have HTO:Hid (Xx w w2 b g wd _):=Xx.trans HM1.o HT1.o hto
 clear hto HT HP1
 go_wp2
 go_ret
 exact ⟨rfl,HTO.o⟩
theorem JmO (E:Nat->Addr) (b:Nat) (g:Option Nat) (wd:Int) (done:List UInt8) (hd:done.length<=1000000) (w:World) (hE:Env E w) (hp:Jc w b g wd .nilIface (.wr done)):
  Calls prog 211 #[.pointer (some ⟨b,0,none⟩),.int .i64 0] w λe w'=>e=.returned (.tuple #[])/\Xx w w' b g wd (.wr (done++(dgW 4 done).data.toList)):=by
 have c0:w.cell? ⟨b,0,none⟩=some (.iface 153 (.pointer (some ⟨b,0,none⟩))):=by obtain ⟨v,_,_,hrow⟩:=hp;exact Ja hrow
 have hm:=Jdq ⟨b,0,none⟩
 have hsz:(dgW 4 done).size=4:=Jq 4 (by omega) done
 have htxt:(PS.wr done).txt (dgW 4 done).data.toList 4=some ((dgW 4 done).data.toList,.wr (done++(dgW 4 done).data.toList)):=by
  simp only [PS.txt];rw [if_pos (by simp only [QA];exact hsz)]
 obtain ⟨dz,hdz⟩:∃dz:BA,dz=⟨done.toArray⟩:=⟨_,rfl⟩
 obtain ⟨sm,hsm⟩:∃sm:BA,sm=dgW 4 done:=⟨_,rfl⟩
 have HSI:Hid (Calls prog 380 #[.pointer (some ⟨b,0,none⟩),.int .i64 0] w λe w'=>e=.returned (.string dz)/\Tch NoB w w'):=by rw [hdz];exact JkS b g wd .nilIface done w hp
 have HOF:Hid (∀w1,Tch NoB w w1->Calls prog 130 #[.int .i64 4,.string dz] w1 λe w'=>e=.returned (.string sm)/\Tch NoB w1 w'):=λw1 hT=>by
  rw [hdz,hsm]
  exact ZQ E 4 ⟨done.toArray⟩ w1 (hE.tch hT noE) (by omega) (by omega) (by show done.toArray.size<=_;simp;omega)
 have HT:Hid (∀w1,Tch NoB w w1->Calls prog 209 #[.pointer (some ⟨b,0,none⟩),.string sm,.int .i64 4] w1 λe w'=>e=.returned (.string sm)/\Xx w w' b g wd (.wr (done++(dgW 4 done).data.toList))):=λw1 hT=>by
  rw [hsm]
  exact (ZJ b g wd (dgW 4 done) 4 _ _ _ w1 (hp.tch hT (λh=>h) (λ_ _ h=>h)) (by simp only [PS.len];omega) htxt).mono λe w' k=>⟨by rw [k.1,strL],by
   obtain ⟨g',k1,k2,k3⟩:=k.2
   exact ⟨g',k1,k2.imp (λh=>h) (λ⟨j,h1,h2⟩=>⟨j,h1,Qm hT.size h2⟩),(hT.mono noE).trans k3 (λj hj=>.inl hj)⟩⟩
 clear hE hp htxt hsz hsm hdz hd
 go_enter func211,ntmps211
 go_wp2_with fail
 refine HSI.o.mono ?_
 rintro _ w1 ⟨rfl,ht1⟩
 have HT1:Hid (Tch _ w w1):=ht1
 clear ht1 HSI
 go_wp2_with fail
 refine (HOF.o w1 HT1.o).mono ?_
 rintro _ w2 ⟨rfl,ht2⟩
 have HT2:Hid (Tch NoB w w2):=HT1.o.go ht2
 clear ht2 HOF HT1
 go_wp2_with fail
 refine (HT.o w2 HT2.o).mono ?_
 rintro _ w3 ⟨rfl,hto⟩
 have HTO:Hid (Xx _ _ _ _ _ _):=hto
 clear hto HT
 go_wp2
 refine bodyPost_end (v:=.tuple #[]) (results_none results211 _ _ _) rfl ⟨rfl,HTO.o⟩
theorem Jhr (w:World) (g:Nat) (t:TypeId) (a b v0 v1:Value) (h:w.heap[g]? =some (.cells #[a,b] t (0,0))):(w.setCell ⟨g,0,none⟩ v0).setCell ⟨g,1,none⟩ v1=w.setRow g #[v0,v1]:=set2 _ _ _ _ _ _ _ h
theorem Jiy (E:Nat->Addr) (b:Nat) (hb12:18<=b) (wd:Nat) (lt ct:BA) (hl:lt.size=1) (hc:ct.size<65536) (w:World) (hE:Env E w) (hp:Jc w b none (wd:Int) .nilIface (.wr [])):
  Calls prog 141 #[.pointer (some ⟨b,0,none⟩),.agg #[.string lt,.string ct]] w λe w'=>e=.returned (.agg #[.string lt,.string ct])/\StTo E w w' b none (wd:Int) (some (.wr (recB lt.data.toList ct.data.toList))):=by
 have hlt:=hp.lt
 have HR0:=Run.start hb12 hE (show Jh E w b none (wd:Int) (some (.wr [])) from hp) (Tch.allocs NoB w (.cells #[.string lt,.string ct] 195) (.cells #[.string ⟨#[]⟩,.string ⟨#[]⟩] 195))
 have hL:lt.data.toList.length=1:=by simp only [QA];exact hl
 have htxt:(PS.wr []).txt lt.data.toList 1=some (lt.data.toList,.wr lt.data.toList):=by simp only [PS.txt];rw [if_pos hL];rfl
 have HTX:Hid (∀w1 g1,Jc w1 b g1 (wd:Int) .nilIface (.wr [])->Calls prog 209 #[.pointer (some ⟨b,0,none⟩),.string lt,.int .i64 1] w1 λe w'=>e=.returned (.string lt)/\StTo E w1 w' b g1 (wd:Int) (some (.wr lt.data.toList))):=λw1 g1 h1=>
  (ZJ b g1 wd lt 1 _ _ _ w1 h1 (by simp [PS.len]) htxt).mono λe w' k=>⟨by rw [k.1,strL],k.2⟩
 have HSZ:Hid (∀w1 g1,Jc w1 b g1 (wd:Int) .nilIface (.wr lt.data.toList)->Calls prog 210 #[.pointer (some ⟨b,0,none⟩),.string ct] w1 λe w'=>e=.returned (.string ct)/\StTo E w1 w' b g1 (wd:Int) (some (.wr (recA lt.data.toList ct.data.toList)))):=λw1 g1 h1=>
  (Jkv b g1 wd lt.data.toList ct hc (by omega) w1 h1).mono λe w' k=>⟨k.1,by
   have e:ct.data.toList.length=ct.size:=by simp only [QA];rfl
   unfold recA
   rw [e]
   exact k.2⟩
 have hrl:(recA lt.data.toList ct.data.toList).length<=1000000:=by
  have e:ct.data.toList.length=ct.size:=by simp only [QA];rfl
  unfold recA
  simp only [Qe,Je,hL,e]
  omega
 have HSM:Hid (∀w1 g1,Env E w1->Jc w1 b g1 (wd:Int) .nilIface (.wr (recA lt.data.toList ct.data.toList))->Calls prog 211 #[.pointer (some ⟨b,0,none⟩),.int .i64 0] w1 λe w'=>e=.returned (.tuple #[])/\StTo E w1 w' b g1 (wd:Int) (some (.wr (recB lt.data.toList ct.data.toList)))):=λw1 g1 h1 h2=>JmO E b g1 wd _ hrl w1 h1 h2
 have hm:=Jdp ⟨b,0,none⟩
 have c0:=(show ∀W,Jc W b none (wd:Int) .nilIface (.wr [])->W.cell? ⟨b,0,none⟩=some (.iface 153 (.pointer (some ⟨b,0,none⟩))) from λW h=>by obtain ⟨v,_,_,hrow⟩:=h;exact Ja hrow) _ HR0.port
 have HPL:Hid (∀W,Jc W b none (wd:Int) .nilIface (.wr [])->Calls prog 379 #[.pointer (some ⟨b,0,none⟩)] W λe w'=>e=.returned (.int .i64 0)/\W=w'):=λW h=>JkR b none wd .nilIface [] W h
 have RUN:Hid (Run _ _ _ _ _ _ _ _ _):=HR0
 clear hE hp HR0 htxt hrl hL
 generalize recA lt.data.toList ct.data.toList=rA at *
 generalize recB lt.data.toList ct.data.toList=rB at *
 generalize lt.data.toList=lL at *
 go_enter func141,ntmps141
 go_wp2_with fail
 refine (HPL.o _ RUN.out.port).mono ?_
 rintro _ _ ⟨rfl,rfl⟩
 go_wp2_with fail
 refine (HTX.o _ _ RUN.out.port).mono ?_
 rintro _ w1 ⟨rfl,h⟩
 obtain ⟨g1,R1⟩:=RUN.out.step h
 have bx1:=(R1.box (k:=w.heap.size) (Ql _) (heap_alloc2_old _ _ _)).1
 have c1:w1.cell? ⟨w.heap.size,1,none⟩=some (.string ct):=Ja bx1
 have RUN1:Hid (Run _ _ _ _ _ _ _ _ _):=R1
 clear R1 bx1 h HTX HPL c0
 go_wp2_with fail
 refine (HSZ.o _ _ RUN1.out.port).mono ?_
 rintro _ w2 ⟨rfl,h⟩
 obtain ⟨g2,R2⟩:=RUN1.out.step h
 have RUN2:Hid (Run _ _ _ _ _ _ _ _ _):=R2
 clear R2 h HSZ c1
 go_wp2_with fail
 refine (HSM.o _ _ RUN2.out.env RUN2.out.port).mono ?_
 rintro _ w4 ⟨rfl,h⟩
 obtain ⟨g4,R4⟩:=RUN2.out.step h
 have rR:=(R4.box (k:=w.heap.size+1) (by omega) (heap_alloc2_new _ _ _)).1
 have e0:w4.cell? ⟨w.heap.size+1,0,none⟩=some (.string ⟨#[]⟩):=Ja rR
 have e1:w4.cell? ⟨w.heap.size+1,1,none⟩=some (.string ⟨#[]⟩):=Ja rR
 have fR:∀j,w4.frozen? ⟨w.heap.size+1,j,none⟩=false:=λj=>Qg _ _ _ _ _ rR
 have RUN4:Hid (Run _ _ _ _ _ _ _ _ _):=R4
 have RR:Hid (_=_):=rR
 clear R4 rR h HSM
 go_wp2
 rw [Jhr _ _ _ _ _ _ _ RR.out]
 exact QJ (v:=.agg #[.string lt,.string ct]) (Qq results141 _ _ (w.heap.size+1) _ _ (0,0) _ rfl (Qi _ _ _ _ _ _ RR.out) underlying195 rfl (by kernel_rfl)) rfl ⟨rfl,RUN4.out.done (k:=w.heap.size+1) (by omega) (heap_alloc2_new _ _ _) (by decide)⟩

theorem XU (x:BA):x.data.toList.length=x.size:=by simp only [QA];rfl
theorem Yg (a b:List UInt8):(recB a b).length=a.length+b.length+6:=by
 unfold recB
 rw [Qe,XU,Jq 4 (by omega)]
 unfold recA
 simp only [Qe,Je]
 omega
structure JU (base:Nat) (w:World) (v:Value) (lg:List UInt8):Prop where
 bs:Bs base w v (bc lg)
 kind:RowT 5 w v
theorem Bs.tch {base:Nat} {w w':World} {v:Value} {xs:List Value} {S:Nat->Prop} (h:Bs base w v xs) (k:Tch S w w') (hs:∀j,v.ownBlock=some j->¬S j):Bs base w' v xs:=by
 rcases h with h | ⟨g,cap,hv,hb,hlt,hle,hm,hc,hsp⟩
 ·exact .inl h
 ·have hbk:w'.heap[g]? =w.heap[g]? :=k.block g hlt (hs g (by rw [hv];rfl))
  refine .inr ⟨g,cap,hv,hb,Qk hlt k.size,hle,hm,λj u hu=>?_,λj hj=>?_⟩
  ·rw [World.cell?_of_block (a:=⟨g,j,none⟩) hbk];exact hc j u hu
  ·rw [World.cell?_of_block (a:=⟨g,j,none⟩) hbk,World.frozen?_of_block (a:=⟨g,j,none⟩) hbk];exact hsp j hj
theorem JU.tch {base:Nat} {w w':World} {v:Value} {lg:List UInt8} {S:Nat->Prop} (h:JU base w v lg) (k:Tch S w w') (hs:∀j,v.ownBlock=some j->¬S j):JU base w' v lg:=
 ⟨h.bs.tch k hs,λj hj=>by
  obtain ⟨cur,m,hr⟩:=h.kind j hj
  exact ⟨cur,m,(k.block j (Jb hr) (hs j hj)).trans hr⟩⟩
theorem JU.next {base:Nat} {w w':World} {v:Value} {lg:List UInt8} (h:JU base w v lg) (k:Tch NoB w w'):JU base w' v lg:=h.tch k (λ_ _ e=>e)
theorem JU.ne_row {base:Nat} {w:World} {cb wd fl r:Nat} {bs:List BV} {v:Value} {lg:List UInt8} (h:JU base w v lg) (c:Jt w cb wd fl r bs v):¬some cb=v.ownBlock/\¬some r=v.ownBlock:=by
 constructor
 ·intro e
  obtain ⟨cur,m,hr⟩:=h.kind cb e.symm
  rw [c.row] at hr
  simp at hr
 ·intro e
  obtain ⟨cur,m,hr⟩:=h.kind r e.symm
  rw [c.map] at hr
  simp at hr
theorem JaQ (E:Nat->Addr) {w:World} (hE:Env E w) {cb wd fl r:Nat} {bs:List BV} {lv:Value} (h:Jt w cb wd fl r bs lv) (base:Nat) (hbase:base<=w.heap.size) (lg:List UInt8) (hl:JU base w lv lg) (hll:lg.length<=140737488000000) (lt ct:BA) (h1:lt.size=1) (h2:ct.size<65536):
  Calls prog 89 #[.pointer (some ⟨cb,0,none⟩),.string lt,.string ct] w λe w'=>e=.returned .nilIface/\∃lv',Jt w' cb wd fl r bs lv'/\JU base w' lv' (lg++recB lt.data.toList ct.data.toList)/\Tch (λk=>k=cb\/some k=lv.ownBlock) w w'/\Jm w lv.ownBlock lv'.ownBlock:=by
 have hsz:=hE.size
 have c0:w.cell? ⟨cb,0,none⟩=some (.int .i64 (wd:Int)):=Ja h.row
 obtain ⟨i0,hi,hz0,hz1,hz2⟩:=info_parts Jci
 obtain ⟨rec,hrec⟩:∃rec,rec=recB lt.data.toList ct.data.toList:=⟨_,rfl⟩
 have hrl:rec.length<=70000:=by
  rw [hrec,Yg,XU,XU]
  omega
 have HRC:Hid (∀W,Tch NoB w W->Jc W w.heap.size none (wd:Int) .nilIface (.wr [])->Calls prog 141 #[.pointer (some ⟨w.heap.size,0,none⟩),.agg #[.string lt,.string ct]] W λe w'=>e=.returned (.agg #[.string lt,.string ct])/\StTo E W w' w.heap.size none (wd:Int) (some (.wr rec))):=λW hT hp=>by
  rw [hrec];exact Jiy E w.heap.size hsz wd lt ct h1 h2 W (hE.tch hT noE) hp
 have HROW:Hid _:=h
 have HL:Hid _:=hl
 have HLL:Hid (lg.length<=140737488000000/\rec.length<=70000/\base<=w.heap.size):=⟨hll,hrl,hbase⟩
 rw [<-hrec]
 obtain ⟨sr,hsr⟩:∃sr:BA,sr=⟨rec.toArray⟩:=⟨_,rfl⟩
 have HSR:Hid (byteCells sr=bc rec/\sr.size=rec.length):=by rw [hsr];exact ⟨by simp [byteCells,bc],Ju _⟩
 have HWD:Hid (∀W g,Jh E W w.heap.size g (wd:Int) (some (.wr rec))->Calls prog 79 #[.pointer (some ⟨w.heap.size,0,none⟩)] W λe w'=>Tch NoB W w'/\e=.returned (.tuple #[.string sr,.nilIface])):=λW g hp=>by
  rw [hsr];exact ZL E w.heap.size g wd (some (.wr rec)) (λp hp=>⟨_,(Option.some.inj hp).symm⟩) W hp
 clear hE h hl hll hrl hbase h1 h2 hrec hsr
 go_enter func89,ntmps89
 go_wp2_with fail
 refine (JV _ _).mono ?_
 rintro _ w1 ⟨rfl,hp1,ht1⟩
 have HT1:Hid _:=ht1
 have HP1:Hid _:=hp1
 clear ht1 hp1 c0
 go_wp2_with fail
 refine (HRC.o w1 HT1.o HP1.o).mono ?_
 rintro _ w2 ⟨rfl,g2,hp2,hm2,ht2⟩
 have HP2:Hid _:=hp2
 have HT2:Hid (Tch NoB w w2):=Xt (b:=w.heap.size) (Ql _) HT1.o ht2
 clear hp2 ht2 hm2 HP1 HT1 HRC
 go_wp2_with fail
 refine (HWD.o w2 g2 HP2.o).mono ?_
 rintro _ w3 ⟨ht3,rfl⟩
 have HT3:Hid (Tch NoB w w3):=HT2.o.go ht3
 have HR3:Hid (Jt w3 cb wd fl r bs lv):=HROW.o.next HT3.o
 have HL3:Hid (JU base w3 lv lg):=HL.o.next HT3.o
 have c3:w3.cell? ⟨cb,3,none⟩=some lv:=Ja HR3.o.row
 have hbs3:Hid (Bs base w3 lv (bc lg)):=HL3.o.bs
 have Hbl:Hid ((bc lg).length=lg.length):=XY lg
 clear ht3 HP2 HT2 HWD
 go_wp2_with (at_builtin;refine Jbs rfl _ _ 52 9 5 rfl i0 _ underlying52 hi hz0 hz1 hz2 rfl rfl hbs3.out _ sr.size (byteCells sr) rfl (Src.ofString _ underlying9 sr) (by rw [Hbl.out,HSR.o.2];have:=HLL.o;omega) (by have:=HLL.o;have:=HT3.o.size;omega) ?_;intro v4 w4 hbs4 hg4 hmv4 hk4;have HB4:Hid _:=hbs4;have HG4:Hid _:=hg4;have HM4:Hid (Jm w3 lv.ownBlock v4.ownBlock):=hmv4;have HK4:Hid (RowT _ w4 v4):=hk4 HL3.o.kind;have hr4:w4.heap[cb]? =some (.cells #[.int .i64 (wd:Int),.int .i64 (fl:Int),.map (some r),lv] 143):=(hg4.block cb (Jb HR3.o.row) (HL3.o.ne_row HR3.o).1).trans HR3.o.row;have d3:w4.cell? ⟨cb,3,none⟩=some lv:=Ja hr4;have df:w4.frozen? ⟨cb,3,none⟩=false:=Qg _ _ _ _ _ hr4;have HR4:Hid _:=hr4;obtain ⟨y1,y2,y3,hv4⟩:=hbs4.shape3;clear hbs4 hg4 hmv4 hk4 hr4;subst hv4)
 go_ret
 have hset:=Qj w4 cb 3 _ _ (0,0) (.slice y1 y2 y3) HR4.o
 have hrow:(w4.setCell ⟨cb,3,none⟩ (.slice y1 y2 y3)).heap[cb]? =some (.cells #[.int .i64 (wd:Int),.int .i64 (fl:Int),.map (some r),.slice y1 y2 y3] 143):=by rw [hset];exact Qi _ _ _ _ _ _ HR4.o
 have hne:=HL3.o.ne_row HR3.o
 have hrlt:=(Jb HR3.o.map)
 have hm4:w4.heap[r]? =some (.map (Js 0 bs).toArray bs.length):=(HG4.o.block r hrlt hne.2).trans HR3.o.map
 have hrc:r ≠ cb:=λe=>by have:=HR3.o.row;rw [<-e,HR3.o.map] at this;cases this
 have tS:Tch (λk=>k=cb) w4 (w4.setCell ⟨cb,3,none⟩ (.slice y1 y2 y3)):=by rw [hset];exact Ts _ _ _
 have tG:Tch (λk=>some k=lv.ownBlock) w3 w4:=Tg HG4.o
 have hcb:=(Jb HR3.o.row)
 have hown:∀j,(Value.slice y1 y2 y3).ownBlock=some j->¬j=cb:=λj hj e=>by
  subst e
  rcases HM4.o with h | ⟨k,h,hk⟩
  ·exact hne.1 (by rw [<-h,hj])
  ·rw [hj] at h;cases h;omega
 refine ⟨rfl,_,⟨hrow,(tS.block r (Jb hm4) hrc).trans hm4⟩,JU.tch ⟨?_,HK4.o⟩ tS hown,?_,?_⟩
 ·have e:=HB4.o
  rw [HSR.o.1,<-Zy] at e
  exact e
 ·exact ((HT3.o.mono noE).trans tG (λj hj=>.inl (.inr hj))).trans tS (λj hj=>.inl (.inl hj))
 ·rcases HM4.o with h | ⟨k,h,hk⟩
  ·exact .inl h
  ·exact .inr ⟨k,h,Qm HT3.o.size hk⟩

structure Ev where
 of ::
 v:List UInt8 ⊕ Nat
abbrev Ev.blk (t:List UInt8):Ev:=⟨.inl t⟩
abbrev Ev.flo (n:Nat):Ev:=⟨.inr n⟩
theorem Ev.on {motive:Ev->Prop} (blk:∀t,motive (.blk t)) (flo:∀n,motive (.flo n)):∀e,motive e
 | ⟨.inl t⟩=>blk t
 | ⟨.inr n⟩=>flo n
def Ev.letter:Ev->List UInt8
 | ⟨.inl _⟩=>[66]
 | ⟨.inr _⟩=>[80]
def Ev.content:Ev->List UInt8
 | ⟨.inl t⟩=>t
 | ⟨.inr n⟩=>beL n 4 4
def Ev.B (e:Ev):List UInt8:=recB e.letter e.content
def Ev.isB:Ev->Bool
 | ⟨.inl _⟩=>true
 | ⟨.inr _⟩=>false
def blks (evs:List Ev):Nat:=evs.countP Ev.isB
def flos (evs:List Ev):Nat:=evs.countP λe=> !e.isB
theorem JdC (evs:List Ev) (e:Ev):blks (evs++[e])=blks evs+(if e.isB=true then 1 else 0):=by unfold blks;rw [List.countP_append,List.countP_singleton]
theorem Zz (evs:List Ev) (e:Ev):flos (evs++[e])=flos evs+(if e.isB=true then 0 else 1):=by
 unfold flos
 rw [List.countP_append,List.countP_singleton]
 cases e.isB <;> rfl
theorem Zi (evs:List Ev):evs.length=blks evs+flos evs:=by
 unfold blks flos
 rw [List.length_eq_countP_add_countP Ev.isB]
 congr 1
 apply List.countP_congr
 intro e _
 simp
def logB (g:List UInt8) (evs:List Ev):List UInt8:=recB [71] g++evs.flatMap Ev.B
theorem ZC (g:List UInt8) (evs:List Ev) (e:Ev):logB g (evs++[e])=logB g evs++e.B:=by unfold logB;rw [List.flatMap_append,Qs];simp
structure Hist (wd:Nat) (c0:BA×Option Tr) (evs:List Ev) (ch:Ch) (fl:Nat):Prop where
 of ::
 c:∀C:List Ev->Ch->Nat->Prop,C [] [c0] 0->(∀{evs ch ch' fl} (t:List UInt8),C evs ch fl->Xo (dgW wd) wd ch t=.ok ch'->t.length<65536->C (evs++[.blk t]) ch' fl)->(∀{evs ch fl} (n:Nat),C evs ch fl->fl<=n->n<ch.length->n<2 ^ 31->C (evs++[.flo n]) ch n)->C evs ch fl
section
variable {wd:Nat} {c0:BA×Option Tr}
theorem Hist.nil:Hist wd c0 [] [c0] 0:=⟨λ_ h _ _=>h⟩
theorem Hist.blk {evs:List Ev} {ch ch':Ch} {fl:Nat} (t:List UInt8) (h:Hist wd c0 evs ch fl) (h1:Xo (dgW wd) wd ch t=.ok ch') (h2:t.length<65536):Hist wd c0 (evs++[.blk t]) ch' fl:=⟨λC k1 k2 k3=>k2 t (h.c C k1 k2 k3) h1 h2⟩
theorem Hist.flo {evs:List Ev} {ch:Ch} {fl:Nat} (n:Nat) (h:Hist wd c0 evs ch fl) (h1:fl<=n) (h2:n<ch.length) (h3:n<2 ^ 31):Hist wd c0 (evs++[.flo n]) ch n:=⟨λC k1 k2 k3=>k3 n (h.c C k1 k2 k3) h1 h2 h3⟩
theorem Hist.ri {motive:∀evs ch fl,Hist wd c0 evs ch fl->Prop} (nil:motive _ _ _ .nil) (blk:∀{evs ch ch' fl} t h h1 h2,motive evs ch fl h->motive _ ch' _ (.blk t h h1 h2)) (flo:∀{evs ch fl} n h h1 h2 h3,motive evs ch fl h->motive _ _ _ (.flo n h h1 h2 h3)):∀{evs ch fl} (h:Hist wd c0 evs ch fl),motive evs ch fl h:=λ{_ _ _} h=>
 (h.c (λevs ch fl=>∃h:Hist wd c0 evs ch fl,motive evs ch fl h) ⟨_,nil⟩ (λt h h1 h2=>⟨_,blk t h.1 h1 h2 h.2⟩) λn h h1 h2 h3=>⟨_,flo n h.1 h1 h2 h3 h.2⟩).2
end
theorem Zq {d:List UInt8->BA} {wd:Nat} {ch ch':Ch} {t:List UInt8} (h:Xo d wd ch t=.ok ch'):∃x,ch'=ch++[x]:=by
 unfold Xo at h
 split at h
 ·split at h
  ·split at h
   ·cases h
   ·split at h
    ·cases h
    ·split at h
     ·cases h
     ·cases h;exact ⟨_,rfl⟩
  ·cases h
 ·cases h
theorem Hist.len {wd:Nat} {c0:BA×Option Tr} {evs:List Ev} {ch:Ch} {fl:Nat} (h:Hist wd c0 evs ch fl):ch.length=blks evs+1:=by
 induction h using Hist.ri with
 | nil=>rfl
 | blk t _ h2 _ ih=>
  obtain ⟨x,rfl⟩:=Zq h2
  rw [JdC,Qe,ih]
  rfl
 | flo n _ _ _ _ ih=>rw [JdC,ih];rfl
theorem Hist.pos {wd:Nat} {c0:BA×Option Tr} {evs:List Ev} {ch:Ch} {fl:Nat} (h:Hist wd c0 evs ch fl):fl<ch.length:=by
 induction h using Hist.ri with
 | nil=>simp
 | blk t _ h2 _ ih=>
  obtain ⟨x,rfl⟩:=Zq h2
  rw [Qe]
  omega
 | flo n _ _ h2 _ _=>exact h2
theorem Hist.small {wd:Nat} {c0:BA×Option Tr} {evs:List Ev} {ch:Ch} {fl:Nat} (h:Hist wd c0 evs ch fl):∀e∈evs,e.content.length<65536:=by
 induction h using Hist.ri with
 | nil=>intro e he;simp at he
 | blk t _ _ h3 ih=>
  intro e he
  rcases QE.1 he with he | he
  ·exact ih e he
  ·rw [Qt] at he;subst he;exact h3
 | flo n _ _ _ _ ih=>
  intro e he
  rcases QE.1 he with he | he
  ·exact ih e he
  ·rw [Qt] at he;subst he;show (beL n 4 4).length<65536;rw [Je];omega
def Ji1 (wd:Nat) (c0:BA×Option Tr) (evs:List Ev) (e:Ev) (ch:Ch) (fl:Nat):Prop:=∃ch0 fl0,Hist wd c0 evs ch0 fl0/\ch0 <+:ch/\(match e with
  | ⟨.inl t⟩=>Xo (dgW wd) wd ch0 t=.ok ch/\fl=fl0
  | ⟨.inr n⟩=>ch=ch0/\fl=n/\fl0<=n/\n<ch.length/\n<2 ^ 31)
theorem Hist.back_aux {wd:Nat} {c0:BA×Option Tr} {l:List Ev} {ch:Ch} {fl:Nat} (h:Hist wd c0 l ch fl):∀(evs:List Ev) (e:Ev),evs++[e]=l->Ji1 wd c0 evs e ch fl:=by
 cases h using Hist.ri with
 | nil=>intro evs e hx;simp at hx
 | @blk evs' ch0 _ fl0 t h1 h2 h3=>
  intro evs e hx
  obtain ⟨rfl,he⟩:=List.append_inj' hx rfl
  simp only [QH,and_true] at he
  subst he
  obtain ⟨x,rfl⟩:=Zq h2
  exact ⟨ch0,_,h1,List.prefix_append _ _,h2,rfl⟩
 | @flo evs' _ fl0 n h1 h2 h3 h4=>
  intro evs e hx
  obtain ⟨rfl,he⟩:=List.append_inj' hx rfl
  simp only [QH,and_true] at he
  subst he
  exact ⟨_,fl0,h1,List.prefix_refl _,rfl,rfl,h2,h3,h4⟩
theorem Hist.back {wd:Nat} {c0:BA×Option Tr} {evs:List Ev} {e:Ev} {ch:Ch} {fl:Nat} (h:Hist wd c0 (evs++[e]) ch fl):Ji1 wd c0 evs e ch fl:=h.back_aux evs e rfl
theorem Hist.nil_aux {wd:Nat} {c0:BA×Option Tr} {l:List Ev} {ch:Ch} {fl:Nat} (h:Hist wd c0 l ch fl):l=[]->ch=[c0]/\fl=0:=by
 cases h using Hist.ri with
 | nil=>intro _;exact ⟨rfl,rfl⟩
 | blk t _ _ _=>intro hx;simp at hx
 | flo n _ _ _ _=>intro hx;simp at hx
theorem Hist.take {wd:Nat} {c0:BA×Option Tr} {evs:List Ev} {ch:Ch} {fl:Nat} (h:Hist wd c0 evs ch fl):∀k,k<=evs.length->∃ch0 fl0,Hist wd c0 (evs.take k) ch0 fl0/\ch0 <+:ch:=by
 induction h using Hist.ri with
 | nil=>intro k hk;exact ⟨_,_,by rw [List.take_nil];exact .nil,List.prefix_refl _⟩
 | @blk evs ch ch' fl t h1 h2 h3 ih=>
  intro k hk
  by_cases hk2:k<=evs.length
  ·obtain ⟨ch0,fl0,k1,k2⟩:=ih k hk2
   obtain ⟨x,rfl⟩:=Zq h2
   rw [List.take_append_of_le_length hk2]
   exact ⟨ch0,fl0,k1,k2.trans (List.prefix_append _ _)⟩
  ·rw [QQ (by rw [Qe] at hk ⊢;simp only [Qp,Qv] at hk ⊢;omega)]
   exact ⟨_,_,.blk t h1 h2 h3,List.prefix_refl _⟩
 | @flo evs ch fl n h1 h2 h3 h4 ih=>
  intro k hk
  by_cases hk2:k<=evs.length
  ·obtain ⟨ch0,fl0,k1,k2⟩:=ih k hk2
   rw [List.take_append_of_le_length hk2]
   exact ⟨ch0,fl0,k1,k2⟩
  ·rw [QQ (by rw [Qe] at hk ⊢;simp only [Qp,Qv] at hk ⊢;omega)]
   exact ⟨_,_,.flo n h1 h2 h3 h4,List.prefix_refl _⟩
def floE:List Ev->Nat
 | evs=>evs.foldl (λf e=>match e with | ⟨.inl _⟩=>f | ⟨.inr n⟩=>n) 0
theorem JdJ (evs:List Ev) (e:Ev):floE (evs++[e])=match e with | ⟨.inl _⟩=>floE evs | ⟨.inr n⟩=>n:=by unfold floE;rw [List.foldl_append];rfl
theorem Hist.fl {wd:Nat} {c0:BA×Option Tr} {evs:List Ev} {ch:Ch} {fl:Nat} (h:Hist wd c0 evs ch fl):fl=floE evs:=by
 induction h using Hist.ri with
 | nil=>rfl
 | blk t _ _ _ ih=>rw [JdJ];exact ih
 | flo n _ _ _ _ _=>rw [JdJ]
theorem Hist.same {wd:Nat} {c0:BA×Option Tr} {evs:List Ev} {ch ch':Ch} {fl fl':Nat} (h:Hist wd c0 evs ch fl):Hist wd c0 evs ch' fl'->ch=ch'/\fl=fl':=by
 induction h using Hist.ri generalizing ch' fl' with
 | nil=>intro h;obtain ⟨h1,h2⟩:=h.nil_aux rfl;exact ⟨h1.symm,h2.symm⟩
 | blk t h1 h2 h3 ih=>
  intro h
  obtain ⟨ch0,fl0,k1,_,k2,k3⟩:=h.back
  obtain ⟨rfl,rfl⟩:=ih k1
  rw [h2] at k2
  cases k2
  exact ⟨rfl,k3.symm⟩
 | flo n h1 h2 h3 h4 ih=>
  intro h
  obtain ⟨ch0,fl0,k1,_,k2,k3,_⟩:=h.back
  obtain ⟨rfl,rfl⟩:=ih k1
  exact ⟨k2.symm,k3.symm⟩
def endE (g:List UInt8) (evs:List Ev) (k:Nat):Nat:=(logB g (evs.take k)).length
theorem JhP (g:List UInt8) (evs:List Ev) (k:Nat) (hk:k<evs.length):endE g evs (k+1)=endE g evs k+(evs[k].B).length:=by
 unfold endE
 rw [QP hk,ZC,Qe]
theorem JaL (g:List UInt8) (evs:List Ev) (k:Nat):logB g evs=logB g (evs.take k)++(evs.drop k).flatMap Ev.B:=by
 unfold logB
 rw [Qs,<-List.flatMap_append,List.take_append_drop]
theorem Jld (g:List UInt8) (evs:List Ev) (k n:Nat) (hk:k<=evs.length) (h1:endE g evs k<=n) (h2:k<evs.length->n<endE g evs (k+1)) (h3:n<=(logB g evs).length):
  ∃part,(logB g evs).take n=logB g (evs.take k)++part/\(part=[]\/∃h:k<evs.length,part <+:evs[k].B/\part.length<(evs[k].B).length)/\n=endE g evs k+part.length:=by
 have hs:=JaL g evs k
 unfold endE at h1
 refine ⟨((evs.drop k).flatMap Ev.B).take (n - (logB g (evs.take k)).length),?_,?_,?_⟩
 ·rw [hs,List.take_append,QQ h1]
 ·by_cases hlt:k<evs.length
  ·refine .inr ⟨hlt,?_⟩
   have h4:=h2 hlt
   rw [JhP g evs k hlt] at h4
   unfold endE at h4
   rw [List.drop_eq_getElem_cons hlt,QG,List.take_append_of_le_length (by omega)]
   exact ⟨List.take_prefix _ _,by rw [QB];omega⟩
  ·left
   rw [List.drop_eq_nil_of_le (by omega)]
   simp
 ·have h5:=congrArg List.length hs
  rw [Qe] at h5
  rw [QB]
  unfold endE
  omega
