import Derived.Test.YtighkdnooglfjaaGreatDoorScChI
namespace Go.Proofs.YtighkdnooglfjaaGreatDoor
open Go.Proofs.Tryz
set_option maxRecDepth 100000
set_option maxHeartbeats 1000000
open Go.RowKit

theorem JcA (a:Addr) (w:World):(method 641 153 (.pointer (some a)) "trove/wire.place").run prog w=.ok (379,.pointer (some a)) w:=by kernel_rfl
theorem JcB (a:Addr) (w:World):(method 641 153 (.pointer (some a)) "trove/wire.since").run prog w=.ok (380,.pointer (some a)) w:=by kernel_rfl
theorem Jjw (b:Nat) (g:Option Nat) (wd:Int) (e:Value) (done:List UInt8) (w:World) (hp:Jc w b g wd e (.wr done)):
  Calls prog 379 #[.pointer (some ⟨b,0,none⟩)] w λe w'=>e=.returned (.int .i64 (done.length:Int))/\w=w':=by
 obtain ⟨v,hv,hbs,hrow⟩:=hp
 obtain ⟨a,c,rfl⟩:=hbs.shape
 have c3:w.cell? ⟨b,3,none⟩=some (.slice a (bc done).length c):=Ja hrow
 rw [XP] at c3
 clear hv hbs hrow
 go_enter func379,ntmps379
 go_wp2
 go_ret
 exact ⟨rfl,rfl⟩
theorem Jjx (b:Nat) (g:Option Nat) (wd:Int) (err:Value) (done:List UInt8) (w:World) (hp:Jc w b g wd err (.wr done)):
  Calls prog 380 #[.pointer (some ⟨b,0,none⟩),.int .i64 0] w λe w'=>e=.returned (.string ⟨done.toArray⟩)/\Tch NoB w w':=by
 obtain ⟨v,hv,hbs,hrow⟩:=hp
 have c3:w.cell? ⟨b,3,none⟩=some v:=Ja hrow
 have hst0:=Xx (P:=prog) (w:=w) (l:=done) hbs 52 9 5 underlying52 underlying5 underlying9
 obtain ⟨a,c,rfl⟩:=hbs.shape
 clear hv hbs hrow
 generalize (⟨done.toArray⟩:BA)=r at *
 generalize (bc done).length=n at *
 go_enter func380,ntmps380
 go_wp2
 go_ret
 exact ⟨rfl,Te _ _⟩
def recA (letter content:List UInt8):List UInt8:=letter++beL content.length 2 2++content
def recB (letter content:List UInt8):List UInt8:=recA letter content++(dgW 4 (recA letter content)).data.toList
theorem strL (s:BA):(⟨s.data.toList.toArray⟩:BA)=s:=by simp
theorem Ji9 (b:Nat) (g:Option Nat) (wd:Int) (done:List UInt8) (s:BA) (hs:s.size<65536) (hd:done.length<=1000000000000) (w:World) (hp:Jc w b g wd .nilIface (.wr done)):
  Calls prog 210 #[.pointer (some ⟨b,0,none⟩),.string s] w λe w'=>e=.returned (.string s)/\Xn w w' b g wd (.wr (done++beL s.size 2 2++s.data.toList)):=by
 have hnum:(PS.wr done).num s.size 2=some (s.size,.wr (done++beL s.size 2 2)):=by simp only [PS.num];rw [if_pos (by omega)]
 have htxt:(PS.wr (done++beL s.size 2 2)).txt s.data.toList s.size=some (s.data.toList,.wr (done++beL s.size 2 2++s.data.toList)):=by
  simp only [PS.txt];rw [if_pos (by simp only [QA];rfl)]
 have HN:Hid (Calls prog 138 #[.pointer (some ⟨b,0,none⟩),.int .u64 (s.size:Int),.int .i64 2] w λe w'=>e=.returned (.int .u64 (s.size:Int))/\Xn w w' b g wd (.wr (done++beL s.size 2 2))):=Xg b g wd s.size 2 s.size (.wr done) _ w hp (by omega) (by simp only [PS.len];omega) hnum
 have HT:Hid (∀w1 g1,Jc w1 b g1 wd .nilIface (.wr (done++beL s.size 2 2))->Calls prog 209 #[.pointer (some ⟨b,0,none⟩),.string s,.int .i64 (s.size:Int)] w1 λe w'=>e=.returned (.string s)/\Xn w1 w' b g1 wd (.wr (done++beL s.size 2 2++s.data.toList))):=λw1 g1 h1=>
  (Zl b g1 wd s s.size s.data.toList _ _ w1 h1 (by simp only [PS.len,Qe,Jg];omega) htxt).mono λe w' k=>⟨by rw [k.1,strL],k.2⟩
 have h1:IntKind.u64.wrap (s.size:Int)=(s.size:Int):=Jw _ (by omega) (by omega)
 have h2:IntKind.i64.wrap (s.size:Int)=(s.size:Int):=JG _ (by omega) (by omega)
 clear hp hnum htxt hs hd
 go_enter func210,ntmps210
 go_wp2_with fail
 refine HN.o.mono ?_
 rintro _ w1 ⟨rfl,g1,hp1,hm1,ht1⟩
 have HM1:Hid (Jn w g g1):=hm1
 have HT1:Hid (Tch _ w w1):=ht1
 have HP1:Hid (Jc _ _ _ _ _ _):=hp1
 clear hp1 hm1 ht1 HN
 go_wp2_with fail
 refine (HT.o w1 g1 HP1.o).mono ?_
 rintro _ w2 ⟨rfl,hto⟩
 have HTO:Hid (Xn w w2 b g wd _):=Xn.trans HM1.o HT1.o hto
 clear hto HT HP1
 go_wp2
 go_ret
 exact ⟨rfl,HTO.o⟩
theorem Jle (E:Nat->Addr) (b:Nat) (g:Option Nat) (wd:Int) (done:List UInt8) (hd:done.length<=1000000) (w:World) (hE:Env E w) (hp:Jc w b g wd .nilIface (.wr done)):
  Calls prog 211 #[.pointer (some ⟨b,0,none⟩),.int .i64 0] w λe w'=>e=.returned (.tuple #[])/\Xn w w' b g wd (.wr (done++(dgW 4 done).data.toList)):=by
 have c0:w.cell? ⟨b,0,none⟩=some (.iface 153 (.pointer (some ⟨b,0,none⟩))):=by obtain ⟨v,_,_,hrow⟩:=hp;exact Ja hrow
 have hm:=JcB ⟨b,0,none⟩
 have hsz:(dgW 4 done).size=4:=Jp 4 (by omega) done
 have htxt:(PS.wr done).txt (dgW 4 done).data.toList 4=some ((dgW 4 done).data.toList,.wr (done++(dgW 4 done).data.toList)):=by
  simp only [PS.txt];rw [if_pos (by simp only [QA];exact hsz)]
 obtain ⟨dz,hdz⟩:∃dz:BA,dz=⟨done.toArray⟩:=⟨_,rfl⟩
 obtain ⟨sm,hsm⟩:∃sm:BA,sm=dgW 4 done:=⟨_,rfl⟩
 have HSI:Hid (Calls prog 380 #[.pointer (some ⟨b,0,none⟩),.int .i64 0] w λe w'=>e=.returned (.string dz)/\Tch NoB w w'):=by rw [hdz];exact Jjx b g wd .nilIface done w hp
 have HOF:Hid (∀w1,Tch NoB w w1->Calls prog 130 #[.int .i64 4,.string dz] w1 λe w'=>e=.returned (.string sm)/\Tch NoB w1 w'):=λw1 hT=>by
  rw [hdz,hsm]
  exact ZN E 4 ⟨done.toArray⟩ w1 (hE.tch hT noE) (by omega) (by omega) (by show done.toArray.size<=_;simp;omega)
 have HT:Hid (∀w1,Tch NoB w w1->Calls prog 209 #[.pointer (some ⟨b,0,none⟩),.string sm,.int .i64 4] w1 λe w'=>e=.returned (.string sm)/\Xn w w' b g wd (.wr (done++(dgW 4 done).data.toList))):=λw1 hT=>by
  rw [hsm]
  exact (Zl b g wd (dgW 4 done) 4 _ _ _ w1 (hp.tch hT (λh=>h) (λ_ _ h=>h)) (by simp only [PS.len];omega) htxt).mono λe w' k=>⟨by rw [k.1,strL],by
   obtain ⟨g',k1,k2,k3⟩:=k.2
   exact ⟨g',k1,k2.imp (λh=>h) (λ⟨j,h1,h2⟩=>⟨j,h1,Qm hT.size h2⟩),(hT.mono noE).trans k3 (λj hj=>.inl hj)⟩⟩
 clear hE hp htxt hsz hsm hdz hd
 go_enter func211,ntmps211
 go_wp2_with fail
 refine HSI.o.mono ?_
 rintro _ w1 ⟨rfl,ht1⟩
 have HT1:Hid (Tch _ w w1):=ht1
 clear ht1 HSI
 go_wp2_with fail
 refine (HOF.o w1 HT1.o).mono ?_
 rintro _ w2 ⟨rfl,ht2⟩
 have HT2:Hid (Tch NoB w w2):=HT1.o.go ht2
 clear ht2 HOF HT1
 go_wp2_with fail
 refine (HT.o w2 HT2.o).mono ?_
 rintro _ w3 ⟨rfl,hto⟩
 have HTO:Hid (Xn _ _ _ _ _ _):=hto
 clear hto HT
 go_wp2
 refine bodyPost_end (v:=.tuple #[]) (results_none results211 _ _ _) rfl ⟨rfl,HTO.o⟩
theorem JkB (w:World) (g:Nat) (t:TypeId) (a b v0 v1:Value) (h:w.heap[g]? =some (.cells #[a,b] t (0,0))):(w.setCell ⟨g,0,none⟩ v0).setCell ⟨g,1,none⟩ v1=w.setRow g #[v0,v1]:=set2 _ _ _ _ _ _ _ h
theorem Jhm (E:Nat->Addr) (b:Nat) (hb12:18<=b) (wd:Nat) (lt ct:BA) (hl:lt.size=1) (hc:ct.size<65536) (w:World) (hE:Env E w) (hp:Jc w b none (wd:Int) .nilIface (.wr [])):
  Calls prog 141 #[.pointer (some ⟨b,0,none⟩),.agg #[.string lt,.string ct]] w λe w'=>e=.returned (.agg #[.string lt,.string ct])/\StTo E w w' b none (wd:Int) (some (.wr (recB lt.data.toList ct.data.toList))):=by
 have hlt:=hp.lt
 have HR0:=Run.start hb12 hE (show Jf E w b none (wd:Int) (some (.wr [])) from hp) (Tch.allocs NoB w (.cells #[.string lt,.string ct] 195) (.cells #[.string ⟨#[]⟩,.string ⟨#[]⟩] 195))
 have hL:lt.data.toList.length=1:=by simp only [QA];exact hl
 have htxt:(PS.wr []).txt lt.data.toList 1=some (lt.data.toList,.wr lt.data.toList):=by simp only [PS.txt];rw [if_pos hL];rfl
 have HTX:Hid (∀w1 g1,Jc w1 b g1 (wd:Int) .nilIface (.wr [])->Calls prog 209 #[.pointer (some ⟨b,0,none⟩),.string lt,.int .i64 1] w1 λe w'=>e=.returned (.string lt)/\StTo E w1 w' b g1 (wd:Int) (some (.wr lt.data.toList))):=λw1 g1 h1=>
  (Zl b g1 wd lt 1 _ _ _ w1 h1 (by simp [PS.len]) htxt).mono λe w' k=>⟨by rw [k.1,strL],k.2⟩
 have HSZ:Hid (∀w1 g1,Jc w1 b g1 (wd:Int) .nilIface (.wr lt.data.toList)->Calls prog 210 #[.pointer (some ⟨b,0,none⟩),.string ct] w1 λe w'=>e=.returned (.string ct)/\StTo E w1 w' b g1 (wd:Int) (some (.wr (recA lt.data.toList ct.data.toList)))):=λw1 g1 h1=>
  (Ji9 b g1 wd lt.data.toList ct hc (by omega) w1 h1).mono λe w' k=>⟨k.1,by
   have e:ct.data.toList.length=ct.size:=by simp only [QA];rfl
   unfold recA
   rw [e]
   exact k.2⟩
 have hrl:(recA lt.data.toList ct.data.toList).length<=1000000:=by
  have e:ct.data.toList.length=ct.size:=by simp only [QA];rfl
  unfold recA
  simp only [Qe,Jg,hL,e]
  omega
 have HSM:Hid (∀w1 g1,Env E w1->Jc w1 b g1 (wd:Int) .nilIface (.wr (recA lt.data.toList ct.data.toList))->Calls prog 211 #[.pointer (some ⟨b,0,none⟩),.int .i64 0] w1 λe w'=>e=.returned (.tuple #[])/\StTo E w1 w' b g1 (wd:Int) (some (.wr (recB lt.data.toList ct.data.toList)))):=λw1 g1 h1 h2=>Jle E b g1 wd _ hrl w1 h1 h2
 have hm:=JcA ⟨b,0,none⟩
 have c0:=(show ∀W,Jc W b none (wd:Int) .nilIface (.wr [])->W.cell? ⟨b,0,none⟩=some (.iface 153 (.pointer (some ⟨b,0,none⟩))) from λW h=>by obtain ⟨v,_,_,hrow⟩:=h;exact Ja hrow) _ HR0.port
 have HPL:Hid (∀W,Jc W b none (wd:Int) .nilIface (.wr [])->Calls prog 379 #[.pointer (some ⟨b,0,none⟩)] W λe w'=>e=.returned (.int .i64 0)/\W=w'):=λW h=>Jjw b none wd .nilIface [] W h
 have RUN:Hid (Run _ _ _ _ _ _ _ _ _):=HR0
 clear hE hp HR0 htxt hrl hL
 generalize recA lt.data.toList ct.data.toList=rA at *
 generalize recB lt.data.toList ct.data.toList=rB at *
 generalize lt.data.toList=lL at *
 go_enter func141,ntmps141
 go_wp2_with fail
 refine (HPL.o _ RUN.out.port).mono ?_
 rintro _ _ ⟨rfl,rfl⟩
 go_wp2_with fail
 refine (HTX.o _ _ RUN.out.port).mono ?_
 rintro _ w1 ⟨rfl,h⟩
 obtain ⟨g1,R1⟩:=RUN.out.step h
 have bx1:=(R1.box (k:=w.heap.size) (Ql _) (heap_alloc2_old _ _ _)).1
 have c1:w1.cell? ⟨w.heap.size,1,none⟩=some (.string ct):=Ja bx1
 have RUN1:Hid (Run _ _ _ _ _ _ _ _ _):=R1
 clear R1 bx1 h HTX HPL c0
 go_wp2_with fail
 refine (HSZ.o _ _ RUN1.out.port).mono ?_
 rintro _ w2 ⟨rfl,h⟩
 obtain ⟨g2,R2⟩:=RUN1.out.step h
 have RUN2:Hid (Run _ _ _ _ _ _ _ _ _):=R2
 clear R2 h HSZ c1
 go_wp2_with fail
 refine (HSM.o _ _ RUN2.out.env RUN2.out.port).mono ?_
 rintro _ w4 ⟨rfl,h⟩
 obtain ⟨g4,R4⟩:=RUN2.out.step h
 have rR:=(R4.box (k:=w.heap.size+1) (by omega) (heap_alloc2_new _ _ _)).1
 have e0:w4.cell? ⟨w.heap.size+1,0,none⟩=some (.string ⟨#[]⟩):=Ja rR
 have e1:w4.cell? ⟨w.heap.size+1,1,none⟩=some (.string ⟨#[]⟩):=Ja rR
 have fR:∀j,w4.frozen? ⟨w.heap.size+1,j,none⟩=false:=λj=>Qg _ _ _ _ _ rR
 have RUN4:Hid (Run _ _ _ _ _ _ _ _ _):=R4
 have RR:Hid (_=_):=rR
 clear R4 rR h HSM
 go_wp2
 rw [JkB _ _ _ _ _ _ _ RR.out]
 exact QJ (v:=.agg #[.string lt,.string ct]) (Qq results141 _ _ (w.heap.size+1) _ _ (0,0) _ rfl (Qi _ _ _ _ _ _ RR.out) underlying195 rfl (by kernel_rfl)) rfl ⟨rfl,RUN4.out.done (k:=w.heap.size+1) (by omega) (heap_alloc2_new _ _ _) (by decide)⟩

theorem Yh (x:BA):x.data.toList.length=x.size:=by simp only [QA];rfl
theorem Jb4 (a b:List UInt8):(recB a b).length=a.length+b.length+6:=by
 unfold recB
 rw [Qe,Yh,Jp 4 (by omega)]
 unfold recA
 simp only [Qe,Jg]
 omega
structure Xj (base:Nat) (w:World) (v:Value) (lg:List UInt8):Prop where
 bs:Bs base w v (bc lg)
 kind:RowT 5 w v
theorem Bs.tch {base:Nat} {w w':World} {v:Value} {xs:List Value} {S:Nat->Prop} (h:Bs base w v xs) (k:Tch S w w') (hs:∀j,v.ownBlock=some j->¬S j):Bs base w' v xs:=by
 rcases h with h | ⟨g,cap,hv,hb,hlt,hle,hm,hc,hsp⟩
 ·exact .inl h
 ·have hbk:w'.heap[g]? =w.heap[g]? :=k.block g hlt (hs g (by rw [hv];rfl))
  refine .inr ⟨g,cap,hv,hb,Qk hlt k.size,hle,hm,λj u hu=>?_,λj hj=>?_⟩
  ·rw [World.cell?_of_block (a:=⟨g,j,none⟩) hbk];exact hc j u hu
  ·rw [World.cell?_of_block (a:=⟨g,j,none⟩) hbk,World.frozen?_of_block (a:=⟨g,j,none⟩) hbk];exact hsp j hj
theorem Xj.tch {base:Nat} {w w':World} {v:Value} {lg:List UInt8} {S:Nat->Prop} (h:Xj base w v lg) (k:Tch S w w') (hs:∀j,v.ownBlock=some j->¬S j):Xj base w' v lg:=
 ⟨h.bs.tch k hs,λj hj=>by
  obtain ⟨cur,m,hr⟩:=h.kind j hj
  exact ⟨cur,m,(k.block j (Jb hr) (hs j hj)).trans hr⟩⟩
theorem Xj.next {base:Nat} {w w':World} {v:Value} {lg:List UInt8} (h:Xj base w v lg) (k:Tch NoB w w'):Xj base w' v lg:=h.tch k (λ_ _ e=>e)
theorem Xj.ne_row {base:Nat} {w:World} {cb wd fl r:Nat} {bs:List BV} {v:Value} {lg:List UInt8} (h:Xj base w v lg) (c:JI w cb wd fl r bs v):¬some cb=v.ownBlock/\¬some r=v.ownBlock:=by
 constructor
 ·intro e
  obtain ⟨cur,m,hr⟩:=h.kind cb e.symm
  rw [c.row] at hr
  simp at hr
 ·intro e
  obtain ⟨cur,m,hr⟩:=h.kind r e.symm
  rw [c.map] at hr
  simp at hr
theorem Jb5 (E:Nat->Addr) {w:World} (hE:Env E w) {cb wd fl r:Nat} {bs:List BV} {lv:Value} (h:JI w cb wd fl r bs lv) (base:Nat) (hbase:base<=w.heap.size) (lg:List UInt8) (hl:Xj base w lv lg) (hll:lg.length<=140737488000000) (lt ct:BA) (h1:lt.size=1) (h2:ct.size<65536):
  Calls prog 89 #[.pointer (some ⟨cb,0,none⟩),.string lt,.string ct] w λe w'=>e=.returned .nilIface/\∃lv',JI w' cb wd fl r bs lv'/\Xj base w' lv' (lg++recB lt.data.toList ct.data.toList)/\Tch (λk=>k=cb\/some k=lv.ownBlock) w w'/\Jn w lv.ownBlock lv'.ownBlock:=by
 have hsz:=hE.size
 have c0:w.cell? ⟨cb,0,none⟩=some (.int .i64 (wd:Int)):=Ja h.row
 obtain ⟨i0,hi,hz0,hz1,hz2⟩:=info_parts JbD
 obtain ⟨rec,hrec⟩:∃rec,rec=recB lt.data.toList ct.data.toList:=⟨_,rfl⟩
 have hrl:rec.length<=70000:=by
  rw [hrec,Jb4,Yh,Yh]
  omega
 have HRC:Hid (∀W,Tch NoB w W->Jc W w.heap.size none (wd:Int) .nilIface (.wr [])->Calls prog 141 #[.pointer (some ⟨w.heap.size,0,none⟩),.agg #[.string lt,.string ct]] W λe w'=>e=.returned (.agg #[.string lt,.string ct])/\StTo E W w' w.heap.size none (wd:Int) (some (.wr rec))):=λW hT hp=>by
  rw [hrec];exact Jhm E w.heap.size hsz wd lt ct h1 h2 W (hE.tch hT noE) hp
 have HROW:Hid _:=h
 have HL:Hid _:=hl
 have HLL:Hid (lg.length<=140737488000000/\rec.length<=70000/\base<=w.heap.size):=⟨hll,hrl,hbase⟩
 rw [<-hrec]
 obtain ⟨sr,hsr⟩:∃sr:BA,sr=⟨rec.toArray⟩:=⟨_,rfl⟩
 have HSR:Hid (byteCells sr=bc rec/\sr.size=rec.length):=by rw [hsr];exact ⟨by simp [byteCells,bc],JB _⟩
 have HWD:Hid (∀W g,Jf E W w.heap.size g (wd:Int) (some (.wr rec))->Calls prog 79 #[.pointer (some ⟨w.heap.size,0,none⟩)] W λe w'=>Tch NoB W w'/\e=.returned (.tuple #[.string sr,.nilIface])):=λW g hp=>by
  rw [hsr];exact ZT E w.heap.size g wd (some (.wr rec)) (λp hp=>⟨_,(Option.some.inj hp).symm⟩) W hp
 clear hE h hl hll hrl hbase h1 h2 hrec hsr
 go_enter func89,ntmps89
 go_wp2_with fail
 refine (JX _ _).mono ?_
 rintro _ w1 ⟨rfl,hp1,ht1⟩
 have HT1:Hid _:=ht1
 have HP1:Hid _:=hp1
 clear ht1 hp1 c0
 go_wp2_with fail
 refine (HRC.o w1 HT1.o HP1.o).mono ?_
 rintro _ w2 ⟨rfl,g2,hp2,hm2,ht2⟩
 have HP2:Hid _:=hp2
 have HT2:Hid (Tch NoB w w2):=Xt (b:=w.heap.size) (Ql _) HT1.o ht2
 clear hp2 ht2 hm2 HP1 HT1 HRC
 go_wp2_with fail
 refine (HWD.o w2 g2 HP2.o).mono ?_
 rintro _ w3 ⟨ht3,rfl⟩
 have HT3:Hid (Tch NoB w w3):=HT2.o.go ht3
 have HR3:Hid (JI w3 cb wd fl r bs lv):=HROW.o.next HT3.o
 have HL3:Hid (Xj base w3 lv lg):=HL.o.next HT3.o
 have c3:w3.cell? ⟨cb,3,none⟩=some lv:=Ja HR3.o.row
 have hbs3:Hid (Bs base w3 lv (bc lg)):=HL3.o.bs
 have Hbl:Hid ((bc lg).length=lg.length):=XP lg
 clear ht3 HP2 HT2 HWD
 go_wp2_with (at_builtin;refine JaW rfl _ _ 52 9 5 rfl i0 _ underlying52 hi hz0 hz1 hz2 rfl rfl hbs3.out _ sr.size (byteCells sr) rfl (Src.ofString _ underlying9 sr) (by rw [Hbl.out,HSR.o.2];have:=HLL.o;omega) (by have:=HLL.o;have:=HT3.o.size;omega) ?_;intro v4 w4 hbs4 hg4 hmv4 hk4;have HB4:Hid _:=hbs4;have HG4:Hid _:=hg4;have HM4:Hid (Jn w3 lv.ownBlock v4.ownBlock):=hmv4;have HK4:Hid (RowT _ w4 v4):=hk4 HL3.o.kind;have hr4:w4.heap[cb]? =some (.cells #[.int .i64 (wd:Int),.int .i64 (fl:Int),.map (some r),lv] 143):=(hg4.block cb (Jb HR3.o.row) (HL3.o.ne_row HR3.o).1).trans HR3.o.row;have d3:w4.cell? ⟨cb,3,none⟩=some lv:=Ja hr4;have df:w4.frozen? ⟨cb,3,none⟩=false:=Qg _ _ _ _ _ hr4;have HR4:Hid _:=hr4;obtain ⟨y1,y2,y3,hv4⟩:=hbs4.shape3;clear hbs4 hg4 hmv4 hk4 hr4;subst hv4)
 go_ret
 have hset:=Qj w4 cb 3 _ _ (0,0) (.slice y1 y2 y3) HR4.o
 have hrow:(w4.setCell ⟨cb,3,none⟩ (.slice y1 y2 y3)).heap[cb]? =some (.cells #[.int .i64 (wd:Int),.int .i64 (fl:Int),.map (some r),.slice y1 y2 y3] 143):=by rw [hset];exact Qi _ _ _ _ _ _ HR4.o
 have hne:=HL3.o.ne_row HR3.o
 have hrlt:=(Jb HR3.o.map)
 have hm4:w4.heap[r]? =some (.map (JK 0 bs).toArray bs.length):=(HG4.o.block r hrlt hne.2).trans HR3.o.map
 have hrc:r ≠ cb:=λe=>by have:=HR3.o.row;rw [<-e,HR3.o.map] at this;cases this
 have tS:Tch (λk=>k=cb) w4 (w4.setCell ⟨cb,3,none⟩ (.slice y1 y2 y3)):=by rw [hset];exact Ts _ _ _
 have tG:Tch (λk=>some k=lv.ownBlock) w3 w4:=Tg HG4.o
 have hcb:=(Jb HR3.o.row)
 have hown:∀j,(Value.slice y1 y2 y3).ownBlock=some j->¬j=cb:=λj hj e=>by
  subst e
  rcases HM4.o with h | ⟨k,h,hk⟩
  ·exact hne.1 (by rw [<-h,hj])
  ·rw [hj] at h;cases h;omega
 refine ⟨rfl,_,⟨hrow,(tS.block r (Jb hm4) hrc).trans hm4⟩,Xj.tch ⟨?_,HK4.o⟩ tS hown,?_,?_⟩
 ·have e:=HB4.o
  rw [HSR.o.1,<-Zd] at e
  exact e
 ·exact ((HT3.o.mono noE).trans tG (λj hj=>.inl (.inr hj))).trans tS (λj hj=>.inl (.inl hj))
 ·rcases HM4.o with h | ⟨k,h,hk⟩
  ·exact .inl h
  ·exact .inr ⟨k,h,Qm HT3.o.size hk⟩
