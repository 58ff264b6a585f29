/- Lemmas. -/
import Derived.Test.YtjofpclmbjpgjaaGreatMk06
import Derived.Deep.CutRange
import Derived.Laws.CopyRow
import Derived.Lib.SliceRun
set_option maxHeartbeats 8000000
set_option maxRecDepth 100000
namespace Go.Proofs.YtjofpclmbjpgjaaGreat
open Lib (hid)
open Go.RowKit
theorem WorkX.work {tw tS tG:TypeId} {w:World} {g:Nat} {M:List It.Itm} {vS vG:Value} {LS:List Pl.Sec} {LG:List Pl.Sig} (h:WorkX tw tS tG w g M vS vG LS LG):WorkL tw tS tG w g M LS LG:=⟨vS,vG,h⟩
theorem WorkX.next {tw tS tG:TypeId} {w:World} {g:Nat} {M:List It.Itm} {x:It.Itm} {vS vG:Value} {LS:List Pl.Sec} {LG:List Pl.Sig} (h:WorkX tw tS tG w g M vS vG LS LG) (hk:It.isNum x.k=false) (e1:Pl.wS (M++[x])=LS) (e2:Pl.wG (M++[x])=LG):WorkAt tw tS tG w g (M++[x]):=by
 subst e1 e2
 obtain⟨h1,h2,h3,h4⟩:=h
 exact⟨vS,vG,by rw[jA hk];exact h1,h2,h3,h4⟩
theorem qJ {M:List It.Itm} {x:It.Itm} (h:Pl.tipErr M (Pl.ments M) x.e0≠0):Pl.joinErr M x=Pl.tipErr M (Pl.ments M) x.e0:=by unfold Pl.joinErr;rw[ArZ h]
theorem oT {M:List It.Itm} {x:It.Itm} (h:Pl.tipErr M (Pl.ments M) x.e0=0):Pl.joinErr M x=Pl.tipErr M (Pl.ments M++[x.e0]) x.e1:=by unfold Pl.joinErr;rw[ArY (λhc=>hc h)]
theorem AbD (g:Nat) (M:List It.Itm) (x:It.Itm) (w:World) (h:WorkAt 73 56 58 w g M) (hM:Pl.Ok M) (hr:It.right x=true) (h7:x.k=7) :
 Calls Tryz.prog 52 #[.pointer (some ⟨g,0,none⟩),lW x] w (dX 73 56 58 g M x (Pl.joinErr M x) w):=by
 have hc0:=fB (Pl.right_join hr h7).2.1
 have hc1:=fB (Pl.right_join hr h7).2.2
 have hl:(Pl.wS M).length<=1000000:=by rw[Pl.wS_len];have:=hM.few;omega
 obtain⟨vS,vG,hX⟩:∃ vS vG,WorkX 73 56 58 w g M vS vG (Pl.wS M) (Pl.wG M):=h
 have hg:=(ArL hX.1).1
 have X0:=hid ((AtB w).alloc (ArR _) (.cells (item7 x) 67))
 obtain⟨⟨k0,k1,k2,k3,k4,k5,k6⟩,-,g2⟩:=row7 (show (w.alloc (.cells (item7 x) 67)).heap[w.heap.size]?=some (.cells #[.int .i64 x.k,.string (txt x.name),.int .i64 x.n,.string (txt x.e0.n),.int .u8 x.e0.c.toNat,.string (txt x.e1.n),.int .u8 x.e1.c.toNat] 67 (0,0)) from AsW _ _)
 have FR:=hid (iZ g M (Pl.wS M) (Pl.wG M) x.e0 (w.alloc (.cells (item7 x) 67)) ⟨vS,vG,hX.below X0.out⟩ hl hc0)
 have FR2:=hid (λW L (hW:WorkL 73 56 58 W g M L (Pl.wG M)) (hL:L.length=(Pl.wS M).length)=>iZ g M L (Pl.wG M) x.e1 W hW (by omega) hc1)
 have hk8:(x.k == 8)=false:=by rw[ArU];omega
 have HX:=hid hX
 have H7:=hid h7
 clear hX hc0 hc1 hl h7
 go_enter Tryz.func52,Tryz.ntmps52
 go_wp2_with fail
 refine FR.out.mono ?_;rintro e w1 ⟨a,b,c,rfl,hfree,hb1⟩
 obtain⟨hcE,hcs⟩:=oR hM hfree
 have hb01:=X0.out.trans (hb1.mono X0.out.size)
 have hB:=hid (hb01.mono (Nat.le_of_lt hg))
 by_cases hc:c=0
 ·obtain⟨i,e,y,rfl,rfl,hy,he,ht⟩:=hcs hc
  subst hc
  have he3:e<3:=by unfold Pl.nEnds at he;split at he <;> omega
  have hX1:=HX.out.below hb01
  have hi:=(ArM (Pl.wS_of hy)).1
  obtain⟨gb,cap,rfl⟩:=hX1.slice (by omega)
  obtain⟨s4,t0,-,-,fz,g1,gb1,ggb,-⟩:=hX1.reads (Pl.wS_of hy) he3
  have f0:=fz (i*12+3+e*3)
  have hm:x.e0 ∉ Pl.ments M:=(Pl.tipErr_zero.1 hcE.symm).2.2
  have hbw:w.heap.size<w1.heap.size:=AsE g2 hb1.size
  have keepc:∀ o,w1.cell? ⟨w.heap.size,o,none⟩=(w.alloc (.cells (item7 x) 67)).cell? ⟨w.heap.size,o,none⟩:=λo=>hb1.cell (show (⟨w.heap.size,o,none⟩:Addr).block<(w.alloc (.cells (item7 x) 67)).heap.size from g2)
  have q0:=(keepc 0).trans k0
  have q5:=(keepc 5).trans k5
  have q6:=(keepc 6).trans k6
  have kne:w.heap.size≠gb:=λe=>by have:=(HX.out.2.1.lt gb rfl).2;omega
  have st:=hX1.store (Pl.wS_of hy) (j:=3+e*3) (by omega) (Pl.Sec.setTo e (-1)) (.int .i64 (-1)) (cM he3 (-1) _)
  rw[<-Nat.add_assoc] at st
  have F2:=hid (FR2.out _ _ st.work (List.length_modify ..))
  have ST:=hid st
  have BF:=hid (hB.out.setCell (p:=⟨gb,i*12+3+e*3,none⟩) (Nat.le_of_lt ggb) (.int .i64 (-1)))
  have hCE:=hid hcE
  have HM:=hid hM
  have HY:=hid hy
  have HT:=hid ht
  have HE:=hid he
  have HMm:=hid hm
  clear st hfree hcs hb1 hb01 hX1 hy ht hm hcE hM fz keepc he
  go_wp2_with fail
  refine F2.out.mono ?_;rintro e' w2 ⟨a2,b2,c2,rfl,hfree2,hb2⟩
  obtain⟨hcE2,hcs2⟩:=qI HM.out HY.out HE.out (by rw[<-HT.out];exact HMm.out) hfree2
  rw[<-HT.out] at hcE2
  have BF2:=hid (BF.out.trans (hb2.mono (by simp;omega)))
  have JE:=hid (oT hCE.out.symm)
  by_cases hc2:c2=0
  ·obtain⟨j,f,z,rfl,rfl,hz,hf,hu,hne,hm1⟩:=hcs2 hc2
   subst hc2
   have hf3:f<3:=by unfold Pl.nEnds at hf;split at hf <;> omega
   have hX2:=ST.out.below hb2
   have hs1:((Pl.wS M).modify i (Pl.Sec.setTo e (-1)))[i]?=some (Pl.Sec.setTo e (-1) (Pl.secG (Pl.gW M) y)):=by rw[Pl.modify_at,ArZ rfl,Pl.wS_of HY.out];rfl
   obtain⟨S4,T0,T1,-,fz2,G1,GB1,-,-⟩:=hX2.reads hs1 he3
   have fa:=fz2 (i*12+3+e*3)
   have fb:=fz2 (i*12+3+e*3+1)
   have HX2:=hid hX2
   have hj:=(ArM (Pl.wS_of hz)).1
   have hCE2:=hid hcE2
   have HZ:=hid hz
   have HU:=hid hu
   have HNE:=hid hne
   have HM1:=hid hm1
   have HF:=hid hf
   have HS1:=hid hs1
   clear s4 t0 f0 hfree2 hcs2 hb2 hX2 fz2 hcE2 hz hu hne hm1 hf hs1
   go_wp2_with fail
   go_region
   have sa:=HX2.out.store HS1.out (j:=3+e*3) (by omega) (Pl.Sec.setTo e j) (.int .i64 j) (cM he3 j _)
   have hs2:(((Pl.wS M).modify i (Pl.Sec.setTo e (-1))).modify i (Pl.Sec.setTo e j))[i]?=some (Pl.Sec.setTo e j (Pl.Sec.setTo e (-1) (Pl.secG (Pl.gW M) y))):=by rw[Pl.modify_at,ArZ rfl,HS1.out];rfl
   have sb:=sa.store hs2 (j:=3+e*3+1) (by omega) (Pl.Sec.setAt e f) (.int .i64 f) (lY he3 f _)
   rw[<-Nat.add_assoc,<-Nat.add_assoc,<-Nat.add_assoc] at sb
   obtain⟨t3,ht3⟩:∃ t3,((((Pl.wS M).modify i (Pl.Sec.setTo e (-1))).modify i (Pl.Sec.setTo e j)).modify i (Pl.Sec.setAt e f))[j]?=some t3:=⟨_,ArN (by simpa using hj)⟩
   obtain⟨S4b,T0b,T1b,-,fz3,G1b,GB1b,-,-⟩:=sb.reads ht3 hf3
   have fc:=fz3 (j*12+3+f*3)
   have fd:=fz3 (j*12+3+f*3+1)
   have sc:=sb.store ht3 (j:=3+f*3) (by omega) (Pl.Sec.setTo f i) (.int .i64 i) (cM hf3 i _)
   have hs4:(((((Pl.wS M).modify i (Pl.Sec.setTo e (-1))).modify i (Pl.Sec.setTo e j)).modify i (Pl.Sec.setAt e f)).modify j (Pl.Sec.setTo f i))[j]?=some (Pl.Sec.setTo f i t3):=by rw[Pl.modify_at,ArZ rfl,ht3];rfl
   have sd:=sc.store hs4 (j:=3+f*3+1) (by omega) (Pl.Sec.setAt f e) (.int .i64 e) (lY hf3 e _)
   rw[<-Nat.add_assoc,<-Nat.add_assoc,<-Nat.add_assoc] at sd
   have SD:=hid sd
   clear S4 T0 T1 fa fb fz3 sa hs2 sb sc hs4 sd ht3
   have BF3:=(BF2.out.setCell (p:=⟨gb,i*12+3+e*3,none⟩) (Nat.le_of_lt ggb) (.int .i64 j)).setCell (p:=⟨gb,i*12+3+e*3+1,none⟩) (Nat.le_of_lt ggb) (.int .i64 f)
   generalize (w2.setCell ⟨gb,i*12+3+e*3,none⟩ (.int .i64 j)).setCell ⟨gb,i*12+3+e*3+1,none⟩ (.int .i64 f)=W3 at S4b T0b T1b fc fd G1b GB1b SD BF3 ⊢
   have BF5:=hid ((BF3.setCell (p:=⟨gb,j*12+3+f*3,none⟩) (Nat.le_of_lt ggb) (.int .i64 i)).setCell (p:=⟨gb,j*12+3+f*3+1,none⟩) (Nat.le_of_lt ggb) (.int .i64 e))
   clear BF3
   go_wp2_with fail
   go_region
   go_wp2
   go_ret
   have hys:=Pl.wS_of HY.out
   have hzs:=Pl.wS_of HZ.out
   have hij:i=j->e≠f:=λh1 h2=>by
    subst h1 h2
    have:=HZ.out.symm.trans HY.out
    cases this
    exact HNE.out HU.out
   obtain⟨e1,e2⟩:=Pl.w_join HM.out H7.out HMm.out HM1.out (by rw[HT.out];exact λh=>HNE.out h.symm) HY.out HZ.out HE.out HF.out HT.out HU.out
   have e3:=AgN hys hzs he3 hf3 hij j f i e _ _ (by rw[Pl.get_secG _ HE.out]) (by rw[Pl.get_secG _ HF.out])
   exact⟨by rw[JE.out,<-hCE2.out];rfl,λ_=>SD.out.drew.drew.next (by unfold It.isNum;rw[H7.out];decide) (e1.trans e3.symm) e2,BF5.out.drew.drew⟩
  have hcn:(c2 != 0)=true:=by rw[AsV];exact hc2
  have hCE2:=hid hcE2
  clear hfree2 hcs2 hb2 hcE2
  go_wp2
  go_ret
  exact⟨by rw[JE.out,<-hCE2.out];rfl,λh=>absurd (hCE2.out.trans (JE.out.symm.trans h)) hc2,BF2.out⟩
 have hcn:(c != 0)=true:=by rw[AsV];exact hc
 have hCE:=hid (hcE.trans (qJ (by rw[<-hcE];exact hc)).symm)
 clear hfree hcs hb1 hb01 hcE hM
 go_wp2
 go_ret
 exact⟨by rw[<-hCE.out];rfl,λh=>absurd (hCE.out.trans h) hc,hB.out⟩
theorem AdV:(Tryz.prog.info? 58).map (λi=>(i.zero,i.size,i.bytes))=some (some (.agg #[.string ⟨#[]⟩,.int .i64 0,.int .i64 0]),3,32):=by kernel_rfl
theorem xE {M:List It.Itm} (hM:Pl.Ok M) (t:It.Tp):(iF (Pl.wS M) t).2.2=Pl.tipErr M [] t /\
 ((iF (Pl.wS M) t).2.2=0->∃ (i e:Nat) (y:It.Itm),iF (Pl.wS M) t=((i:Int),(e:Int),0)/\(Pl.secs M)[i]?=some y/\e<Pl.nEnds (Pl.isPt y)/\t=Pl.tip y e):=by
 rcases Pl.find_wS (M:=M) t.n with ⟨hn,hf⟩|⟨i,y,hf,hy,hn⟩
 ·rw[tY (by rw[hf];decide)]
  exact⟨by unfold Pl.tipErr;rw[ArZ hn],λh=>by cases h⟩
 have hm:=ArX hy
 have hin:t.n∈Pl.nmS M:=Pl.mem_nmS.2 ⟨y,hm,hn⟩
 have hp:Pl.ptOf M t.n=Pl.isPt y:=by rw[<-hn];exact Pl.ptOf_eq hM.names hm
 rw[tZ hf (Pl.wS_of hy)]
 cases he:Pl.endAt (Pl.secG (Pl.gW M) y).pt t.c with
 | none =>
   refine⟨?_,λh=>by cases h⟩
   unfold Pl.tipErr
   rw[ArY (λh=>h hin),hp,ArZ (show Pl.endAt (Pl.isPt y) t.c=none from he)]
 | some e =>
   obtain⟨hl,hlt⟩:=Pl.letter_endAt (show Pl.endAt (Pl.isPt y) t.c=some e from he)
   have tt:t=Pl.tip y e:=by cases t;simp at hn hl;simp[Pl.tip,hn,hl]
   exact⟨(Pl.tipErr_zero.2 ⟨hin,by rw[hp,show Pl.endAt (Pl.isPt y) t.c=some e from he];rfl,by simp⟩).symm,λ_=>⟨i,e,y,rfl,hy,hlt,tt⟩⟩
theorem WorkX.signals {tw tS tG:TypeId} {w w1 w2:World} {g:Nat} {M:List It.Itm} {vS vG v':Value} {LS:List Pl.Sec} {LG:List Pl.Sig} {z:Pl.Sig} {g' cap':Nat} (h:WorkX tw tS tG w g M vS vG LS LG)
 (hb:Below w.heap.size w w1) (hgr:w1.grownBy w2 vG.ownBlock) (hv:v'=.slice (some ⟨g',0,none⟩) (LG.length+1) cap') (hown:w2.ownsRow (g+1) tG bD.m v' (LG.length+1) (bD.all LG++bD.enc z)) (hg':vG.ownBlock=some g'∨w.heap.size<=g') :
 WorkX tw tS tG (w2.setCell ⟨g,5,none⟩ v') g M vS v' LS (LG++[z])/\Below g w (w2.setCell ⟨g,5,none⟩ v'):=by
 obtain⟨hrow,hS,hG,hap⟩:=h
 have hg:=(ArL hrow).1
 have hbs:=hb.size
 have hne:some g≠vG.ownBlock:=λe=>by have:=(hG.lt g e.symm).1;omega
 have row2:w2.heap[g]?=some (.cells (aO M vS vG) tw (0,0)):=by rw[hgr.block g (by omega) hne,hb.block g hg];exact hrow
 refine⟨⟨?_,?_,?_,?_⟩,?_⟩
 ·rw[AtA _ _ _ _ _ _ row2];rfl
 ·refine ownsRow_setCell_below (aL hS λb hb'=>?_) (a:=⟨g,5,none⟩) (by show g<g+1;omega) v'
  have hlt:=(hS.lt b hb').2
  rw[hgr.block b (by omega) (λe=>hap b hb' e.symm),hb.block b hlt]
 ·rw[ArV,List.length_singleton,bD.all_append,bD.all_one]
  exact ownsRow_setCell_below hown (a:=⟨g,5,none⟩) (by show g<g+1;omega) v'
 ·subst hv
  intro k hk1 hk2
  have:g'=k:=by simpa [Value.ownBlock] using hk2
  subst this
  rcases hg' with h|h
  ·exact hap g' hk1 h
  have:=(hS.lt g' hk1).2;omega
 have hb':Below g w w1:=hb.mono (Nat.le_of_lt hg)
 exact(hb'.grown hgr (by omega) (λk hk=>by have:=(hG.lt k hk).1;omega)).setCell (ArR _) _
theorem AkN {L:List Pl.Sig} {nm:List UInt8} {k:Nat} (hk:k<L.length) (h0:∀ j<k,∀ t,L[j]?=some t->t.name≠nm) (h:L[k].name≠nm):∀ j<k+1,∀ t,L[j]?=some t->t.name≠nm:=λj hj t ht=>by
 rcases Nat.lt_or_ge j k with h1|h1
 ·exact h0 j h1 t ht
 obtain rfl:j=k:=by omega
 rw[ArN hk] at ht
 cases ht
 exact h
theorem AnQ {M:List It.Itm} {nm:List UInt8} {k:Nat} (hk:k<(Pl.wG M).length) (h:(Pl.wG M)[k].name=nm):nm∈Pl.nmG M:=by
 have hm:=List.getElem_mem hk
 obtain⟨x,hx,e⟩:=List.mem_map.1 hm
 rw[<-e] at h
 exact List.mem_map.2 ⟨x,hx,h⟩
theorem AqS {M:List It.Itm} {nm:List UInt8} (h:∀ j<(Pl.wG M).length,∀ t,(Pl.wG M)[j]?=some t->t.name≠nm):nm ∉ Pl.nmG M:=λhm=>by
 obtain⟨x,hx,e⟩:=List.mem_map.1 hm
 obtain⟨j,hj,hjx⟩:=List.getElem_of_mem (List.mem_map_of_mem (f:=Pl.sigW (Pl.pos (Pl.nmS M)) M) hx)
 exact h j hj _ (ArN hj) (by
  show ((Pl.sigs M).map (Pl.sigW (Pl.pos (Pl.nmS M)) M))[j].name=nm
  rw[hjx];exact e)
theorem uB (g:Nat) (M:List It.Itm) (x:It.Itm) (w:World) (h:WorkAt 73 56 58 w g M) (hM:Pl.Ok M) (hr:It.right x=true) (h9:x.k=9) :
 Calls Tryz.prog 53 #[.pointer (some ⟨g,0,none⟩),lW x] w (dX 73 56 58 g M x (Pl.sigErr M x) w):=by
 obtain⟨i0,hi,hz0,hz1,hz2⟩:=info_parts AdV
 have hc0:=fB (Pl.right_sig hr h9).2.2
 have hl:(Pl.wS M).length<=1000000:=by rw[Pl.wS_len];have:=hM.few;omega
 have hlG:(Pl.wG M).length<=12:=by rw[Pl.wG_len];exact hM.gfew
 obtain⟨vS,vG,hX⟩:∃ vS vG,WorkX 73 56 58 w g M vS vG (Pl.wS M) (Pl.wG M):=h
 have hg:=(ArL hX.1).1
 obtain⟨-,A,cp,rfl,-,hR⟩:=Lies.Row.of_own hX.2.1
 obtain⟨-,A',cp',rfl,-,hR'⟩:=Lies.Row.of_own hX.2.2.1
 have X0:=hid ((AtB w).alloc (ArR _) (.cells (item7 x) 67))
 have R0:=hid (show (w.alloc (.cells (item7 x) 67)).heap[w.heap.size]?=some (.cells #[.int .i64 x.k,.string (txt x.name),.int .i64 x.n,.string (txt x.e0.n),.int .u8 x.e0.c.toNat,.string (txt x.e1.n),.int .u8 x.e1.c.toNat] 67 (0,0)) from AsW _ _)
 have g2:w.heap.size<(w.alloc (.cells (item7 x) 67)).heap.size:=(row7 R0.out).2.2
 have HX:=hid hX
 have H9:=hid h9
 have HR:=hid hR
 have EN:=hid (λW0 W (h0:Below w.heap.size w W0) (h:Below W0.heap.size W0 W)=>Made.of h (lC A cp (Pl.wS M) x.e0 W ((hR.below rfl h0).below rfl h) hl hc0))
 have EE:=hid (xE hM x.e0)
 have HM:=hid hM
 clear hX hc0 hR h9 hM
 go_enter Tryz.func53,Tryz.ntmps53
 go_wp2_with fail
 go_loopw [5] (λv wr=>∃ k:Nat,k<=(Pl.wG M).length/\v=.int .i64 k/\(∀ j<k,∀ t,(Pl.wG M)[j]?=some t->t.name≠x.name)/\Below (w.alloc (.cells (item7 x) 67)).heap.size (w.alloc (.cells (item7 x) 67)) wr) (λv _=>(Pl.wG M).length-(intOf v).toNat)
 case atStart=>exact⟨0,AsD _,rfl,λj hj=>absurd hj (by omega),Below.refl _ _⟩
 case round =>
  obtain⟨k,hk,rfl,h0,hbel⟩:=hrel
  have H0:=hid h0
  clear h0
  have hbw:=X0.out.trans (hbel.mono (Nat.le_of_lt g2))
  have hz:=hbel.size
  have g3:w.heap.size<wr.heap.size:=AsE g2 hz
  obtain⟨⟨m0,m1,m2,m3,m4,m5,m6⟩,-,-⟩:=row7 ((hbel.block _ g2).trans R0.out)
  have hXr:=HX.out.below hbw
  obtain⟨⟨-,-,-,-,s4,s5⟩,-,fzg,g1⟩:=bA hXr.1
  have HXr:=hid hXr
  have HBW:=hid hbw
  have HBG:=hid (hbw.mono (Nat.le_of_lt hg))
  clear hXr
  by_cases hlt:k<(Pl.wG M).length
  ·obtain⟨b,o,rfl,hb,on⟩:=(hR'.below rfl hbw).at hlt
   have n0:=(cF on).1
   rw[show k*bD.m=k*3 from rfl] at n0
   clear on hbw
   by_cases he:(Pl.wG M)[k].name=x.name
   ·have h1:=AdS he
    have P:=hid (show Pl.sigErr M x=3 by unfold Pl.sigErr;rw[ArZ (AnQ hlt he)])
    clear he
    go_wp2_with fail
    go_region
    go_wp2
    go_ret
    exact⟨by rw[P.out];rfl,(λh=>by rw[P.out] at h;cases h),HBG.out.drew⟩
   have h1:=AdT he
   have N:=hid (AkN hlt H0.out he)
   clear he
   go_wp2_with fail
   go_region
   go_wp2
   go_roundw
   case rel=>exact⟨k+1,by omega,by go_num,N.out,hbel.drew⟩
   case measure=>simp[intOf];omega
  have NG:=hid (AqS (M:=M) (nm:=x.name) λj hj=>H0.out j (by omega))
  clear hbw
  obtain⟨hE1,hE2⟩:=EE.out
  obtain⟨ta,tb,tc,hend⟩:∃ a b c,iF (Pl.wS M) x.e0=(a,b,c):=⟨_,_,_,rfl⟩
  rw[hend] at hE1 hE2
  have EN2:=hid (λW (h:Below wr.heap.size wr W)=>EN.out wr W HBW.out h)
  rw[hend] at EN2
  have SE:Pl.sigErr M x=if tc≠0 then tc else if (Pl.sigAt M x.e0).isSome then 3 else if (Pl.sigs M).length=12 then 9 else 0:=by
   unfold Pl.sigErr
   rw[ArY NG.out,<-show tc=Pl.tipErr M [] x.e0 from hE1]
  have HSE:=hid SE
  have HE2:=hid hE2
  clear SE hE1 hE2 hend EN EE
  go_wp2_with fail
  go_region_held3 (λw'=>w'.cell? ⟨g,4,none⟩=some (.slice A (Pl.wS M).length cp)/\w'.cell? ⟨w.heap.size,3,none⟩=some (.string (txt x.e0.n))/\w'.cell? ⟨w.heap.size,4,none⟩=some (.int .u8 x.e0.c.toNat))
   (first|exact⟨s4,m3,m4⟩|exact⟨(hcell _ _ g1).trans s4,(hcell _ _ g3).trans m3,(hcell _ _ g3).trans m4⟩)
   (first
    | (go_at_call 56;(with_reducible refine(EN2.out _ (Below.refl _ _).drew).mono ?_);rintro e w' ⟨rfl,hbl,hacc,hzz⟩;have hcell:=(bcell hbl).1))
  by_cases hc:tc=0
  ·obtain⟨i,e,y,he0,hy,he,ht⟩:=HE2.out hc
   obtain⟨rfl,rfl,rfl⟩:ta=(i:Int)/\tb=(e:Int)/\tc=0:=by cases he0;exact⟨rfl,rfl,rfl⟩
   have he3:e<3:=by unfold Pl.nEnds at he;split at he <;> omega
   have hX2:=HXr.out.below hacc
   have hin:=(ArM (Pl.wS_of hy)).1
   obtain⟨gb,cap,hvs⟩:=hX2.slice (by omega)
   obtain⟨rfl,rfl⟩:A=some ⟨gb,0,none⟩/\cp=cap:=by cases hvs;exact⟨rfl,rfl⟩
   obtain⟨S4,-,-,SG,fz,G1,GB1,ggb,-⟩:=hX2.reads (Pl.wS_of hy) he3
   rw[Pl.get_secG _ he] at SG
   have fs:=fz (i*12+3+e*3+2)
   have S5:=(bA hX2.1).1.2.2.2.2.2
   have F5:=(bA hX2.1).2.2.1 5
   have M1:=(hacc.cell (show (⟨w.heap.size,1,none⟩:Addr).block<wr.heap.size from g3)).trans m1
   have BF:=hid (HBG.out.trans (hacc.mono (Nat.le_of_lt g1)))
   have HX2:=hid hX2
   have HY:=hid hy
   have HT:=hid ht
   have HE:=hid he
   clear hvs he0 hX2 hbl hacc hzz hcell s4 s5 m0 m1 m2 m3 m4 m5 m6 hbel hy ht he fz fzg hR'
   cases hsg:Pl.sigAt M x.e0 with
   | some nm =>
     have P:=hid (show Pl.sigErr M x=3 by rw[HSE.out,ArY (by simp),hsg];rfl)
     have hv:(Pl.gW M (Pl.tip y e)).sig=Pl.pos (Pl.nmG M) nm:=by rw[<-HT.out];simp only[Pl.gW,Pl.enW,hsg]
     have hd:decide (0<=Pl.pos (Pl.nmG M) nm)=true:=aC (by unfold Pl.pos;omega)
     rw[hv] at SG
     clear hv hsg
     go_wp2
     go_ret
     exact⟨by rw[P.out];rfl,(λh=>by rw[P.out] at h;cases h),BF.out⟩
   | none =>
     have hv:(Pl.gW M (Pl.tip y e)).sig = -1:=by rw[<-HT.out];simp only[Pl.gW,Pl.enW,hsg]
     rw[hv] at SG
     by_cases h12:(Pl.sigs M).length=12
     ·have q12:(((Pl.wG M).length:Int) == 12)=true:=by rw[beq_iff_eq,Pl.wG_len];omega
      have P:=hid (show Pl.sigErr M x=9 by rw[HSE.out,ArY (by simp),hsg,ArY (by simp),ArZ h12])
      clear hv hsg h12
      go_wp2
      go_ret
      exact⟨by rw[P.out];rfl,(λh=>by rw[P.out] at h;cases h),BF.out⟩
     have q12:(((Pl.wG M).length:Int) == 12)=false:=by rw[ArU,Pl.wG_len];omega
     have P:=hid (show Pl.sigErr M x=0 by rw[HSE.out,ArY (by simp),hsg,ArY (by simp),ArY h12])
     have HSG:=hid hsg
     clear hv hsg h12
     have gbw:=(HX.out.2.1.lt gb rfl).2
     go_wp2_with fail
     go_region
     have st:=HX2.out.store (Pl.wS_of HY.out) (j:=3+e*3+2) (by omega) (Pl.Sec.setSig e (Pl.wG M).length) (.int .i64 (Pl.wG M).length) (fP he3 _ _)
     rw[<-Nat.add_assoc,<-Nat.add_assoc] at st
     have st2:=st.drew
     have B3:=Below.drew (BF.out.setCell (p:=⟨gb,i*12+3+e*3+2,none⟩) (Nat.le_of_lt ggb) (.int .i64 (Pl.wG M).length))
     have M3:((w'.setCell ⟨gb,i*12+3+e*3+2,none⟩ (.int .i64 (Pl.wG M).length)).drew).cell? ⟨w.heap.size,1,none⟩=some (.string (txt x.name)) :=
      (World.cell?_of_block (a:=⟨w.heap.size,1,none⟩) (AsX w' ⟨gb,i*12+3+e*3+2,none⟩ w.heap.size (.int .i64 (Pl.wG M).length) (by simpa using λe=>by omega))).trans M1
     generalize (w'.setCell ⟨gb,i*12+3+e*3+2,none⟩ (.int .i64 (Pl.wG M).length)).drew=WR at st2 B3 M3 ⊢
     obtain⟨⟨-,-,-,-,-,Z5⟩,-,fzr,gz⟩:=bA st2.1
     have ZF:=fzr 5
     have HX3:=hid st2
     have HB3:=hid B3
     have NW:=hid (show ∀ j u,([.string (txt x.name),.int .i64 i,.int .i64 e]:List Value)[j]?=some u->(WR.drew.alloc (.cells #[.string (txt x.name),.int .i64 i,.int .i64 e] 58)).cell? ((⟨WR.heap.size,0,none⟩:Addr).add j)=some u from
      λj u hu=>World.news_of_block (B:=WR.heap.size) (cs:=#[.string (txt x.name),.int .i64 i,.int .i64 e]) (t:=58) (fr:=(0,0)) (AsW WR.drew (.cells #[.string (txt x.name),.int .i64 i,.int .i64 e] 58)) j u (by simpa using hu))
     have ON:=hid (show ∀ u∈([.string (txt x.name),.int .i64 i,.int .i64 e]:List Value),u.oneCell'=true from λu hu=>by
      simp only[AsN,List.not_mem_nil,or_false] at hu
      rcases hu with rfl|rfl|rfl <;> rfl)
     have HNE:=hid (show some g≠(Value.slice A' (Pl.wG M).length cp').ownBlock from λe=>by have:=(st2.2.2.1.lt g e.symm).1;omega)
     have gbz:g+1<=WR.heap.size:=gz
     clear st st2 B3 fzr S4 SG S5 F5 M1 fs GB1 G1
     go_wp2_with fail
     go_region_law (refine step_append_lies _ (by rfl) (.tmp 92) (.tmp 98) 23 (by rfl) (g+1) 58 i0 _ 3 32 Tryz.underlying23 hi hz0 hz1 hz2 rfl (by decide) (.slice A' (Pl.wG M).length cp') (Pl.wG M).length (bD.all (Pl.wG M)) (by rfl) (HX3.out.2.2.1.drew.alloc _) ⟨WR.heap.size,0,none⟩ 1 1 [.string (txt x.name),.int .i64 i,.int .i64 e] (by rfl) (by rfl) NW.out ON.out (by omega) (by unfold maxLen;omega) (by omega) (by simp;omega) _ rfl ?_;intro g' cap' w3 hown hgr hg' hlt2;have hr3:=(hgr.block g (by simp;omega) HNE.out).trans ((heap_alloc_old _ _ (show g<WR.drew.heap.size from gz)).trans HX3.out.1);have c3:=(bA hr3).1.2.2.2.2.2;have f3:=(bA hr3).2.2.1 5)
     all_goals go_wp2_with fail
     all_goals go_ret
     all_goals (
      have WS:=WorkX.signals (z:=⟨x.name,i,e⟩) HX3.out (((AtB WR).drew).alloc (ArR _) (.cells #[.string (txt x.name),.int .i64 i,.int .i64 e] 58)) hgr rfl hown (by rcases hg' with h|h;exact .inl h;exact .inr (by rw[h];simp))
      obtain⟨e1,e2⟩:=Pl.w_sig HM.out (by unfold Pl.isG;exact decide_eq_true H9.out) NG.out (Pl.sigAt_none.1 (by rw[HSG.out];rfl)) HY.out HE.out HT.out
      exact⟨by rw[P.out];rfl,λ_=>WS.1.next (by unfold It.isNum;rw[H9.out];decide) e1 e2,HB3.out.trans WS.2⟩)
  have hcn:(tc != 0)=true:=by rw[AsV];exact hc
  have P:=hid (show Pl.sigErr M x=tc by rw[HSE.out,ArZ hc])
  have BF:=hid (HBG.out.trans (hacc.mono (Nat.le_of_lt g1)))
  clear hbl hacc hzz hcell hbel hR'
  go_wp2
  go_ret
  exact⟨by rw[P.out];rfl,(λh=>absurd (P.out.symm.trans h) hc),BF.out⟩
theorem xF {M:List It.Itm} {x:It.Itm} (hr:It.right x=true) (h:It.isNum x.k=true):Pl.lineErr M x=if bI M x.k then 3 else 0:=by
 unfold Pl.lineErr
 rw[hr,ArY (by simp),ArZ h];rfl
theorem lZ {M:List It.Itm} {x:It.Itm} (hr:It.right x=true) (h:Pl.isS x=true):Pl.lineErr M x=if x.name∈Pl.nmS M then 3 else if (Pl.secs M).length=24 then 9 else 0:=by
 unfold Pl.lineErr
 rw[hr,ArY (by simp),ArY (by rw[(Pl.sec_facts h).1];simp),ArZ h]
theorem uC {M:List It.Itm} {x:It.Itm} (hr:It.right x=true) (h:x.k=7):Pl.lineErr M x=Pl.joinErr M x:=by
 obtain⟨h1,h2,_⟩:=Pl.end_facts (x:=x) (.inl h)
 unfold Pl.lineErr
 rw[hr,ArY (by simp),ArY (by rw[h1];simp),ArY (by rw[h2];simp),ArZ h]
theorem uD {M:List It.Itm} {x:It.Itm} (hr:It.right x=true) (h:x.k=8):Pl.lineErr M x=Pl.tipErr M (Pl.ments M) x.e0:=by
 obtain⟨h1,h2,_⟩:=Pl.end_facts (x:=x) (.inr h)
 unfold Pl.lineErr
 rw[hr,ArY (by simp),ArY (by rw[h1];simp),ArY (by rw[h2];simp),ArY (by omega),ArZ h]
theorem xG {M:List It.Itm} {x:It.Itm} (hr:It.right x=true) (h:x.k=9):Pl.lineErr M x=Pl.sigErr M x:=by
 have hg:Pl.isG x=true:=by unfold Pl.isG;exact decide_eq_true h
 obtain⟨h1,h2,_⟩:=Pl.sig_facts hg
 unfold Pl.lineErr
 rw[hr,ArY (by simp),ArY (by rw[h1];simp),ArY (by rw[h2];simp),ArY (by omega),ArY (by omega)]
theorem AbE (g:Nat) (M:List It.Itm) (x:It.Itm) (w:World) (h:WorkAt 73 56 58 w g M) (hM:Pl.Ok M) (hr:It.right x=true) :
 Calls Tryz.prog 22 #[.pointer (some ⟨g,0,none⟩),lW x] w (dX 73 56 58 g M x (Pl.lineErr M x) w):=by
 have hg:=(ArL h.choose_spec.choose_spec.1).1
 have X0:=(AtB w).alloc (ArR _) (.cells (item7 x) 67)
 have XG:=hid ((Below.refl g w).alloc (Nat.le_of_lt hg) (.cells (item7 x) 67))
 have hW:WorkAt 73 56 58 (w.alloc (.cells (item7 x) 67)) g M:=WorkL.below h X0
 obtain⟨⟨k0,k1,k2,k3,k4,k5,k6⟩,-,g2⟩:=row7 (show (w.alloc (.cells (item7 x) 67)).heap[w.heap.size]?=some (.cells #[.int .i64 x.k,.string (txt x.name),.int .i64 x.n,.string (txt x.e0.n),.int .u8 x.e0.c.toNat,.string (txt x.e1.n),.int .u8 x.e1.c.toNat] 67 (0,0)) from AsW _ _)
 clear X0 h hg
 have hk:=Pl.right_kind hr
 have hk':x.k=5∨x.k=6∨x.k=7∨x.k=8∨x.k=9∨(1<=x.k/\x.k<=4):=by omega
 rcases hk' with h5|h6|h7|h8|h9|h14
 ·have C0:=iI g M x (w.alloc (.cells (item7 x) 67)) hW hM (by unfold Pl.isS It.isLen;exact decide_eq_true (by omega))
  rw[<-lZ (M:=M) hr (by unfold Pl.isS It.isLen;exact decide_eq_true (by omega))] at C0
  have C:=hid C0
  clear C0
  have HW:=hid hW
  have q5:(x.k == 5)=true:=by rw[beq_iff_eq];omega
  have q6:(x.k == 6)=false:=by rw[ArU];omega
  have q7:(x.k == 7)=false:=by rw[ArU];omega
  have q8:(x.k == 8)=false:=by rw[ArU];omega
  have q9:(x.k == 9)=false:=by rw[ArU];omega
  clear hW hM hr hk h5
  go_enter Tryz.func22,Tryz.ntmps22
  go_wp2_with fail
  refine C.out.mono ?_;rintro e w1 ⟨rfl,hw1,hb1⟩
  have HN:=hid hw1
  clear hw1
  go_wp2
  go_ret
  exact⟨rfl,HN.out,XG.out.trans hb1⟩
 ·have C0:=iI g M x (w.alloc (.cells (item7 x) 67)) hW hM (by unfold Pl.isS It.isLen;exact decide_eq_true (by omega))
  rw[<-lZ (M:=M) hr (by unfold Pl.isS It.isLen;exact decide_eq_true (by omega))] at C0
  have C:=hid C0
  clear C0
  have HW:=hid hW
  have q5:(x.k == 5)=false:=by rw[ArU];omega
  have q6:(x.k == 6)=true:=by rw[beq_iff_eq];omega
  have q7:(x.k == 7)=false:=by rw[ArU];omega
  have q8:(x.k == 8)=false:=by rw[ArU];omega
  have q9:(x.k == 9)=false:=by rw[ArU];omega
  clear hW hM hr hk h6
  go_enter Tryz.func22,Tryz.ntmps22
  go_wp2_with fail
  refine C.out.mono ?_;rintro e w1 ⟨rfl,hw1,hb1⟩
  have HN:=hid hw1
  clear hw1
  go_wp2
  go_ret
  exact⟨rfl,HN.out,XG.out.trans hb1⟩
 ·have C0:=AbD g M x (w.alloc (.cells (item7 x) 67)) hW hM hr h7
  rw[<-uC (M:=M) hr h7] at C0
  have C:=hid C0
  clear C0
  have HW:=hid hW
  have q5:(x.k == 5)=false:=by rw[ArU];omega
  have q6:(x.k == 6)=false:=by rw[ArU];omega
  have q7:(x.k == 7)=true:=by rw[beq_iff_eq];omega
  have q8:(x.k == 8)=false:=by rw[ArU];omega
  have q9:(x.k == 9)=false:=by rw[ArU];omega
  clear hW hM hr hk h7
  go_enter Tryz.func22,Tryz.ntmps22
  go_wp2_with fail
  refine C.out.mono ?_;rintro e w1 ⟨rfl,hw1,hb1⟩
  have HN:=hid hw1
  clear hw1
  go_wp2
  go_ret
  exact⟨rfl,HN.out,XG.out.trans hb1⟩
 ·have C0:=AbC g M x (w.alloc (.cells (item7 x) 67)) hW hM hr h8
  rw[<-uD (M:=M) hr h8] at C0
  have C:=hid C0
  clear C0
  have HW:=hid hW
  have q5:(x.k == 5)=false:=by rw[ArU];omega
  have q6:(x.k == 6)=false:=by rw[ArU];omega
  have q7:(x.k == 7)=false:=by rw[ArU];omega
  have q8:(x.k == 8)=true:=by rw[beq_iff_eq];omega
  have q9:(x.k == 9)=false:=by rw[ArU];omega
  clear hW hM hr hk h8
  go_enter Tryz.func22,Tryz.ntmps22
  go_wp2_with fail
  refine C.out.mono ?_;rintro e w1 ⟨rfl,hw1,hb1⟩
  have HN:=hid hw1
  clear hw1
  go_wp2
  go_ret
  exact⟨rfl,HN.out,XG.out.trans hb1⟩
 ·have C0:=uB g M x (w.alloc (.cells (item7 x) 67)) hW hM hr h9
  rw[<-xG (M:=M) hr h9] at C0
  have C:=hid C0
  clear C0
  have HW:=hid hW
  have q5:(x.k == 5)=false:=by rw[ArU];omega
  have q6:(x.k == 6)=false:=by rw[ArU];omega
  have q7:(x.k == 7)=false:=by rw[ArU];omega
  have q8:(x.k == 8)=false:=by rw[ArU];omega
  have q9:(x.k == 9)=true:=by rw[beq_iff_eq];omega
  clear hW hM hr hk h9
  go_enter Tryz.func22,Tryz.ntmps22
  go_wp2_with fail
  refine C.out.mono ?_;rintro e w1 ⟨rfl,hw1,hb1⟩
  have HN:=hid hw1
  clear hw1
  go_wp2
  go_ret
  exact⟨rfl,HN.out,XG.out.trans hb1⟩
 have C0:=uA g M x (w.alloc (.cells (item7 x) 67)) hW (by unfold It.isNum;exact decide_eq_true h14)
 rw[<-xF (M:=M) hr (by unfold It.isNum;exact decide_eq_true h14)] at C0
 have C:=hid C0
 clear C0
 have HW:=hid hW
 have q5:(x.k == 5)=false:=by rw[ArU];omega
 have q6:(x.k == 6)=false:=by rw[ArU];omega
 have q7:(x.k == 7)=false:=by rw[ArU];omega
 have q8:(x.k == 8)=false:=by rw[ArU];omega
 have q9:(x.k == 9)=false:=by rw[ArU];omega
 clear hW hM hr hk h14
 go_enter Tryz.func22,Tryz.ntmps22
 go_wp2_with fail
 refine C.out.mono ?_;rintro e w1 ⟨rfl,hw1,hb1⟩
 have HN:=hid hw1
 clear hw1
 go_wp2
 go_ret
 exact⟨rfl,HN.out,XG.out.trans hb1⟩
def LackGives (L:List It.Itm) (x:It.Itm) (w:World) (e:Ending) (w':World):Prop:=e=.returned (.int .i64 (Pl.lackErr L x))/\Below w.heap.size w w'
theorem LackGives.mk {L:List It.Itm} {x:It.Itm} {w w':World} {e:Ending} (n:Int) (h:Pl.lackErr L x=n) (he:e=.returned (.int .i64 n)) (hb:Below w.heap.size w w'):LackGives L x w e w':=⟨by rw[h];exact he,hb⟩
theorem oU {L:List It.Itm} {x:It.Itm} (h1:Pl.isS x=false) (h2:Pl.isG x=false):Pl.lackErr L x=0:=by
 unfold Pl.lackErr
 rw[ArY (by rw[h1];simp),ArY (by rw[h2];simp)]
theorem AgO {L:List It.Itm} {x:It.Itm} (hs:Pl.isS x=true) {e:Nat} (he:e<3) (h:((Pl.secG (Pl.gW L) x).get e).goes = -2):Pl.lackErr L x=7:=by
 have hen:e<Pl.nEnds (Pl.isPt x):=by
  by_cases hp:Pl.isPt x=true
  ·rw[hp];exact he
  have hp':Pl.isPt x=false:=by simpa using hp
  have:e=0∨e=1∨e=2:=by omega
  rcases this with rfl|rfl|rfl
  ·rw[hp'];decide
  ·rw[hp'];decide
  have:((Pl.secG (Pl.gW L) x).get 2)=Pl.stop:=by
   show (if Pl.isPt x then _ else Pl.stop)=Pl.stop
   rw[hp'];rfl
  rw[this] at h;cases h
 rw[Pl.get_secG _ hen] at h
 have hp:Pl.partner L (Pl.tip x e)=none:=by
  cases hpt:Pl.partner L (Pl.tip x e) with
  | none=>rfl
  | some v =>
    simp only[Pl.gW,Pl.enW,hpt] at h
    cases v with
    | none=>cases h
    | some u =>
      have:0<=Pl.pos (Pl.nmS L) u.n:=by unfold Pl.pos;omega
      simp only at h
      omega
 unfold Pl.lackErr
 rw[ArZ hs,ArZ]
 rw[List.any_eq_true]
 exact⟨e,List.mem_range.2 hen,by simpa using hp⟩
theorem AgP {L:List It.Itm} {x:It.Itm} (hs:Pl.isS x=true) (h:∀ e<3,((Pl.secG (Pl.gW L) x).get e).goes ≠ -2):Pl.lackErr L x=0:=by
 unfold Pl.lackErr
 rw[ArZ hs,ArY]
 intro hc
 obtain⟨e,he,hp⟩:=List.any_eq_true.1 hc
 have he':=List.mem_range.1 he
 have h3:e<3:=by unfold Pl.nEnds at he';split at he' <;> omega
 have:=h e h3
 rw[Pl.get_secG _ he'] at this
 have hp':Pl.partner L (Pl.tip x e)=none:=by simpa using hp
 exact this (by simp[Pl.gW,Pl.enW,hp'])
theorem AkO {L:List It.Itm} {x:It.Itm} (hg:Pl.isG x=true) {y:It.Itm} {e:Nat} (ht:x.e0=Pl.tip y e):Pl.lackErr L x=if (Pl.gW L (Pl.tip y e)).goes<0 then 8 else 0:=by
 unfold Pl.lackErr
 rw[ArY (by rw[(Pl.sig_facts hg).2.1];simp),ArZ hg,ht]
 cases hpt:Pl.partner L (Pl.tip y e) with
 | none=>simp[Pl.gW,Pl.enW,hpt]
 | some v =>
   cases v with
   | none=>simp[Pl.gW,Pl.enW,hpt]
   | some u =>
     have:0<=Pl.pos (Pl.nmS L) u.n:=by unfold Pl.pos;omega
     simp only[Pl.gW,Pl.enW,hpt,Option.getD_some,Option.isSome_some,if_true]
     rw[ArY (by omega)]
theorem xH (g:Nat) (L:List It.Itm) (x:It.Itm) (w:World) (h:WorkAt 73 56 58 w g L) (hL:Pl.Ok L) (hx:x∈L) :
 Calls Tryz.prog 23 #[.pointer (some ⟨g,0,none⟩),lW x] w (LackGives L x w):=by
 have hr:=hL.right x hx
 have hl:(Pl.wS L).length<=1000000:=by rw[Pl.wS_len];have:=hL.few;omega
 obtain⟨vS,vG,hX⟩:∃ vS vG,WorkX 73 56 58 w g L vS vG (Pl.wS L) (Pl.wG L):=h
 have hg:=(ArL hX.1).1
 obtain⟨-,A,cp,rfl,-,hR⟩:=Lies.Row.of_own hX.2.1
 have X0:=hid ((AtB w).alloc (ArR _) (.cells (item7 x) 67))
 obtain⟨⟨k0,k1,k2,k3,k4,k5,k6⟩,-,g2⟩:=row7 (show (w.alloc (.cells (item7 x) 67)).heap[w.heap.size]?=some (.cells #[.int .i64 x.k,.string (txt x.name),.int .i64 x.n,.string (txt x.e0.n),.int .u8 x.e0.c.toNat,.string (txt x.e1.n),.int .u8 x.e1.c.toNat] 67 (0,0)) from AsW _ _)
 have hX0:=hX.below X0.out
 obtain⟨⟨-,-,-,-,s4,-⟩,-,-,g1⟩:=bA hX0.1
 have hk:=Pl.right_kind hr
 have hk':(1<=x.k/\x.k<=4)∨(x.k=5∨x.k=6)∨(x.k=7∨x.k=8)∨x.k=9:=by omega
 rcases hk' with h14|h56|h78|h9
 ·have hN:Pl.isS x=false/\Pl.isG x=false:=⟨(Pl.num_facts (by unfold It.isNum;exact decide_eq_true h14)).1,(Pl.num_facts (by unfold It.isNum;exact decide_eq_true h14)).2.1⟩
  have P:=hid (oU (L:=L) hN.1 hN.2)
  have q5:(x.k == 5)=false:=by rw[ArU];omega
  have q6:(x.k == 6)=false:=by rw[ArU];omega
  have q9:(x.k == 9)=false:=by rw[ArU];omega
  clear h14 hk hN hX hX0 hR hL hr hl
  go_enter Tryz.func23,Tryz.ntmps23
  go_wp2
  go_ret
  exact LackGives.mk _ P.out rfl X0.out
 ·have hs : Pl.isS x=true:=by unfold Pl.isS It.isLen;exact decide_eq_true (by omega)
  have hm:x∈Pl.secs L:=Pl.mem_secs.2 ⟨hx,hs⟩
  obtain⟨i,hi,hf⟩:∃ i,(Pl.secs L)[i]?=some x/\Pl.find (Pl.wS L) x.name=(i:Nat):=by
   rcases Pl.find_wS (M:=L) x.name with ⟨hn,_⟩|⟨i,y,hf,hy,hn⟩
   ·exact absurd (Pl.mem_nmS.2 ⟨x,hm,rfl⟩) hn
   have:=Pl.uniq hL.names (ArX hy) hm hn
   subst this
   exact⟨i,hy,hf⟩
  have hin:=(ArM (Pl.wS_of hi)).1
  obtain⟨gb,cap,hvs⟩:=hX0.slice (by omega)
  obtain⟨rfl,rfl⟩:A=some ⟨gb,0,none⟩/\cp=cap:=by cases hvs;exact⟨rfl,rfl⟩
  have gb1:=(hX0.2.1.lt gb rfl).2
  have on:=Lies.own_on hX0.2.1 (Pl.wS_of hi)
  have LO:=hid (λe=>@AgO L x hs e)
  have LS:=hid (AgP (L:=L) (x:=x) hs)
  have FN:=hid (λW (h:Below (w.alloc (.cells (item7 x) 67)).heap.size (w.alloc (.cells (item7 x) 67)) W)=>iY (some ⟨gb,0,none⟩) cp (Pl.wS L) x.name W ((hR.below rfl X0.out).below rfl h) hl)
  rw[hf] at FN
  generalize Pl.secG (Pl.gW L) x=S0 at on LO LS
  obtain⟨o0,o1,o2,o3,o4,o5,o6,o7,o8,o9,o10,o11⟩:=bE on
  rw[show i*aQ.m=i*12 from rfl] at o0 o1 o2 o3 o4 o5 o6 o7 o8 o9 o10 o11
  have KS:=hid (λw' (hb:Below (w.alloc (.cells (item7 x) 67)).heap.size (w.alloc (.cells (item7 x) 67)) w')=>show w'.cell? ⟨g,4,none⟩=some (.slice (some ⟨gb,0,none⟩) (Pl.wS L).length cp)/\w'.cell? ⟨w.heap.size,1,none⟩=some (.string (txt x.name))/\w'.cell? ⟨gb,i*12,none⟩=some (.string (txt S0.name))/\w'.cell? ⟨gb,i*12+1,none⟩=some (.bool S0.pt)/\w'.cell? ⟨gb,i*12+2,none⟩=some (.int .i64 S0.len)/\w'.cell? ⟨gb,i*12+3,none⟩=some (.int .i64 S0.e0.goes)/\w'.cell? ⟨gb,i*12+4,none⟩=some (.int .i64 S0.e0.at_)/\w'.cell? ⟨gb,i*12+5,none⟩=some (.int .i64 S0.e0.sig)/\w'.cell? ⟨gb,i*12+6,none⟩=some (.int .i64 S0.e1.goes)/\w'.cell? ⟨gb,i*12+7,none⟩=some (.int .i64 S0.e1.at_)/\w'.cell? ⟨gb,i*12+8,none⟩=some (.int .i64 S0.e1.sig)/\w'.cell? ⟨gb,i*12+9,none⟩=some (.int .i64 S0.e2.goes)/\w'.cell? ⟨gb,i*12+10,none⟩=some (.int .i64 S0.e2.at_)/\w'.cell? ⟨gb,i*12+11,none⟩=some (.int .i64 S0.e2.sig) from
   have k:=λo=>hb.cell (p:=⟨gb,o,none⟩) gb1
   ⟨(hb.cell (p:=⟨g,4,none⟩) g1).trans s4,(hb.cell (p:=⟨w.heap.size,1,none⟩) g2).trans k1,(k _).trans o0,(k _).trans o1,(k _).trans o2,(k _).trans o3,(k _).trans o4,(k _).trans o5,(k _).trans o6,(k _).trans o7,(k _).trans o8,(k _).trans o9,(k _).trans o10,(k _).trans o11⟩)
  have W0:=hid (Below.refl (w.alloc (.cells (item7 x) 67)).heap.size (w.alloc (.cells (item7 x) 67)))
  have q56:(x.k == 5)=true∨((x.k == 5)=false/\(x.k == 6)=true):=by
   rcases h56 with h|h
   ·exact .inl (by rw[beq_iff_eq];exact h)
   exact .inr ⟨by rw[ArU];omega,by rw[beq_iff_eq];exact h⟩
  clear hvs on hf hi hm hs hX hX0 hR hL hr hl hk h56 hx
  rcases q56 with q5|⟨q5,q6⟩
  all_goals
   go_enter Tryz.func23,Tryz.ntmps23
   go_wp2_with fail
   go_region_held3 (λw'=>w'.cell? ⟨g,4,none⟩=some (.slice (some ⟨gb,0,none⟩) (Pl.wS L).length cp)/\w'.cell? ⟨w.heap.size,1,none⟩=some (.string (txt x.name))/\w'.cell? ⟨gb,i*12,none⟩=some (.string (txt S0.name))/\w'.cell? ⟨gb,i*12+1,none⟩=some (.bool S0.pt)/\w'.cell? ⟨gb,i*12+2,none⟩=some (.int .i64 S0.len)/\w'.cell? ⟨gb,i*12+3,none⟩=some (.int .i64 S0.e0.goes)/\w'.cell? ⟨gb,i*12+4,none⟩=some (.int .i64 S0.e0.at_)/\w'.cell? ⟨gb,i*12+5,none⟩=some (.int .i64 S0.e0.sig)/\w'.cell? ⟨gb,i*12+6,none⟩=some (.int .i64 S0.e1.goes)/\w'.cell? ⟨gb,i*12+7,none⟩=some (.int .i64 S0.e1.at_)/\w'.cell? ⟨gb,i*12+8,none⟩=some (.int .i64 S0.e1.sig)/\w'.cell? ⟨gb,i*12+9,none⟩=some (.int .i64 S0.e2.goes)/\w'.cell? ⟨gb,i*12+10,none⟩=some (.int .i64 S0.e2.at_)/\w'.cell? ⟨gb,i*12+11,none⟩=some (.int .i64 S0.e2.sig))
    (first|exact KS.out _ W0.out.drew|exact KS.out _ (W0.out.alloc (ArR _) _).drew|(refine KS.out _ ?_;(repeat (first|(with_reducible refine Below.setCell ?_ (ArR _) _)|(with_reducible refine Below.drew ?_)));exact W0.out.alloc (ArR _) _))
    (first
     | (go_at_call 55;(with_reducible refine(FN.out _ W0.out.drew).mono ?_);rintro e w' ⟨rfl,rfl⟩)
     | (go_at_call 55;(with_reducible refine(FN.out _ (W0.out.alloc (ArR _) _).drew).mono ?_);rintro e w' ⟨rfl,rfl⟩))
   all_goals
    have RW:(((w.alloc (.cells (item7 x) 67)).alloc (.cells (aI S0).toArray 56)).drew).heap[w.heap.size+1]?=some (.cells (aI S0).toArray 56 (0,0)):=by
     have:(((w.alloc (.cells (item7 x) 67)).alloc (.cells (aI S0).toArray 56)).drew).heap[(w.alloc (.cells (item7 x) 67)).heap.size]?=some (.cells (aI S0).toArray 56 (0,0)):=AsW (w.alloc (.cells (item7 x) 67)) (.cells (aI S0).toArray 56)
     rwa [show (w.alloc (.cells (item7 x) 67)).heap.size=w.heap.size+1 by simp] at this
    have BW:=(X0.out.alloc (by simp) (.cells (aI S0).toArray 56)).drew
    change Exit.then _ _ _ _ (((w.alloc (.cells (item7 x) 67)).alloc (.cells (aI S0).toArray 56)).drew)
    generalize ((w.alloc (.cells (item7 x) 67)).alloc (.cells (aI S0).toArray 56)).drew=WR at RW BW ⊢
    have on1:aQ.On WR (w.heap.size+1) 0 S0:=λj v hv=>by
     have hv':(aI S0)[j]?=some v:=hv
     rw[Nat.zero_add,(row12 RW).1 j]
     simpa using hv'
    have HO:=hid (λe he=>xD (e:=e) on1 he)
    have HBW:=hid BW
    clear RW BW on1 o0 o1 o2 o3 o4 o5 o6 o7 o8 o9 o10 o11 k0 k1 k2 k3 k4 k5 k6 s4
    go_wp2_with fail
    go_loop [6] (λv=>∃ k:Nat,k<=3/\v=.int .i64 k/\∀ j<k,(S0.get j).goes ≠ -2) (λv=>3-(intOf v).toNat)
    case atStart=>exact⟨0,AsD _,rfl,λj hj=>absurd hj (by omega)⟩
    case round =>
     obtain⟨k,hk,rfl,h0⟩:=hrel
     have H0:=hid h0
     clear h0
     by_cases hlt:k<3
     ·have t0:=HO.out k hlt
      rw[Nat.zero_add] at t0
      have d1:decide ((k:Int)<3)=true:=aC (by omega)
      by_cases ho:(S0.get k).goes = -2
      ·have P:=hid (LO.out k hlt ho)
       have q:((S0.get k).goes == -2)=true:=by rw[beq_iff_eq];exact ho
       clear ho
       go_wp2
       go_ret
       exact LackGives.mk _ P.out rfl HBW.out
      have q:((S0.get k).goes == -2)=false:=by rw[ArU];exact ho
      have NX:=hid (show ∀ j<k+1,(S0.get j).goes ≠ -2 from λj hj=>by
       rcases Nat.lt_or_ge j k with h|h
       ·exact H0.out j h
       obtain rfl:j=k:=by omega
       exact ho)
      clear ho
      go_wp2_with fail
      go_round
      case rel=>exact⟨k+1,by omega,by go_num,NX.out⟩
      case measure=>simp[intOf];omega
     have P:=hid (LS.out λe he=>H0.out e (by omega))
     have d1:decide ((k:Int)<3)=false:=aB (by omega)
     go_wp2
     go_ret
     exact LackGives.mk _ P.out rfl HBW.out
 ·have hN:Pl.isS x=false/\Pl.isG x=false:=⟨(Pl.end_facts h78).2.1,(Pl.end_facts h78).2.2⟩
  have P:=hid (oU (L:=L) hN.1 hN.2)
  have q5:(x.k == 5)=false:=by rw[ArU];omega
  have q6:(x.k == 6)=false:=by rw[ArU];omega
  have q9:(x.k == 9)=false:=by rw[ArU];omega
  clear h78 hk hN hX hX0 hR hL hr hl
  go_enter Tryz.func23,Tryz.ntmps23
  go_wp2
  go_ret
  exact LackGives.mk _ P.out rfl X0.out
 have hG:Pl.isG x=true:=by unfold Pl.isG;exact decide_eq_true h9
 obtain⟨y0,hy0,f0,hf0,ht0⟩:=Pl.told_all hL hx (t:=x.e0) (by unfold Pl.tips;rw[ArY (by omega),ArY (by omega),ArZ h9];simp)
 have hz:Pl.tipErr L [] x.e0=0:=Pl.tipErr_zero.2 ⟨by rw[ht0];exact Pl.mem_nmS.2 ⟨y0,hy0,rfl⟩,by rw[ht0,Pl.tip_at hL hy0 hf0];rfl,by simp⟩
 obtain⟨hE1,hE2⟩:=xE hL x.e0
 obtain⟨i,e,y,hend,hy,he,ht⟩:=hE2 (hE1.trans hz)
 have he3:e<3:=by unfold Pl.nEnds at he;split at he <;> omega
 have hin:=(ArM (Pl.wS_of hy)).1
 obtain⟨gb,cap,hvs⟩:=hX0.slice (by omega)
 obtain⟨rfl,rfl⟩:A=some ⟨gb,0,none⟩/\cp=cap:=by cases hvs;exact⟨rfl,rfl⟩
 have EN:=hid (λW (h:Below (w.alloc (.cells (item7 x) 67)).heap.size (w.alloc (.cells (item7 x) 67)) W)=>Made.of h (lC (some ⟨gb,0,none⟩) cp (Pl.wS L) x.e0 W ((hR.below rfl X0.out).below rfl h) hl (fB (Pl.right_sig hr h9).2.2)))
 rw[hend] at EN
 have W0:=hid (Below.refl (w.alloc (.cells (item7 x) 67)).heap.size (w.alloc (.cells (item7 x) 67)))
 have LG:=hid (AkO (L:=L) hG ht)
 have HX:=hid hX0
 have HY:=hid hy
 have HE:=hid he
 have q5:(x.k == 5)=false:=by rw[ArU];omega
 have q6:(x.k == 6)=false:=by rw[ArU];omega
 have q9:(x.k == 9)=true:=by rw[beq_iff_eq];omega
 clear hvs hy he ht hend hE1 hE2 hz ht0 hf0 hy0 hG hX hX0 hR hL hr hl hk hx h9
 go_enter Tryz.func23,Tryz.ntmps23
 go_wp2_with fail
 go_region_held3 (λw'=>w'.cell? ⟨g,4,none⟩=some (.slice (some ⟨gb,0,none⟩) (Pl.wS L).length cp)/\w'.cell? ⟨w.heap.size,3,none⟩=some (.string (txt x.e0.n))/\w'.cell? ⟨w.heap.size,4,none⟩=some (.int .u8 x.e0.c.toNat))
  (first|exact⟨s4,k3,k4⟩|exact⟨(hcell _ _ g1).trans s4,(hcell _ _ g2).trans k3,(hcell _ _ g2).trans k4⟩)
  (first
   | (go_at_call 56;(with_reducible refine(EN.out _ W0.out.drew).mono ?_);rintro e' w' ⟨rfl,hbl,hacc,hzz⟩;have hcell:=(bcell hbl).1))
 have hX1:=HX.out.below hacc
 obtain⟨S4,T0,-,-,-,G1,GB1,-,-⟩:=hX1.reads (Pl.wS_of HY.out) he3
 rw[Pl.get_secG _ HE.out] at T0
 have BF:=hid (X0.out.trans (hacc.mono (Nat.le_of_lt g2)))
 clear hX1 hacc hbl hzz hcell s4 k0 k1 k2 k3 k4 k5 k6
 by_cases hneg:(Pl.gW L (Pl.tip y e)).goes<0
 ·have d:decide ((Pl.gW L (Pl.tip y e)).goes<0)=true:=aC hneg
  have P:=hid (LG.out.trans (ArZ hneg))
  clear hneg
  go_wp2
  go_ret
  exact LackGives.mk _ P.out rfl BF.out
 have d:decide ((Pl.gW L (Pl.tip y e)).goes<0)=false:=aB hneg
 have P:=hid (LG.out.trans (ArY hneg))
 clear hneg
 go_wp2
 go_ret
 exact LackGives.mk _ P.out rfl BF.out
def bZ (M:List It.Itm) (vS vG:Value):Array Value :=
 #[.bool false,.bool (bI M 1),.bool (bI M 2),.bool (bI M 3),.bool (bI M 4),.int .i64 0,.int .i64 (Pl.num M 1),.int .i64 (Pl.num M 2),.int .i64 (Pl.num M 3),.int .i64 (Pl.num M 4),vS,vG]
def DrX (tD tS tG:TypeId) (w:World) (g:Nat) (M:List It.Itm) (vS vG:Value) (LS:List Pl.Sec) (LG:List Pl.Sig):Prop :=
 w.heap[g]?=some (.cells (bZ M vS vG) tD (0,0))/\w.ownsRow (g+1) tS aQ.m vS LS.length (aQ.all LS)/\w.ownsRow (g+1) tG bD.m vG LG.length (bD.all LG)/\∀ k,vS.ownBlock=some k->vG.ownBlock≠some k
def DrAt (tD tS tG:TypeId) (w:World) (g:Nat) (M:List It.Itm):Prop:=∃ vS vG,DrX tD tS tG w g M vS vG (Pl.dS M) (Pl.wG M)
theorem DrX.below {tD tS tG:TypeId} {w w':World} {g:Nat} {M:List It.Itm} {vS vG:Value} {LS:List Pl.Sec} {LG:List Pl.Sig} (h:DrX tD tS tG w g M vS vG LS LG) (hb:Below w.heap.size w w'):DrX tD tS tG w' g M vS vG LS LG:=by
 obtain⟨h1,h2,h3,h4⟩:=h
 exact⟨(hb.block _ (ArL h1).1).trans h1,aA h2 hb,aA h3 hb,h4⟩
theorem DrAt.below {tD tS tG:TypeId} {w w':World} {g:Nat} {M:List It.Itm} (h:DrAt tD tS tG w g M) (hb:Below w.heap.size w w'):DrAt tD tS tG w' g M:=by
 obtain⟨vS,vG,h⟩:=h
 exact⟨vS,vG,h.below hb⟩
theorem DrX.drew {tD tS tG:TypeId} {w:World} {g:Nat} {M:List It.Itm} {vS vG:Value} {LS:List Pl.Sec} {LG:List Pl.Sig} (h:DrX tD tS tG w g M vS vG LS LG):DrX tD tS tG w.drew g M vS vG LS LG :=
 ⟨h.1,h.2.1.drew,h.2.2.1.drew,h.2.2.2⟩
theorem rJ {w:World} {g:Nat} {t:TypeId} {M:List It.Itm} {vS vG:Value} (h:w.heap[g]?=some (.cells (bZ M vS vG) t (0,0))) :
 (w.cell? ⟨g,1,none⟩=some (.bool (bI M 1))/\w.cell? ⟨g,2,none⟩=some (.bool (bI M 2))/\w.cell? ⟨g,3,none⟩=some (.bool (bI M 3))/\w.cell? ⟨g,4,none⟩=some (.bool (bI M 4))) /\
 (w.cell? ⟨g,6,none⟩=some (.int .i64 (Pl.num M 1))/\w.cell? ⟨g,7,none⟩=some (.int .i64 (Pl.num M 2))/\w.cell? ⟨g,8,none⟩=some (.int .i64 (Pl.num M 3))/\w.cell? ⟨g,9,none⟩=some (.int .i64 (Pl.num M 4))) /\
 (w.cell? ⟨g,10,none⟩=some vS/\w.cell? ⟨g,11,none⟩=some vG)/\(∀ j,w.frozen? ⟨g,j,none⟩=false)/\g<w.heap.size :=
 ⟨⟨AsY w g 1 _ t _ h,AsY w g 2 _ t _ h,AsY w g 3 _ t _ h,AsY w g 4 _ t _ h⟩,
   ⟨AsY w g 6 _ t _ h,AsY w g 7 _ t _ h,AsY w g 8 _ t _ h,AsY w g 9 _ t _ h⟩,
   ⟨AsY w g 10 _ t _ h,AsY w g 11 _ t _ h⟩,λj=>AsZ w g j _ t h,(ArL h).1⟩
theorem DrX.store {tD tS tG:TypeId} {w:World} {g gb n cap:Nat} {M:List It.Itm} {vG:Value} {LS:List Pl.Sec} {LG:List Pl.Sig} (h:DrX tD tS tG w g M (.slice (some ⟨gb,0,none⟩) n cap) vG LS LG) {i j:Nat} {s:Pl.Sec} (hs:LS[i]?=some s) (hj:j<12) (F:Pl.Sec->Pl.Sec) (u:Value) (hu:(aI s).set j u=aI (F s)) :
 DrX tD tS tG (w.setCell ⟨gb,i*12+j,none⟩ u) g M (.slice (some ⟨gb,0,none⟩) n cap) vG (LS.modify i F) LG:=by
 obtain⟨h1,h2,h3,h4⟩:=h
 have hn:n=LS.length:=by
  rcases h2.2 with ⟨h,_⟩|⟨g',cap',cur,h,_⟩
  ·cases h
  cases h;rfl
 subst hn
 have hgb:=h2.lt gb rfl
 have hne:gb≠g:=by omega
 refine⟨?_,?_,?_,h4⟩
 ·rw[AsX _ ⟨gb,i*12+j,none⟩ g u (by simpa using λe=>hne e.symm)];exact h1
 ·have:=(h2.stored (i*12+j) u).1
  rw[oQ LS i j F s hs hj u hu] at this
  rw[List.length_modify]
  exact this
 refine aL h3 λb hb=>AsX _ ⟨gb,i*12+j,none⟩ b u ?_
 have:=h4 gb rfl
 simpa using λe=>this (by rw[hb,e])
theorem DrX.slice {tD tS tG:TypeId} {w:World} {g:Nat} {M:List It.Itm} {vS vG:Value} {LS:List Pl.Sec} {LG:List Pl.Sig} (h:DrX tD tS tG w g M vS vG LS LG) (hn:0<LS.length):∃ gb cap,vS=.slice (some ⟨gb,0,none⟩) LS.length cap:=by
 obtain⟨gb,cap,e,_⟩:=h.2.1.form hn
 exact⟨gb,cap,e⟩
theorem DrX.reads {tD tS tG:TypeId} {w:World} {g gb n cap:Nat} {M:List It.Itm} {vG:Value} {LS:List Pl.Sec} {LG:List Pl.Sig} (h:DrX tD tS tG w g M (.slice (some ⟨gb,0,none⟩) n cap) vG LS LG) {i e:Nat} {s:Pl.Sec} (hs:LS[i]?=some s) (he:e<3) :
 w.cell? ⟨g,10,none⟩=some (.slice (some ⟨gb,0,none⟩) n cap)/\w.cell? ⟨gb,i*12+3+e*3,none⟩=some (.int .i64 (s.get e).goes)/\w.cell? ⟨gb,i*12+3+e*3+1,none⟩=some (.int .i64 (s.get e).at_)/\w.cell? ⟨gb,i*12+3+e*3+2,none⟩=some (.int .i64 (s.get e).sig) /\
  (∀ o,w.frozen? ⟨gb,o,none⟩=false)/\g<w.heap.size/\gb<w.heap.size/\g<gb/\n=LS.length/\i<n:=by
 obtain⟨h1,h2,h3,h4⟩:=h
 have hn:n=LS.length:=by
  rcases h2.2 with ⟨h,_⟩|⟨g',cap',cur,h,_⟩
  ·cases h
  cases h;rfl
 subst hn
 have on:=Lies.own_on h2 hs
 have hgb:=h2.lt gb rfl
 exact⟨(rJ h1).2.2.1.1,xD on he,AoY on he,AaV on he,λo=>h2.frozenAt o,(rJ h1).2.2.2.2,hgb.2,by omega,rfl,(ArM hs).1⟩
theorem AbF {M:List It.Itm} {x:It.Itm} (h:It.isNum x.k=false) (vS vG:Value):bZ (M++[x]) vS vG=bZ M vS vG:=by
 have hk:∀ k:Int,1<=k->k<=4->x.k≠k:=λk h1 h2 e=>by
  unfold It.isNum at h
  exact absurd (show 1<=x.k/\x.k<=4 by omega) (of_decide_eq_false h)
 have n1:=hk 1 (by decide) (by decide)
 have n2:=hk 2 (by decide) (by decide)
 have n3:=hk 3 (by decide) (by decide)
 have n4:=hk 4 (by decide) (by decide)
 simp[bZ,dA,Pl.num_other n1,Pl.num_other n2,Pl.num_other n3,Pl.num_other n4,n1,n2,n3,n4]
section
variable {α : Type} (E : Lies α)
theorem Lies.made (z:α) (zs:Array Value) (hz:zs=(E.enc z).toArray) (n:Nat):madeCells zs (n*E.m)=(E.all (List.replicate n z)).toArray:=by
 apply Array.toList_inj.1
 apply List.ext_getElem?
 intro i
 have hs:zs.size=E.m:=by rw[hz];simp[E.len]
 by_cases hi:i<n*E.m
 ·have hp:=E.pos
  have hk:i / E.m<n:=(Nat.div_lt_iff_lt_mul hp).2 hi
  have e:=E.all_at (List.replicate n z) (i / E.m) (i % E.m) z (by simp[hk]) (Nat.mod_lt _ hp)
  have hj:i / E.m*E.m+i % E.m=i:=by rw[Nat.mul_comm];exact Nat.div_add_mod i E.m
  rw[hj] at e
  rw[e]
  have hm:i % E.m<zs.size:=by rw[hs];exact Nat.mod_lt _ hp
  unfold madeCells
  rw[hs]
  subst hz
  simp only[Array.toList_map,Array.toList_range,List.getElem?_map]
  rw[ArN (by simpa using hi)]
  simp only[List.getElem_range,Option.map_some]
  have hm':i % E.m<(E.enc z).length:=by rw[E.len];exact Nat.mod_lt _ hp
  rw[ArN hm']
  simp[hm']
 rw[List.getElem?_eq_none (by simp[size_madeCells];omega),List.getElem?_eq_none (by simp[E.all_len];omega)]
variable {P : Program}
theorem cK (y:α) (t e:TypeId) (z:Value) (bytes:Nat) (ht:P.underlying t=some (.slice e)) (hinfo:(P.info? e).map (λi=>(i.zero,i.size,i.bytes))=some (some z,E.m,bytes)) (hz1:z.cells=(E.enc y).toArray)
 (kl kc:IntKind) (n:Nat) (hbytes:bytes*n<=281474976710656) (h63:n<=9223372036854775807) (w:World) :
 (Instr.makeSlice t (.int kl (n:Int)) (.int kc (n:Int))).run P w=.ok (.slice (some ⟨w.heap.size,0,none⟩) n n) (w.alloc (.cells (E.all (List.replicate n y)).toArray e)):=by
 obtain⟨i,hi,hzz⟩:=Option.map_eq_some_iff.1 hinfo
 simp only[Prod.mk.injEq] at hzz
 obtain⟨hz,hs,hb⟩:=hzz
 have hb':(i.bytes:Int)*(n:Int)<=281474976710656:=by
  have h:((i.bytes*n:Nat):Int)<=281474976710656:=by rw[hb];omega
  rwa [Int.natCast_mul] at h
 have hr:=run_make (P:=P) w t e i z ht hi hz kl kc n n (by omega) (Int.le_refl _) hb' (by omega)
 simp only[AsP,hs] at hr
 rw[E.made y _ hz1] at hr
 exact hr
theorem Lies.all_split (X:List α) (k:Nat) (y:α) (hk:k<X.length):(E.all X).take (k*E.m)++E.enc y++(E.all X).drop (k*E.m+E.m)=E.all (X.set k y):=by
 have h1:X=X.take k++X[k] :: X.drop (k+1):=by simp
 have e1:E.all X=E.all (X.take k)++(E.enc X[k]++E.all (X.drop (k+1))):=by rw[<-E.all_cons,<-E.all_append,<-h1]
 have l1:(E.all (X.take k)).length=k*E.m:=by rw[E.all_len,AsU,Nat.min_eq_left (by omega)]
 have e2:X.set k y=X.take k++y :: X.drop (k+1):=by rw[List.set_eq_take_append_cons_drop,ArZ hk]
 rw[e2,E.all_append,E.all_cons,e1,List.take_append_of_le_length (by omega),AsT (by omega),List.append_assoc]
 congr 2
 rw[<-l1,List.drop_append,List.drop_of_length_le (by omega)]
 rw[show (E.all (X.take k)).length+E.m-(E.all (X.take k)).length=(E.enc X[k]).length by rw[E.len];omega,List.nil_append]
 exact List.drop_left
end
def cH (w:World) (g o:Nat):List Value->World
 | []=>w
 | v :: vs=>cH (w.setCell ⟨g,o,none⟩ v) g (o+1) vs
theorem eI (g b:Nat) (h:b≠g):∀ (vs:List Value) (o:Nat) (w:World),(cH w g o vs).heap[b]?=w.heap[b]?
 | [],_,_=>rfl
 | v :: vs,o,w=>by rw[cH,eI g b h vs,AsX _ _ _ _ (by simpa using h)]
theorem eJ {B g:Nat} (hB:B<=g) {w0:World}:∀ (vs:List Value) (o:Nat) (w:World),Below B w0 w->Below B w0 (cH w g o vs)
 | [],_,_,h=>h
 | v :: vs,o,_,h=>eJ hB vs (o+1) _ (h.setCell (p:=⟨g,o,none⟩) hB v)
theorem jV (g:Nat) (ty:TypeId):∀ (vs:List Value) (o:Nat) (cur:List Value) (w:World),w.heap[g]?=some (.cells cur.toArray ty (0,0))->o+vs.length<=cur.length ->
 (cH w g o vs).heap[g]?=some (.cells (cur.take o++vs++cur.drop (o+vs.length)).toArray ty (0,0))
 | [],o,cur,w,h,_=>by simpa [cH] using h
 | v :: vs,o,cur,w,h,hl=>by
   have hl':o+(vs.length+1)<=cur.length:=by simpa using hl
   have h1:(w.setCell ⟨g,o,none⟩ v).heap[g]?=some (.cells (cur.set o v).toArray ty (0,0)):=by
    rw[AtA _ _ _ _ _ _ h];simp
   rw[cH,jV g ty vs (o+1) (cur.set o v) _ h1 (by rw[List.length_set];omega)]
   congr 3
   have e1:(cur.set o v).take (o+1)=cur.take o++[v]:=by
    rw[AsK (by rw[List.length_set];omega),List.getElem_set_self,List.take_set_of_le (ArR o)]
   have e2:(cur.set o v).drop (o+1+vs.length)=cur.drop (o+(v :: vs).length):=by
    rw[List.drop_set_of_lt (by omega),AsJ];congr 1;omega
   rw[e1,e2];simp
theorem iJ {α:Type} (E:Lies α) {w:World} {g:Nat} {ty:TypeId} {X:List α} (h:w.heap[g]?=some (.cells (E.all X).toArray ty (0,0))) {k:Nat} (hk:k<X.length) (y:α) :
 (cH w g (k*E.m) (E.enc y)).heap[g]?=some (.cells (E.all (X.set k y)).toArray ty (0,0)):=by
 have hle:k*E.m+E.m<=X.length*E.m:=by
  have:=Nat.mul_le_mul_right E.m (show k+1<=X.length by omega)
  rwa [Nat.succ_mul] at this
 rw[jV g ty _ _ _ _ h (by rw[E.len,E.all_len];exact hle),E.len,E.all_split X k y hk]
theorem AbG {α:Type} {E:Lies α} {w:World} {g:Nat} {X:List α} {ty:TypeId} (h:w.heap[g]?=some (.cells (E.all X).toArray ty (0,0))) {k:Nat} {y:α} (hk:X[k]?=some y):E.On w g (k*E.m) y:=λj v hj=>by
 have hjl:j<E.m:=by
  have:=(ArM hj).1
  rwa [E.len] at this
 rw[AsY w g _ _ ty _ h,List.getElem?_toArray,E.all_at X k j y hk hjl];exact hj
theorem jW {α:Type} {E:Lies α} {w:World} {g:Nat} {X:List α} {ty:TypeId} (h:w.heap[g]?=some (.cells (E.all X).toArray ty (0,0))):E.Row w (some ⟨g,0,none⟩) X :=
 .inr ⟨g,0,rfl,(ArL h).1,λk y hk=>by rw[Nat.zero_add];exact AbG h hk⟩
open Go.RowKit
theorem oV {w:World} {g:Nat} {t:Pl.Sec} {ty:TypeId} (h:w.heap[g]?=some (.cells (aI t).toArray ty (0,0))):aQ.On w g 0 t:=λj v hj=>by
 rw[Nat.zero_add,AsY w g j _ ty _ h,List.getElem?_toArray];exact hj
theorem nK {w:World} {g j:Nat} {t u:Pl.Sec} {ty:TypeId} {v:Value} (h:w.heap[g]?=some (.cells (aI t).toArray ty (0,0))) (hu:(aI t).set j v=aI u):(w.setCell ⟨g,j,none⟩ v).heap[g]?=some (.cells (aI u).toArray ty (0,0)):=by
 rw[AtA _ _ _ _ _ _ h,<-hu]
 simp
def SpotGives (L:List Pl.Sec) (t:It.Tp) (w:World) (e:Ending) (w':World):Prop:=e=.returned (.tuple #[.agg #[.int .i64 (iF L t).1,.int .i64 (iF L t).2.1],.int .i64 (iF L t).2.2])/\Below w.heap.size w w'
theorem SpotGives.mk {L:List Pl.Sec} {t:It.Tp} {w w':World} {e:Ending} (a b c:Int) (h:iF L t=(a,b,c)) (he:e=.returned (.tuple #[.agg #[.int .i64 a,.int .i64 b],.int .i64 c])) (hb:Below w.heap.size w w'):SpotGives L t w e w':=by
 refine⟨?_,hb⟩
 rw[h];exact he
def UnusedGives (L:List Pl.Sec) (t:It.Tp) (w:World) (x:Ending) (w':World):Prop:=∃ a b c,x=.returned (.tuple #[.agg #[.int .i64 a,.int .i64 b],.int .i64 c])/\FreeIs L t (a,b,c)/\Below w.heap.size w w'
theorem UnusedGives.mk {L:List Pl.Sec} {t:It.Tp} {w w':World} {x:Ending} (a b c:Int) (h:FreeIs L t (a,b,c)) (he:x=.returned (.tuple #[.agg #[.int .i64 a,.int .i64 b],.int .i64 c])) (hb:Below w.heap.size w w'):UnusedGives L t w x w':=⟨a,b,c,he,h,hb⟩
theorem bO (w:World) (a b:Obj):((w.alloc a).alloc b).heap[w.heap.size]?=some a/\((w.alloc a).alloc b).heap[w.heap.size+1]?=some b/\Below w.heap.size w ((w.alloc a).alloc b)/\((w.alloc a).alloc b).heap.size=w.heap.size+2:=by
 have s1:(w.alloc a).heap.size=w.heap.size+1:=by simp
 refine⟨?_,?_,((Below.refl _ _).alloc (ArR _) _).alloc (by omega) _,by simp⟩
 ·rw[heap_alloc_old _ _ (by omega)];exact AsW _ _
 rw[<-s1];exact AsW _ _
def SpotLoop (tt ts tS:TypeId) (w:World) (gs:Nat) (s:Pl.Sec) (t:It.Tp) (wr:World):Prop :=
 Below w.heap.size w wr/\wr.heap[w.heap.size]?=some (.cells #[.string (txt t.n),.int .u8 t.c.toNat] tt (0,0))/\wr.heap[w.heap.size+1]?=some (.cells #[.int .i64 0,.int .i64 0] ts (0,0))/\wr.heap[gs]?=some (.cells (aI s).toArray tS (0,0))
theorem SpotLoop.start {tt ts:TypeId} {w w':World} {t:It.Tp} (hb:Below w.heap.size w w') (h0:w'.heap[w.heap.size]?=some (.cells #[.string (txt t.n),.int .u8 t.c.toNat] tt (0,0))) (h1:w'.heap[w.heap.size+1]?=some (.cells #[.int .i64 0,.int .i64 0] ts (0,0))) (s:Pl.Sec) (tS:TypeId) :
 SpotLoop tt ts tS w w'.heap.size s t (w'.alloc (.cells (aI s).toArray tS)) :=
 ⟨hb.alloc hb.size _,(heap_alloc_old _ _ (ArL h0).1).trans h0,(heap_alloc_old _ _ (ArL h1).1).trans h1,AsW _ _⟩
theorem SpotLoop.drewN {tt ts tS:TypeId} {w wr:World} {gs:Nat} {s:Pl.Sec} {t:It.Tp} (h:SpotLoop tt ts tS w gs s t wr) (n:Nat):SpotLoop tt ts tS w gs s t (wr.drewN n):=⟨aH h.1 n,h.2⟩
theorem SpotLoop.drew {tt ts tS:TypeId} {w wr:World} {gs:Nat} {s:Pl.Sec} {t:It.Tp} (h:SpotLoop tt ts tS w gs s t wr):SpotLoop tt ts tS w gs s t wr.drew:=⟨h.1.drew,h.2⟩
theorem DrAt.row {tD tS tG:TypeId} {w w':World} {g:Nat} {M K:List It.Itm} {vS vG:Value} {LS:List Pl.Sec} {LG:List Pl.Sig} (h:DrX tD tS tG w g M vS vG LS LG)
 (hrow:w'.heap[g]?=some (.cells (bZ K vS vG) tD (0,0))) (hk:∀ b,b≠g->b<w.heap.size->w'.heap[b]?=w.heap[b]?) (e1:Pl.dS K=LS) (e2:Pl.wG K=LG):DrAt tD tS tG w' g K:=by
 obtain⟨-,hS,hG,hap⟩:=h
 refine⟨vS,vG,hrow,?_,?_,hap⟩
 ·rw[e1]
  refine⟨hS.1,?_⟩
  rcases hS.2 with hn|⟨b,cap,cur,rfl,hbb,hgg,rest⟩
  ·exact .inl hn
  exact .inr ⟨b,cap,cur,rfl,hbb,by rw[hk b (by omega) (ArL hgg).1];exact hgg,rest⟩
 rw[e2]
 refine⟨hG.1,?_⟩
 rcases hG.2 with hn|⟨b,cap,cur,rfl,hbb,hgg,rest⟩
 ·exact .inl hn
 exact .inr ⟨b,cap,cur,rfl,hbb,by rw[hk b (by omega) (ArL hgg).1];exact hgg,rest⟩
theorem DrX.sections {tD tS tG:TypeId} {w w1 w2:World} {g:Nat} {M:List It.Itm} {x:It.Itm} {s:Pl.Sec} {vS vG v':Value} {g' cap':Nat} (h:DrX tD tS tG w g M vS vG (Pl.dS M) (Pl.wG M))
 (hb:Below w.heap.size w w1) (hgr:w1.grownBy w2 vS.ownBlock) (hv:v'=.slice (some ⟨g',0,none⟩) ((Pl.dS M).length+1) cap') (hown:w2.ownsRow (g+1) tS aQ.m v' ((Pl.dS M).length+1) (aQ.all (Pl.dS M)++aQ.enc s)) (hg':vS.ownBlock=some g'∨w.heap.size<=g')
 (hk:It.isNum x.k=false) (e1:Pl.dS (M++[x])=Pl.dS M++[s]) (e2:Pl.wG (M++[x])=Pl.wG M):DrAt tD tS tG (w2.setCell ⟨g,10,none⟩ v') g (M++[x])/\Below g w (w2.setCell ⟨g,10,none⟩ v'):=by
 obtain⟨hrow,hS,hG,hap⟩:=h
 have hg:=(ArL hrow).1
 have hbs:=hb.size
 have hne:some g≠vS.ownBlock:=λe=>by have:=(hS.lt g e.symm).1;omega
 have row2:w2.heap[g]?=some (.cells (bZ M vS vG) tD (0,0)):=by rw[hgr.block g (by omega) hne,hb.block g hg];exact hrow
 refine⟨⟨v',vG,?_,?_,?_,?_⟩,?_⟩
 ·rw[AtA _ _ _ _ _ _ row2,AbF hk];rfl
 ·rw[e1,ArV,List.length_singleton,aQ.all_append,aQ.all_one]
  exact ownsRow_setCell_below hown (a:=⟨g,10,none⟩) (by show g<g+1;omega) v'
 ·rw[e2]
  refine ownsRow_setCell_below (aL hG λb hb'=>?_) (a:=⟨g,10,none⟩) (by show g<g+1;omega) v'
  have hlt:=(hG.lt b hb').2
  rw[hgr.block b (by omega) (λe=>hap b e.symm hb'),hb.block b hlt]
 ·subst hv
  intro k hk1 hk2
  have:g'=k:=by simpa [Value.ownBlock] using hk1
  subst this
  rcases hg' with h|h
  ·exact hap g' h hk2
  have:=(hG.lt g' hk2).2;omega
 have hb':Below g w w1:=hb.mono (Nat.le_of_lt hg)
 exact(hb'.grown hgr (by omega) (λk hk=>by have:=(hS.lt k hk).1;omega)).setCell (ArR _) _
theorem DrX.signals {tD tS tG:TypeId} {w w1 w2:World} {g:Nat} {M:List It.Itm} {vS vG v':Value} {LS:List Pl.Sec} {LG:List Pl.Sig} {z:Pl.Sig} {g' cap':Nat} (h:DrX tD tS tG w g M vS vG LS LG)
 (hb:Below w.heap.size w w1) (hgr:w1.grownBy w2 vG.ownBlock) (hv:v'=.slice (some ⟨g',0,none⟩) (LG.length+1) cap') (hown:w2.ownsRow (g+1) tG bD.m v' (LG.length+1) (bD.all LG++bD.enc z)) (hg':vG.ownBlock=some g'∨w.heap.size<=g') :
 DrX tD tS tG (w2.setCell ⟨g,11,none⟩ v') g M vS v' LS (LG++[z])/\Below g w (w2.setCell ⟨g,11,none⟩ v'):=by
 obtain⟨hrow,hS,hG,hap⟩:=h
 have hg:=(ArL hrow).1
 have hbs:=hb.size
 have hne:some g≠vG.ownBlock:=λe=>by have:=(hG.lt g e.symm).1;omega
 have row2:w2.heap[g]?=some (.cells (bZ M vS vG) tD (0,0)):=by rw[hgr.block g (by omega) hne,hb.block g hg];exact hrow
 refine⟨⟨?_,?_,?_,?_⟩,?_⟩
 ·rw[AtA _ _ _ _ _ _ row2];rfl
 ·refine ownsRow_setCell_below (aL hS λb hb'=>?_) (a:=⟨g,11,none⟩) (by show g<g+1;omega) v'
  have hlt:=(hS.lt b hb').2
  rw[hgr.block b (by omega) (λe=>hap b hb' e.symm),hb.block b hlt]
 ·rw[ArV,List.length_singleton,bD.all_append,bD.all_one]
  exact ownsRow_setCell_below hown (a:=⟨g,11,none⟩) (by show g<g+1;omega) v'
 ·subst hv
  intro k hk1 hk2
  have:g'=k:=by simpa [Value.ownBlock] using hk2
  subst this
  rcases hg' with h|h
  ·exact hap g' hk1 h
  have:=(hS.lt g' hk1).2;omega
 have hb':Below g w w1:=hb.mono (Nat.le_of_lt hg)
 exact(hb'.grown hgr (by omega) (λk hk=>by have:=(hG.lt k hk).1;omega)).setCell (ArR _) _
end Go.Proofs.YtjofpclmbjpgjaaGreat
