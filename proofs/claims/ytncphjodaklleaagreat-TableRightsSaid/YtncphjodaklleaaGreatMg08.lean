/-
 Texts of this claim, merged: PlRefI, PlRefJ, PlRefK, PlDrA, RowMake, PlMemB, PlDrD, PlDrE, PlDrG, PlDrI, PlRefL, PlDrN, PlDrP, PlDrR, PlItA.
-/
import Derived.Test.YtncphjodaklleaaGreatMg02
import Derived.Test.YtncphjodaklleaaGreatMg06
import Derived.Test.YtncphjodaklleaaGreatMg07
import Derived.Deep.CutRange
import Derived.Deep.OwnRows
import Derived.Deep.RegionHeld3
import Derived.Deep.RegionLaw
import Derived.Laws.CopyRow
import Derived.Lib.SliceRun
set_option maxHeartbeats 8000000
set_option maxRecDepth 100000
namespace Go.Proofs.YtncphjodaklleaaGreat
open Go.RowKit
theorem infoSig:(Tryz.prog.info? 61).map (fun i=>(i.zero,i.size,i.bytes))=some (some (.agg #[.string ⟨#[]⟩,.int .i64 0,.int .i64 0]),3,32):=by kernel_rfl
theorem endI_err {M:List It.Itm} (hM:Pl.Ok M) (t:It.Tp):(endI (Pl.wS M) t).2.2=Pl.tipErr M [] t ∧
 ((endI (Pl.wS M) t).2.2=0→∃ (i e:Nat) (y:It.Itm),endI (Pl.wS M) t=((i:Int),(e:Int),0)∧(Pl.secs M)[i]? = some y∧e<Pl.nEnds (Pl.isPt y)∧t=Pl.tip y e):=by
 rcases Pl.find_wS (M:=M) t.n with ⟨hn,hf⟩ | ⟨i,y,hf,hy,hn⟩
 ·rw [endI_no (by rw[hf];decide)]
  exact ⟨by unfold Pl.tipErr;rw[if_pos hn],fun h=>by cases h⟩
 ·have hm:=List.mem_of_getElem? hy
  have hin:t.n∈Pl.nmS M:=Pl.mem_nmS.2 ⟨y,hm,hn⟩
  have hp:Pl.ptOf M t.n=Pl.isPt y:=by rw[← hn];exact Pl.ptOf_eq hM.names hm
  rw [endI_at hf (Pl.wS_of hy)]
  cases he:Pl.endAt (Pl.secG (Pl.gW M) y).pt t.c with
  | none =>
    refine ⟨?_,fun h=>by cases h⟩
    unfold Pl.tipErr
    rw [if_neg (fun h=>h hin),hp,if_pos (show Pl.endAt (Pl.isPt y) t.c=none from he)]
  | some e =>
    obtain ⟨hl,hlt⟩:=Pl.letter_endAt (show Pl.endAt (Pl.isPt y) t.c=some e from he)
    have tt:t=Pl.tip y e:=by cases t;simp at hn hl;simp [Pl.tip,hn,hl]
    exact ⟨(Pl.tipErr_zero.2 ⟨hin,by rw[hp,show Pl.endAt (Pl.isPt y) t.c=some e from he];rfl,by simp⟩).symm,fun _=>⟨i,e,y,rfl,hy,hlt,tt⟩⟩
theorem WorkX.signals {tw tS tG:TypeId} {w w1 w2:World} {g:Nat} {M:List It.Itm} {vS vG v':Value} {LS:List Pl.Sec} {LG:List Pl.Sig} {z:Pl.Sig} {g' cap':Nat} (h:WorkX tw tS tG w g M vS vG LS LG)
 (hb:Below w.heap.size w w1) (hgr:w1.grownBy w2 vG.ownBlock) (hv:v'=.slice (some ⟨g',0,none⟩) (LG.length+1) cap') (hown:w2.ownsRow (g+1) tG LSig.m v' (LG.length+1) (LSig.all LG++LSig.enc z)) (hg':vG.ownBlock=some g'∨w.heap.size≤g') :
 WorkX tw tS tG (w2.setCell ⟨g,5,none⟩ v') g M vS v' LS (LG++[z])∧Below g w (w2.setCell ⟨g,5,none⟩ v'):=by
 obtain ⟨hrow,hS,hG,hap⟩:=h
 have hg:=(Array.getElem?_eq_some_iff.1 hrow).1
 have hbs:=hb.size
 have hne:some g≠vG.ownBlock:=fun e=>by have:=(hG.lt g e.symm).1;omega
 have row2:w2.heap[g]? = some (.cells (workCells M vS vG) tw (0,0)):=by rw[hgr.block g (by omega) hne,hb.block g hg];exact hrow
 refine ⟨⟨?_,?_,?_,?_⟩,?_⟩
 ·rw[heap_setCell_same _ _ _ _ _ _ row2];rfl
 ·refine ownsRow_setCell_below (own_kept hS fun b hb'=>?_) (a:=⟨g,5,none⟩) (by show g<g+1;omega) v'
  have hlt:=(hS.lt b hb').2
  rw [hgr.block b (by omega) (fun e=>hap b hb' e.symm),hb.block b hlt]
 ·rw [List.length_append,List.length_singleton,LSig.all_append,LSig.all_one]
  exact ownsRow_setCell_below hown (a:=⟨g,5,none⟩) (by show g<g+1;omega) v'
 ·subst hv
  intro k hk1 hk2
  have:g'=k:=by simpa [Value.ownBlock] using hk2
  subst this
  rcases hg' with h | h
  ·exact hap g' hk1 h
  ·have:=(hS.lt g' hk1).2;omega
 ·have hb':Below g w w1:=hb.mono (Nat.le_of_lt hg)
  exact (hb'.grown hgr (by omega) (fun k hk=>by have:=(hG.lt k hk).1;omega)).setCell (Nat.le_refl _) _
theorem nmG_next {L:List Pl.Sig} {nm:List UInt8} {k:Nat} (hk:k<L.length) (h0:∀ j<k,∀ t,L[j]? = some t→t.name≠nm) (h:L[k].name≠nm):∀ j<k+1,∀ t,L[j]? = some t→t.name≠nm:=fun j hj t ht=>by
 rcases Nat.lt_or_ge j k with h1 | h1
 ·exact h0 j h1 t ht
 ·obtain rfl:j=k:=by omega
  rw [List.getElem?_eq_getElem hk] at ht
  cases ht
  exact h
theorem wG_name {M:List It.Itm} {nm:List UInt8} {k:Nat} (hk:k<(Pl.wG M).length) (h:(Pl.wG M)[k].name=nm):nm∈Pl.nmG M:=by
 have hm:=List.getElem_mem hk
 obtain ⟨x,hx,e⟩:=List.mem_map.1 hm
 rw [← e] at h
 exact List.mem_map.2 ⟨x,hx,h⟩
theorem wG_no {M:List It.Itm} {nm:List UInt8} (h:∀ j<(Pl.wG M).length,∀ t,(Pl.wG M)[j]? = some t→t.name≠nm):nm ∉ Pl.nmG M:=fun hm=>by
 obtain ⟨x,hx,e⟩:=List.mem_map.1 hm
 obtain ⟨j,hj,hjx⟩:=List.getElem_of_mem (List.mem_map_of_mem (f:=Pl.sigW (Pl.pos (Pl.nmS M)) M) hx)
 exact h j hj _ (List.getElem?_eq_getElem hj) (by
  show ((Pl.sigs M).map (Pl.sigW (Pl.pos (Pl.nmS M)) M))[j].name=nm
  rw [hjx];exact e)
theorem rpSignal_any (g:Nat) (M:List It.Itm) (x:It.Itm) (w:World) (h:WorkAt 99 59 61 w g M) (hM:Pl.Ok M) (hr:It.right x=true) (h9:x.k=9) :
 Calls Tryz.prog 77 #[.pointer (some ⟨g,0,none⟩),itemV x] w (LineGives 99 59 61 g M x (Pl.sigErr M x) w):=by
 obtain ⟨i0,hi,hz0,hz1,hz2⟩:=info_parts infoSig
 have hc0:=letter_ne (Pl.right_sig hr h9).2.2
 have hl:(Pl.wS M).length≤1000000:=by rw[Pl.wS_len];have:=hM.few;omega
 have hlG:(Pl.wG M).length≤12:=by rw[Pl.wG_len];exact hM.gfew
 obtain ⟨vS,vG,hX⟩:∃ vS vG,WorkX 99 59 61 w g M vS vG (Pl.wS M) (Pl.wG M):=h
 have hg:=(Array.getElem?_eq_some_iff.1 hX.1).1
 obtain ⟨-,A,cp,rfl,-,hR⟩:=Lies.Row.of_own hX.2.1
 obtain ⟨-,A',cp',rfl,-,hR'⟩:=Lies.Row.of_own hX.2.2.1
 have X0:=Lib.hid ((Below.refl w.heap.size w).alloc (Nat.le_refl _) (.cells (item7 x) 93))
 have R0:=Lib.hid (show (w.alloc (.cells (item7 x) 93)).heap[w.heap.size]? = some (.cells #[.int .i64 x.k,.string (txt x.name),.int .i64 x.n,.string (txt x.e0.n),.int .u8 x.e0.c.toNat,.string (txt x.e1.n),.int .u8 x.e1.c.toNat] 93 (0,0)) from heap_alloc_new _ _)
 have g2:w.heap.size<(w.alloc (.cells (item7 x) 93)).heap.size:=(row7 R0.out).2.2
 have HX:=Lib.hid hX
 have H9:=Lib.hid h9
 have HR:=Lib.hid hR
 have EN:=Lib.hid (fun W0 W (h0:Below w.heap.size w W0) (h:Below W0.heap.size W0 W)=>Made.of h (rpEnd_any A cp (Pl.wS M) x.e0 W ((hR.below rfl h0).below rfl h) hl hc0))
 have EE:=Lib.hid (endI_err hM x.e0)
 have HM:=Lib.hid hM
 clear hX hc0 hR h9 hM
 go_enter Tryz.func77,Tryz.ntmps77
 go_wp2_with fail
 go_loopw [5] (fun v wr=>∃ k:Nat,k≤(Pl.wG M).length∧v=.int .i64 k∧(∀ j<k,∀ t,(Pl.wG M)[j]? = some t→t.name≠x.name)∧Below (w.alloc (.cells (item7 x) 93)).heap.size (w.alloc (.cells (item7 x) 93)) wr) (fun v _=>(Pl.wG M).length - (intOf v).toNat)
 case atStart=>exact ⟨0,Nat.zero_le _,rfl,fun j hj=>absurd hj (by omega),Below.refl _ _⟩
 case round =>
  obtain ⟨k,hk,rfl,h0,hbel⟩:=hrel
  have H0:=Lib.hid h0
  clear h0
  have hbw:=X0.out.trans (hbel.mono (Nat.le_of_lt g2))
  have hz:=hbel.size
  have g3:w.heap.size<wr.heap.size:=Nat.lt_of_lt_of_le g2 hz
  obtain ⟨⟨m0,m1,m2,m3,m4,m5,m6⟩,-,-⟩:=row7 ((hbel.block _ g2).trans R0.out)
  have hXr:=HX.out.below hbw
  obtain ⟨⟨-,-,-,-,s4,s5⟩,-,fzg,g1⟩:=work_row hXr.1
  have HXr:=Lib.hid hXr
  have HBW:=Lib.hid hbw
  have HBG:=Lib.hid (hbw.mono (Nat.le_of_lt hg))
  clear hXr
  by_cases hlt:k<(Pl.wG M).length
  ·obtain ⟨b,o,rfl,hb,on⟩:=(hR'.below rfl hbw).at hlt
   have n0:=(sig_on on).1
   rw [show k * LSig.m=k * 3 from rfl] at n0
   clear on hbw
   by_cases he:(Pl.wG M)[k].name=x.name
   ·have h1:=txt_eqB he
    have P:=Lib.hid (show Pl.sigErr M x=3 by unfold Pl.sigErr;rw[if_pos (wG_name hlt he)])
    clear he
    go_wp2_with fail
    go_region
    go_wp2_with fail
    go_ret
    exact ⟨by rw[P.out];rfl,(fun h=>by rw[P.out] at h;cases h),HBG.out.drew⟩
   ·have h1:=txt_neB he
    have N:=Lib.hid (nmG_next hlt H0.out he)
    clear he
    go_wp2_with fail
    go_region
    go_wp2_with fail
    go_roundw
    case rel=>exact ⟨k+1,by omega,by go_num,N.out,hbel.drew⟩
    case measure=>simp [intOf];omega
  ·have NG := Lib.hid (wG_no (M:=M) (nm:=x.name) fun j hj=>H0.out j (by omega))
   clear hbw
   obtain ⟨hE1,hE2⟩:=EE.out
   obtain ⟨ta,tb,tc,hend⟩:∃ a b c,endI (Pl.wS M) x.e0=(a,b,c):=⟨_,_,_,rfl⟩
   rw [hend] at hE1 hE2
   have EN2:=Lib.hid (fun W (h:Below wr.heap.size wr W)=>EN.out wr W HBW.out h)
   rw [hend] at EN2
   have SE:Pl.sigErr M x=if tc≠0 then tc else if (Pl.sigAt M x.e0).isSome then 3 else if (Pl.sigs M).length=12 then 9 else 0:=by
    unfold Pl.sigErr
    rw [if_neg NG.out,← show tc=Pl.tipErr M [] x.e0 from hE1]
   have HSE:=Lib.hid SE
   have HE2:=Lib.hid hE2
   clear SE hE1 hE2 hend EN EE
   go_wp2_with fail
   go_region_held3 (fun w'=>w'.cell? ⟨g,4,none⟩ = some (.slice A (Pl.wS M).length cp)∧w'.cell? ⟨w.heap.size,3,none⟩ = some (.string (txt x.e0.n))∧w'.cell? ⟨w.heap.size,4,none⟩ = some (.int .u8 x.e0.c.toNat))
    (first | exact ⟨s4,m3,m4⟩ | exact ⟨(hcell _ _ g1).trans s4,(hcell _ _ g3).trans m3,(hcell _ _ g3).trans m4⟩)
    (first
     | (go_at_call 80;(with_reducible refine (EN2.out _ (Below.refl _ _).drew).mono ?_);rintro e w' ⟨rfl,hbl,hacc,hzz⟩;have hcell:=(bcell hbl).1))
   by_cases hc:tc=0
   ·obtain ⟨i,e,y,he0,hy,he,ht⟩:=HE2.out hc
    obtain ⟨rfl,rfl,rfl⟩:ta=(i:Int)∧tb=(e:Int)∧tc=0:=by cases he0;exact ⟨rfl,rfl,rfl⟩
    have he3:e<3:=by unfold Pl.nEnds at he;split at he <;> omega
    have hX2:=HXr.out.below hacc
    have hin:=(List.getElem?_eq_some_iff.1 (Pl.wS_of hy)).1
    obtain ⟨gb,cap,hvs⟩:=hX2.slice (by omega)
    obtain ⟨rfl,rfl⟩:A=some ⟨gb,0,none⟩∧cp=cap:=by cases hvs;exact ⟨rfl,rfl⟩
    obtain ⟨S4,-,-,SG,fz,G1,GB1,ggb,-⟩:=hX2.reads (Pl.wS_of hy) he3
    rw [Pl.get_secG _ he] at SG
    have fs:=fz (i * 12+3+e * 3+2)
    have S5:=(work_row hX2.1).1.2.2.2.2.2
    have F5:=(work_row hX2.1).2.2.1 5
    have M1:=(hacc.cell (show (⟨w.heap.size,1,none⟩:Addr).block<wr.heap.size from g3)).trans m1
    have BF:=Lib.hid (HBG.out.trans (hacc.mono (Nat.le_of_lt g1)))
    have HX2:=Lib.hid hX2
    have HY:=Lib.hid hy
    have HT:=Lib.hid ht
    have HE:=Lib.hid he
    clear hvs he0 hX2 hbl hacc hzz hcell s4 s5 m0 m1 m2 m3 m4 m5 m6 hbel hy ht he fz fzg hR'
    cases hsg:Pl.sigAt M x.e0 with
    | some nm =>
      have P:=Lib.hid (show Pl.sigErr M x=3 by rw[HSE.out,if_neg (by simp),hsg];rfl)
      have hv:(Pl.gW M (Pl.tip y e)).sig=Pl.pos (Pl.nmG M) nm:=by rw[← HT.out];simp only [Pl.gW,Pl.enW,hsg]
      have hd:decide (0≤Pl.pos (Pl.nmG M) nm)=true:=dec_t (by unfold Pl.pos;omega)
      rw [hv] at SG
      clear hv hsg
      go_wp2_with fail
      go_ret
      exact ⟨by rw[P.out];rfl,(fun h=>by rw[P.out] at h;cases h),BF.out⟩
    | none =>
      have hv:(Pl.gW M (Pl.tip y e)).sig = -1:=by rw[← HT.out];simp only [Pl.gW,Pl.enW,hsg]
      rw [hv] at SG
      by_cases h12:(Pl.sigs M).length=12
      ·have q12:(((Pl.wG M).length:Int) == 12)=true:=by rw[beq_iff_eq,Pl.wG_len];omega
       have P:=Lib.hid (show Pl.sigErr M x=9 by rw[HSE.out,if_neg (by simp),hsg,if_neg (by simp),if_pos h12])
       clear hv hsg h12
       go_wp2_with fail
       go_ret
       exact ⟨by rw[P.out];rfl,(fun h=>by rw[P.out] at h;cases h),BF.out⟩
      ·have q12:(((Pl.wG M).length:Int) == 12)=false:=by rw[beq_eq_false_iff_ne,Pl.wG_len];omega
       have P:=Lib.hid (show Pl.sigErr M x=0 by rw[HSE.out,if_neg (by simp),hsg,if_neg (by simp),if_neg h12])
       have HSG:=Lib.hid hsg
       clear hv hsg h12
       have gbw:=(HX.out.2.1.lt gb rfl).2
       go_wp2_with fail
       go_region
       have st:=HX2.out.store (Pl.wS_of HY.out) (j:=3+e * 3+2) (by omega) (Pl.Sec.setSig e (Pl.wG M).length) (.int .i64 (Pl.wG M).length) (setSig_cells he3 _ _)
       rw [← Nat.add_assoc,← Nat.add_assoc] at st
       have st2:=st.drew
       have B3:=Below.drew (BF.out.setCell (p:=⟨gb,i * 12+3+e * 3+2,none⟩) (Nat.le_of_lt ggb) (.int .i64 (Pl.wG M).length))
       have M3:((w'.setCell ⟨gb,i * 12+3+e * 3+2,none⟩ (.int .i64 (Pl.wG M).length)).drew).cell? ⟨w.heap.size,1,none⟩ = some (.string (txt x.name)) :=
        (World.cell?_of_block (a:=⟨w.heap.size,1,none⟩) (heap_setCell_other w' ⟨gb,i * 12+3+e * 3+2,none⟩ w.heap.size (.int .i64 (Pl.wG M).length) (by simpa using fun e=>by omega))).trans M1
       generalize (w'.setCell ⟨gb,i * 12+3+e * 3+2,none⟩ (.int .i64 (Pl.wG M).length)).drew=WR at st2 B3 M3 ⊢
       obtain ⟨⟨-,-,-,-,-,Z5⟩,-,fzr,gz⟩:=work_row st2.1
       have ZF:=fzr 5
       have HX3:=Lib.hid st2
       have HB3:=Lib.hid B3
       have NW:=Lib.hid (show ∀ j u,([.string (txt x.name),.int .i64 i,.int .i64 e]:List Value)[j]? = some u→(WR.drew.alloc (.cells #[.string (txt x.name),.int .i64 i,.int .i64 e] 61)).cell? ((⟨WR.heap.size,0,none⟩:Addr).add j)=some u from
        fun j u hu=>World.news_of_block (B:=WR.heap.size) (cs:=#[.string (txt x.name),.int .i64 i,.int .i64 e]) (t:=61) (fr:=(0,0)) (heap_alloc_new WR.drew (.cells #[.string (txt x.name),.int .i64 i,.int .i64 e] 61)) j u (by simpa using hu))
       have ON:=Lib.hid (show ∀ u∈([.string (txt x.name),.int .i64 i,.int .i64 e]:List Value),u.oneCell'=true from fun u hu=>by
        simp only [List.mem_cons,List.not_mem_nil,or_false] at hu
        rcases hu with rfl | rfl | rfl <;> rfl)
       have HNE:=Lib.hid (show some g≠(Value.slice A' (Pl.wG M).length cp').ownBlock from fun e=>by have:=(st2.2.2.1.lt g e.symm).1;omega)
       have gbz:g+1≤WR.heap.size:=gz
       clear st st2 B3 fzr S4 SG S5 F5 M1 fs GB1 G1
       go_wp2_with fail
       go_region_law (refine step_append_lies _ (by rfl) (.tmp 92) (.tmp 98) 23 (by rfl) (g+1) 61 i0 _ 3 32 Tryz.underlying23 hi hz0 hz1 hz2 rfl (by decide) (.slice A' (Pl.wG M).length cp') (Pl.wG M).length (LSig.all (Pl.wG M)) (by rfl) (HX3.out.2.2.1.drew.alloc _) ⟨WR.heap.size,0,none⟩ 1 1 [.string (txt x.name),.int .i64 i,.int .i64 e] (by rfl) (by rfl) NW.out ON.out (by omega) (by unfold maxLen;omega) (by omega) (by simp;omega) _ rfl ?_;intro g' cap' w3 hown hgr hg' hlt2;have hr3:=(hgr.block g (by simp;omega) HNE.out).trans ((heap_alloc_old _ _ (show g<WR.drew.heap.size from gz)).trans HX3.out.1);have c3:=(work_row hr3).1.2.2.2.2.2;have f3:=(work_row hr3).2.2.1 5)
       all_goals go_wp2_with fail
       all_goals go_ret
       all_goals (
        have WS:=WorkX.signals (z:=⟨x.name,i,e⟩) HX3.out (((Below.refl WR.heap.size WR).drew).alloc (Nat.le_refl _) (.cells #[.string (txt x.name),.int .i64 i,.int .i64 e] 61)) hgr rfl hown (by rcases hg' with h | h;exact .inl h;exact .inr (by rw[h];simp))
        obtain ⟨e1,e2⟩:=Pl.w_sig HM.out (by unfold Pl.isG;exact decide_eq_true H9.out) NG.out (Pl.sigAt_none.1 (by rw[HSG.out];rfl)) HY.out HE.out HT.out
        exact ⟨by rw[P.out];rfl,fun _=>WS.1.next (by unfold It.isNum;rw[H9.out];decide) e1 e2,HB3.out.trans WS.2⟩)
   ·have hcn:(tc != 0)=true:=by rw[bne_iff_ne];exact hc
    have P:=Lib.hid (show Pl.sigErr M x=tc by rw[HSE.out,if_pos hc])
    have BF:=Lib.hid (HBG.out.trans (hacc.mono (Nat.le_of_lt g1)))
    clear hbl hacc hzz hcell hbel hR'
    go_wp2_with fail
    go_ret
    exact ⟨by rw[P.out];rfl,(fun h=>absurd (P.out.symm.trans h) hc),BF.out⟩
theorem lineErr_num {M:List It.Itm} {x:It.Itm} (hr:It.right x=true) (h:It.isNum x.k=true):Pl.lineErr M x=if toldB M x.k then 3 else 0:=by
 unfold Pl.lineErr
 rw [hr,if_neg (by simp),if_pos h];rfl
theorem lineErr_sec {M:List It.Itm} {x:It.Itm} (hr:It.right x=true) (h:Pl.isS x=true):Pl.lineErr M x=if x.name∈Pl.nmS M then 3 else if (Pl.secs M).length=24 then 9 else 0:=by
 unfold Pl.lineErr
 rw [hr,if_neg (by simp),if_neg (by rw[(Pl.sec_facts h).1];simp),if_pos h]
theorem lineErr_join {M:List It.Itm} {x:It.Itm} (hr:It.right x=true) (h:x.k=7):Pl.lineErr M x=Pl.joinErr M x:=by
 obtain ⟨h1,h2,_⟩:=Pl.end_facts (x:=x) (.inl h)
 unfold Pl.lineErr
 rw [hr,if_neg (by simp),if_neg (by rw[h1];simp),if_neg (by rw[h2];simp),if_pos h]
theorem lineErr_stop {M:List It.Itm} {x:It.Itm} (hr:It.right x=true) (h:x.k=8):Pl.lineErr M x=Pl.tipErr M (Pl.ments M) x.e0:=by
 obtain ⟨h1,h2,_⟩:=Pl.end_facts (x:=x) (.inr h)
 unfold Pl.lineErr
 rw [hr,if_neg (by simp),if_neg (by rw[h1];simp),if_neg (by rw[h2];simp),if_neg (by omega),if_pos h]
theorem lineErr_sig {M:List It.Itm} {x:It.Itm} (hr:It.right x=true) (h:x.k=9):Pl.lineErr M x=Pl.sigErr M x:=by
 have hg:Pl.isG x=true:=by unfold Pl.isG;exact decide_eq_true h
 obtain ⟨h1,h2,_⟩:=Pl.sig_facts hg
 unfold Pl.lineErr
 rw [hr,if_neg (by simp),if_neg (by rw[h1];simp),if_neg (by rw[h2];simp),if_neg (by omega),if_neg (by omega)]
theorem rpLine_any (g:Nat) (M:List It.Itm) (x:It.Itm) (w:World) (h:WorkAt 99 59 61 w g M) (hM:Pl.Ok M) (hr:It.right x=true) :
 Calls Tryz.prog 44 #[.pointer (some ⟨g,0,none⟩),itemV x] w (LineGives 99 59 61 g M x (Pl.lineErr M x) w):=by
 have hg:=(Array.getElem?_eq_some_iff.1 h.choose_spec.choose_spec.1).1
 have X0:=(Below.refl w.heap.size w).alloc (Nat.le_refl _) (.cells (item7 x) 93)
 have XG:=Lib.hid ((Below.refl g w).alloc (Nat.le_of_lt hg) (.cells (item7 x) 93))
 have hW:WorkAt 99 59 61 (w.alloc (.cells (item7 x) 93)) g M:=WorkL.below h X0
 obtain ⟨⟨k0,k1,k2,k3,k4,k5,k6⟩,-,g2⟩:=row7 (show (w.alloc (.cells (item7 x) 93)).heap[w.heap.size]? = some (.cells #[.int .i64 x.k,.string (txt x.name),.int .i64 x.n,.string (txt x.e0.n),.int .u8 x.e0.c.toNat,.string (txt x.e1.n),.int .u8 x.e1.c.toNat] 93 (0,0)) from heap_alloc_new _ _)
 clear X0 h hg
 have hk:=Pl.right_kind hr
 have hk':x.k=5∨x.k=6∨x.k=7∨x.k=8∨x.k=9∨(1≤x.k∧x.k≤4):=by omega
 rcases hk' with h5 | h6 | h7 | h8 | h9 | h14
 ·have C0:=rpSection_any g M x (w.alloc (.cells (item7 x) 93)) hW hM (by unfold Pl.isS It.isLen;exact decide_eq_true (by omega))
  rw [← lineErr_sec (M:=M) hr (by unfold Pl.isS It.isLen;exact decide_eq_true (by omega))] at C0
  have C:=Lib.hid C0
  clear C0
  have HW:=Lib.hid hW
  have q5:(x.k == 5)=true:=by rw[beq_iff_eq];omega
  have q6:(x.k == 6)=false:=by rw[beq_eq_false_iff_ne];omega
  have q7:(x.k == 7)=false:=by rw[beq_eq_false_iff_ne];omega
  have q8:(x.k == 8)=false:=by rw[beq_eq_false_iff_ne];omega
  have q9:(x.k == 9)=false:=by rw[beq_eq_false_iff_ne];omega
  clear hW hM hr hk h5
  go_enter Tryz.func44,Tryz.ntmps44
  go_wp2_with fail
  refine C.out.mono ?_;rintro e w1 ⟨rfl,hw1,hb1⟩
  have HN:=Lib.hid hw1
  clear hw1
  go_wp2_with fail
  go_ret
  exact ⟨rfl,HN.out,XG.out.trans hb1⟩
 ·have C0:=rpSection_any g M x (w.alloc (.cells (item7 x) 93)) hW hM (by unfold Pl.isS It.isLen;exact decide_eq_true (by omega))
  rw [← lineErr_sec (M:=M) hr (by unfold Pl.isS It.isLen;exact decide_eq_true (by omega))] at C0
  have C:=Lib.hid C0
  clear C0
  have HW:=Lib.hid hW
  have q5:(x.k == 5)=false:=by rw[beq_eq_false_iff_ne];omega
  have q6:(x.k == 6)=true:=by rw[beq_iff_eq];omega
  have q7:(x.k == 7)=false:=by rw[beq_eq_false_iff_ne];omega
  have q8:(x.k == 8)=false:=by rw[beq_eq_false_iff_ne];omega
  have q9:(x.k == 9)=false:=by rw[beq_eq_false_iff_ne];omega
  clear hW hM hr hk h6
  go_enter Tryz.func44,Tryz.ntmps44
  go_wp2_with fail
  refine C.out.mono ?_;rintro e w1 ⟨rfl,hw1,hb1⟩
  have HN:=Lib.hid hw1
  clear hw1
  go_wp2_with fail
  go_ret
  exact ⟨rfl,HN.out,XG.out.trans hb1⟩
 ·have C0:=rpJoin_any g M x (w.alloc (.cells (item7 x) 93)) hW hM hr h7
  rw [← lineErr_join (M:=M) hr h7] at C0
  have C:=Lib.hid C0
  clear C0
  have HW:=Lib.hid hW
  have q5:(x.k == 5)=false:=by rw[beq_eq_false_iff_ne];omega
  have q6:(x.k == 6)=false:=by rw[beq_eq_false_iff_ne];omega
  have q7:(x.k == 7)=true:=by rw[beq_iff_eq];omega
  have q8:(x.k == 8)=false:=by rw[beq_eq_false_iff_ne];omega
  have q9:(x.k == 9)=false:=by rw[beq_eq_false_iff_ne];omega
  clear hW hM hr hk h7
  go_enter Tryz.func44,Tryz.ntmps44
  go_wp2_with fail
  refine C.out.mono ?_;rintro e w1 ⟨rfl,hw1,hb1⟩
  have HN:=Lib.hid hw1
  clear hw1
  go_wp2_with fail
  go_ret
  exact ⟨rfl,HN.out,XG.out.trans hb1⟩
 ·have C0:=rpStop_any g M x (w.alloc (.cells (item7 x) 93)) hW hM hr h8
  rw [← lineErr_stop (M:=M) hr h8] at C0
  have C:=Lib.hid C0
  clear C0
  have HW:=Lib.hid hW
  have q5:(x.k == 5)=false:=by rw[beq_eq_false_iff_ne];omega
  have q6:(x.k == 6)=false:=by rw[beq_eq_false_iff_ne];omega
  have q7:(x.k == 7)=false:=by rw[beq_eq_false_iff_ne];omega
  have q8:(x.k == 8)=true:=by rw[beq_iff_eq];omega
  have q9:(x.k == 9)=false:=by rw[beq_eq_false_iff_ne];omega
  clear hW hM hr hk h8
  go_enter Tryz.func44,Tryz.ntmps44
  go_wp2_with fail
  refine C.out.mono ?_;rintro e w1 ⟨rfl,hw1,hb1⟩
  have HN:=Lib.hid hw1
  clear hw1
  go_wp2_with fail
  go_ret
  exact ⟨rfl,HN.out,XG.out.trans hb1⟩
 ·have C0:=rpSignal_any g M x (w.alloc (.cells (item7 x) 93)) hW hM hr h9
  rw [← lineErr_sig (M:=M) hr h9] at C0
  have C:=Lib.hid C0
  clear C0
  have HW:=Lib.hid hW
  have q5:(x.k == 5)=false:=by rw[beq_eq_false_iff_ne];omega
  have q6:(x.k == 6)=false:=by rw[beq_eq_false_iff_ne];omega
  have q7:(x.k == 7)=false:=by rw[beq_eq_false_iff_ne];omega
  have q8:(x.k == 8)=false:=by rw[beq_eq_false_iff_ne];omega
  have q9:(x.k == 9)=true:=by rw[beq_iff_eq];omega
  clear hW hM hr hk h9
  go_enter Tryz.func44,Tryz.ntmps44
  go_wp2_with fail
  refine C.out.mono ?_;rintro e w1 ⟨rfl,hw1,hb1⟩
  have HN:=Lib.hid hw1
  clear hw1
  go_wp2_with fail
  go_ret
  exact ⟨rfl,HN.out,XG.out.trans hb1⟩
 ·have C0:=rpNumber_any g M x (w.alloc (.cells (item7 x) 93)) hW (by unfold It.isNum;exact decide_eq_true h14)
  rw [← lineErr_num (M:=M) hr (by unfold It.isNum;exact decide_eq_true h14)] at C0
  have C:=Lib.hid C0
  clear C0
  have HW:=Lib.hid hW
  have q5:(x.k == 5)=false:=by rw[beq_eq_false_iff_ne];omega
  have q6:(x.k == 6)=false:=by rw[beq_eq_false_iff_ne];omega
  have q7:(x.k == 7)=false:=by rw[beq_eq_false_iff_ne];omega
  have q8:(x.k == 8)=false:=by rw[beq_eq_false_iff_ne];omega
  have q9:(x.k == 9)=false:=by rw[beq_eq_false_iff_ne];omega
  clear hW hM hr hk h14
  go_enter Tryz.func44,Tryz.ntmps44
  go_wp2_with fail
  refine C.out.mono ?_;rintro e w1 ⟨rfl,hw1,hb1⟩
  have HN:=Lib.hid hw1
  clear hw1
  go_wp2_with fail
  go_ret
  exact ⟨rfl,HN.out,XG.out.trans hb1⟩
def LackGives (L:List It.Itm) (x:It.Itm) (w:World) (e:Ending) (w':World):Prop:=e=.returned (.int .i64 (Pl.lackErr L x))∧Below w.heap.size w w'
theorem LackGives.mk {L:List It.Itm} {x:It.Itm} {w w':World} {e:Ending} (n:Int) (h:Pl.lackErr L x=n) (he:e=.returned (.int .i64 n)) (hb:Below w.heap.size w w'):LackGives L x w e w':=⟨by rw[h];exact he,hb⟩
theorem lack_other {L:List It.Itm} {x:It.Itm} (h1:Pl.isS x=false) (h2:Pl.isG x=false):Pl.lackErr L x=0:=by
 unfold Pl.lackErr
 rw [if_neg (by rw[h1];simp),if_neg (by rw[h2];simp)]
theorem lack_open {L:List It.Itm} {x:It.Itm} (hs:Pl.isS x=true) {e:Nat} (he:e<3) (h:((Pl.secG (Pl.gW L) x).get e).goes = -2):Pl.lackErr L x=7:=by
 have hen : e<Pl.nEnds (Pl.isPt x):=by
  by_cases hp:Pl.isPt x=true
  ·rw[hp];exact he
  ·have hp':Pl.isPt x=false:=by simpa using hp
   have:e=0∨e=1∨e=2:=by omega
   rcases this with rfl | rfl | rfl
   ·rw[hp'];decide
   ·rw[hp'];decide
   ·have:((Pl.secG (Pl.gW L) x).get 2)=Pl.stop:=by
     show (if Pl.isPt x then _ else Pl.stop)=Pl.stop
     rw [hp'];rfl
    rw [this] at h;cases h
 rw [Pl.get_secG _ hen] at h
 have hp:Pl.partner L (Pl.tip x e)=none:=by
  cases hpt:Pl.partner L (Pl.tip x e) with
  | none=>rfl
  | some v =>
    simp only [Pl.gW,Pl.enW,hpt] at h
    cases v with
    | none=>cases h
    | some u =>
      have:0≤Pl.pos (Pl.nmS L) u.n:=by unfold Pl.pos;omega
      simp only at h
      omega
 unfold Pl.lackErr
 rw [if_pos hs,if_pos]
 rw [List.any_eq_true]
 exact ⟨e,List.mem_range.2 hen,by simpa using hp⟩
theorem lack_shut {L:List It.Itm} {x:It.Itm} (hs:Pl.isS x=true) (h:∀ e<3,((Pl.secG (Pl.gW L) x).get e).goes ≠ -2):Pl.lackErr L x=0:=by
 unfold Pl.lackErr
 rw [if_pos hs,if_neg]
 intro hc
 obtain ⟨e,he,hp⟩:=List.any_eq_true.1 hc
 have he':=List.mem_range.1 he
 have h3:e<3:=by unfold Pl.nEnds at he';split at he' <;> omega
 have:=h e h3
 rw [Pl.get_secG _ he'] at this
 have hp':Pl.partner L (Pl.tip x e)=none:=by simpa using hp
 exact this (by simp [Pl.gW,Pl.enW,hp'])
theorem lack_sig {L:List It.Itm} {x:It.Itm} (hg:Pl.isG x=true) {y:It.Itm} {e:Nat} (ht:x.e0=Pl.tip y e):Pl.lackErr L x=if (Pl.gW L (Pl.tip y e)).goes<0 then 8 else 0:=by
 unfold Pl.lackErr
 rw [if_neg (by rw[(Pl.sig_facts hg).2.1];simp),if_pos hg,ht]
 cases hpt:Pl.partner L (Pl.tip y e) with
 | none=>simp [Pl.gW,Pl.enW,hpt]
 | some v =>
   cases v with
   | none=>simp [Pl.gW,Pl.enW,hpt]
   | some u =>
     have:0≤Pl.pos (Pl.nmS L) u.n:=by unfold Pl.pos;omega
     simp only [Pl.gW,Pl.enW,hpt,Option.getD_some,Option.isSome_some,if_true]
     rw [if_neg (by omega)]
theorem rpLacks_any (g:Nat) (L:List It.Itm) (x:It.Itm) (w:World) (h:WorkAt 99 59 61 w g L) (hL:Pl.Ok L) (hx:x∈L) :
 Calls Tryz.prog 45 #[.pointer (some ⟨g,0,none⟩),itemV x] w (LackGives L x w):=by
 have hr:=hL.right x hx
 have hl:(Pl.wS L).length≤1000000:=by rw[Pl.wS_len];have:=hL.few;omega
 obtain ⟨vS,vG,hX⟩:∃ vS vG,WorkX 99 59 61 w g L vS vG (Pl.wS L) (Pl.wG L):=h
 have hg:=(Array.getElem?_eq_some_iff.1 hX.1).1
 obtain ⟨-,A,cp,rfl,-,hR⟩:=Lies.Row.of_own hX.2.1
 have X0:=Lib.hid ((Below.refl w.heap.size w).alloc (Nat.le_refl _) (.cells (item7 x) 93))
 obtain ⟨⟨k0,k1,k2,k3,k4,k5,k6⟩,-,g2⟩:=row7 (show (w.alloc (.cells (item7 x) 93)).heap[w.heap.size]? = some (.cells #[.int .i64 x.k,.string (txt x.name),.int .i64 x.n,.string (txt x.e0.n),.int .u8 x.e0.c.toNat,.string (txt x.e1.n),.int .u8 x.e1.c.toNat] 93 (0,0)) from heap_alloc_new _ _)
 have hX0:=hX.below X0.out
 obtain ⟨⟨-,-,-,-,s4,-⟩,-,-,g1⟩:=work_row hX0.1
 have hk:=Pl.right_kind hr
 have hk':(1≤x.k∧x.k≤4)∨(x.k=5∨x.k=6)∨(x.k=7∨x.k=8)∨x.k=9:=by omega
 rcases hk' with h14 | h56 | h78 | h9
 ·have hN:Pl.isS x=false∧Pl.isG x=false:=⟨(Pl.num_facts (by unfold It.isNum;exact decide_eq_true h14)).1,(Pl.num_facts (by unfold It.isNum;exact decide_eq_true h14)).2.1⟩
  have P:=Lib.hid (lack_other (L:=L) hN.1 hN.2)
  have q5:(x.k == 5)=false:=by rw[beq_eq_false_iff_ne];omega
  have q6:(x.k == 6)=false:=by rw[beq_eq_false_iff_ne];omega
  have q9:(x.k == 9)=false:=by rw[beq_eq_false_iff_ne];omega
  clear h14 hk hN hX hX0 hR hL hr hl
  go_enter Tryz.func45,Tryz.ntmps45
  go_wp2_with fail
  go_ret
  exact LackGives.mk _ P.out rfl X0.out
 ·have hs : Pl.isS x=true:=by unfold Pl.isS It.isLen;exact decide_eq_true (by omega)
  have hm:x∈Pl.secs L:=Pl.mem_secs.2 ⟨hx,hs⟩
  obtain ⟨i,hi,hf⟩:∃ i,(Pl.secs L)[i]? = some x∧Pl.find (Pl.wS L) x.name=(i:Nat):=by
   rcases Pl.find_wS (M:=L) x.name with ⟨hn,_⟩ | ⟨i,y,hf,hy,hn⟩
   ·exact absurd (Pl.mem_nmS.2 ⟨x,hm,rfl⟩) hn
   ·have:=Pl.uniq hL.names (List.mem_of_getElem? hy) hm hn
    subst this
    exact ⟨i,hy,hf⟩
  have hin:=(List.getElem?_eq_some_iff.1 (Pl.wS_of hi)).1
  obtain ⟨gb,cap,hvs⟩:=hX0.slice (by omega)
  obtain ⟨rfl,rfl⟩:A=some ⟨gb,0,none⟩∧cp=cap:=by cases hvs;exact ⟨rfl,rfl⟩
  have gb1:=(hX0.2.1.lt gb rfl).2
  have on:=Lies.own_on hX0.2.1 (Pl.wS_of hi)
  have LO:=Lib.hid (fun e=>@lack_open L x hs e)
  have LS:=Lib.hid (lack_shut (L:=L) (x:=x) hs)
  have FN:=Lib.hid (fun W (h:Below (w.alloc (.cells (item7 x) 93)).heap.size (w.alloc (.cells (item7 x) 93)) W)=>rpFind_any (some ⟨gb,0,none⟩) cp (Pl.wS L) x.name W ((hR.below rfl X0.out).below rfl h) hl)
  rw [hf] at FN
  generalize Pl.secG (Pl.gW L) x=S0 at on LO LS
  obtain ⟨o0,o1,o2,o3,o4,o5,o6,o7,o8,o9,o10,o11⟩:=sec_on on
  rw [show i * LSec.m=i * 12 from rfl] at o0 o1 o2 o3 o4 o5 o6 o7 o8 o9 o10 o11
  have KS:=Lib.hid (fun w' (hb:Below (w.alloc (.cells (item7 x) 93)).heap.size (w.alloc (.cells (item7 x) 93)) w')=>show w'.cell? ⟨g,4,none⟩ = some (.slice (some ⟨gb,0,none⟩) (Pl.wS L).length cp)∧w'.cell? ⟨w.heap.size,1,none⟩ = some (.string (txt x.name))∧w'.cell? ⟨gb,i * 12,none⟩ = some (.string (txt S0.name))∧w'.cell? ⟨gb,i * 12+1,none⟩ = some (.bool S0.pt)∧w'.cell? ⟨gb,i * 12+2,none⟩ = some (.int .i64 S0.len)∧w'.cell? ⟨gb,i * 12+3,none⟩ = some (.int .i64 S0.e0.goes)∧w'.cell? ⟨gb,i * 12+4,none⟩ = some (.int .i64 S0.e0.at_)∧w'.cell? ⟨gb,i * 12+5,none⟩ = some (.int .i64 S0.e0.sig)∧w'.cell? ⟨gb,i * 12+6,none⟩ = some (.int .i64 S0.e1.goes)∧w'.cell? ⟨gb,i * 12+7,none⟩ = some (.int .i64 S0.e1.at_)∧w'.cell? ⟨gb,i * 12+8,none⟩ = some (.int .i64 S0.e1.sig)∧w'.cell? ⟨gb,i * 12+9,none⟩ = some (.int .i64 S0.e2.goes)∧w'.cell? ⟨gb,i * 12+10,none⟩ = some (.int .i64 S0.e2.at_)∧w'.cell? ⟨gb,i * 12+11,none⟩ = some (.int .i64 S0.e2.sig) from
   have k:=fun o=>hb.cell (p:=⟨gb,o,none⟩) gb1
   ⟨(hb.cell (p:=⟨g,4,none⟩) g1).trans s4,(hb.cell (p:=⟨w.heap.size,1,none⟩) g2).trans k1,(k _).trans o0,(k _).trans o1,(k _).trans o2,(k _).trans o3,(k _).trans o4,(k _).trans o5,(k _).trans o6,(k _).trans o7,(k _).trans o8,(k _).trans o9,(k _).trans o10,(k _).trans o11⟩)
  have W0:=Lib.hid (Below.refl (w.alloc (.cells (item7 x) 93)).heap.size (w.alloc (.cells (item7 x) 93)))
  have q56:(x.k == 5)=true∨((x.k == 5)=false∧(x.k == 6)=true):=by
   rcases h56 with h | h
   ·exact .inl (by rw[beq_iff_eq];exact h)
   ·exact .inr ⟨by rw[beq_eq_false_iff_ne];omega,by rw[beq_iff_eq];exact h⟩
  clear hvs on hf hi hm hs hX hX0 hR hL hr hl hk h56 hx
  rcases q56 with q5 | ⟨q5,q6⟩
  all_goals
   go_enter Tryz.func45,Tryz.ntmps45
   go_wp2_with fail
   go_region_held3 (fun w'=>w'.cell? ⟨g,4,none⟩ = some (.slice (some ⟨gb,0,none⟩) (Pl.wS L).length cp)∧w'.cell? ⟨w.heap.size,1,none⟩ = some (.string (txt x.name))∧w'.cell? ⟨gb,i * 12,none⟩ = some (.string (txt S0.name))∧w'.cell? ⟨gb,i * 12+1,none⟩ = some (.bool S0.pt)∧w'.cell? ⟨gb,i * 12+2,none⟩ = some (.int .i64 S0.len)∧w'.cell? ⟨gb,i * 12+3,none⟩ = some (.int .i64 S0.e0.goes)∧w'.cell? ⟨gb,i * 12+4,none⟩ = some (.int .i64 S0.e0.at_)∧w'.cell? ⟨gb,i * 12+5,none⟩ = some (.int .i64 S0.e0.sig)∧w'.cell? ⟨gb,i * 12+6,none⟩ = some (.int .i64 S0.e1.goes)∧w'.cell? ⟨gb,i * 12+7,none⟩ = some (.int .i64 S0.e1.at_)∧w'.cell? ⟨gb,i * 12+8,none⟩ = some (.int .i64 S0.e1.sig)∧w'.cell? ⟨gb,i * 12+9,none⟩ = some (.int .i64 S0.e2.goes)∧w'.cell? ⟨gb,i * 12+10,none⟩ = some (.int .i64 S0.e2.at_)∧w'.cell? ⟨gb,i * 12+11,none⟩ = some (.int .i64 S0.e2.sig))
    (first | exact KS.out _ W0.out.drew | exact KS.out _ (W0.out.alloc (Nat.le_refl _) _).drew | (refine KS.out _ ?_;(repeat (first | (with_reducible refine Below.setCell ?_ (Nat.le_refl _) _) | (with_reducible refine Below.drew ?_)));exact W0.out.alloc (Nat.le_refl _) _))
    (first
     | (go_at_call 79;(with_reducible refine (FN.out _ W0.out.drew).mono ?_);rintro e w' ⟨rfl,rfl⟩)
     | (go_at_call 79;(with_reducible refine (FN.out _ (W0.out.alloc (Nat.le_refl _) _).drew).mono ?_);rintro e w' ⟨rfl,rfl⟩))
   all_goals
    have RW:(((w.alloc (.cells (item7 x) 93)).alloc (.cells (secCells S0).toArray 59)).drew).heap[w.heap.size+1]? = some (.cells (secCells S0).toArray 59 (0,0)):=by
     have:(((w.alloc (.cells (item7 x) 93)).alloc (.cells (secCells S0).toArray 59)).drew).heap[(w.alloc (.cells (item7 x) 93)).heap.size]? = some (.cells (secCells S0).toArray 59 (0,0)):=heap_alloc_new (w.alloc (.cells (item7 x) 93)) (.cells (secCells S0).toArray 59)
     rwa [show (w.alloc (.cells (item7 x) 93)).heap.size=w.heap.size+1 by simp] at this
    have BW:=(X0.out.alloc (by simp) (.cells (secCells S0).toArray 59)).drew
    change Exit.then _ _ _ _ (((w.alloc (.cells (item7 x) 93)).alloc (.cells (secCells S0).toArray 59)).drew)
    generalize ((w.alloc (.cells (item7 x) 93)).alloc (.cells (secCells S0).toArray 59)).drew=WR at RW BW ⊢
    have on1:LSec.On WR (w.heap.size+1) 0 S0:=fun j v hv=>by
     have hv':(secCells S0)[j]? = some v:=hv
     rw [Nat.zero_add,(row12 RW).1 j]
     simpa using hv'
    have HO:=Lib.hid (fun e he=>on_to (e:=e) on1 he)
    have HBW:=Lib.hid BW
    clear RW BW on1 o0 o1 o2 o3 o4 o5 o6 o7 o8 o9 o10 o11 k0 k1 k2 k3 k4 k5 k6 s4
    go_wp2_with fail
    go_loop [6] (fun v=>∃ k:Nat,k≤3∧v=.int .i64 k∧∀ j<k,(S0.get j).goes ≠ -2) (fun v=>3 - (intOf v).toNat)
    case atStart=>exact ⟨0,Nat.zero_le _,rfl,fun j hj=>absurd hj (by omega)⟩
    case round =>
     obtain ⟨k,hk,rfl,h0⟩:=hrel
     have H0:=Lib.hid h0
     clear h0
     by_cases hlt:k<3
     ·have t0:=HO.out k hlt
      rw [Nat.zero_add] at t0
      have d1:decide ((k:Int)<3)=true:=dec_t (by omega)
      by_cases ho:(S0.get k).goes = -2
      ·have P:=Lib.hid (LO.out k hlt ho)
       have q:((S0.get k).goes == -2)=true:=by rw[beq_iff_eq];exact ho
       clear ho
       go_wp2_with fail
       go_ret
       exact LackGives.mk _ P.out rfl HBW.out
      ·have q:((S0.get k).goes == -2)=false:=by rw[beq_eq_false_iff_ne];exact ho
       have NX:=Lib.hid (show ∀ j<k+1,(S0.get j).goes ≠ -2 from fun j hj=>by
        rcases Nat.lt_or_ge j k with h | h
        ·exact H0.out j h
        ·obtain rfl:j=k:=by omega
         exact ho)
       clear ho
       go_wp2_with fail
       go_round
       case rel=>exact ⟨k+1,by omega,by go_num,NX.out⟩
       case measure=>simp [intOf];omega
     ·have P:=Lib.hid (LS.out fun e he=>H0.out e (by omega))
      have d1:decide ((k:Int)<3)=false:=dec_f (by omega)
      go_wp2_with fail
      go_ret
      exact LackGives.mk _ P.out rfl HBW.out
 ·have hN:Pl.isS x=false∧Pl.isG x=false:=⟨(Pl.end_facts h78).2.1,(Pl.end_facts h78).2.2⟩
  have P:=Lib.hid (lack_other (L:=L) hN.1 hN.2)
  have q5:(x.k == 5)=false:=by rw[beq_eq_false_iff_ne];omega
  have q6:(x.k == 6)=false:=by rw[beq_eq_false_iff_ne];omega
  have q9:(x.k == 9)=false:=by rw[beq_eq_false_iff_ne];omega
  clear h78 hk hN hX hX0 hR hL hr hl
  go_enter Tryz.func45,Tryz.ntmps45
  go_wp2_with fail
  go_ret
  exact LackGives.mk _ P.out rfl X0.out
 ·have hG:Pl.isG x=true:=by unfold Pl.isG;exact decide_eq_true h9
  obtain ⟨y0,hy0,f0,hf0,ht0⟩:=Pl.told_all hL hx (t:=x.e0) (by unfold Pl.tips;rw[if_neg (by omega),if_neg (by omega),if_pos h9];simp)
  have hz:Pl.tipErr L [] x.e0=0:=Pl.tipErr_zero.2 ⟨by rw[ht0];exact Pl.mem_nmS.2 ⟨y0,hy0,rfl⟩,by rw[ht0,Pl.tip_at hL hy0 hf0];rfl,by simp⟩
  obtain ⟨hE1,hE2⟩:=endI_err hL x.e0
  obtain ⟨i,e,y,hend,hy,he,ht⟩:=hE2 (hE1.trans hz)
  have he3:e<3:=by unfold Pl.nEnds at he;split at he <;> omega
  have hin:=(List.getElem?_eq_some_iff.1 (Pl.wS_of hy)).1
  obtain ⟨gb,cap,hvs⟩:=hX0.slice (by omega)
  obtain ⟨rfl,rfl⟩:A=some ⟨gb,0,none⟩∧cp=cap:=by cases hvs;exact ⟨rfl,rfl⟩
  have EN:=Lib.hid (fun W (h:Below (w.alloc (.cells (item7 x) 93)).heap.size (w.alloc (.cells (item7 x) 93)) W)=>Made.of h (rpEnd_any (some ⟨gb,0,none⟩) cp (Pl.wS L) x.e0 W ((hR.below rfl X0.out).below rfl h) hl (letter_ne (Pl.right_sig hr h9).2.2)))
  rw [hend] at EN
  have W0:=Lib.hid (Below.refl (w.alloc (.cells (item7 x) 93)).heap.size (w.alloc (.cells (item7 x) 93)))
  have LG:=Lib.hid (lack_sig (L:=L) hG ht)
  have HX:=Lib.hid hX0
  have HY:=Lib.hid hy
  have HE:=Lib.hid he
  have q5:(x.k == 5)=false:=by rw[beq_eq_false_iff_ne];omega
  have q6:(x.k == 6)=false:=by rw[beq_eq_false_iff_ne];omega
  have q9:(x.k == 9)=true:=by rw[beq_iff_eq];omega
  clear hvs hy he ht hend hE1 hE2 hz ht0 hf0 hy0 hG hX hX0 hR hL hr hl hk hx h9
  go_enter Tryz.func45,Tryz.ntmps45
  go_wp2_with fail
  go_region_held3 (fun w'=>w'.cell? ⟨g,4,none⟩ = some (.slice (some ⟨gb,0,none⟩) (Pl.wS L).length cp)∧w'.cell? ⟨w.heap.size,3,none⟩ = some (.string (txt x.e0.n))∧w'.cell? ⟨w.heap.size,4,none⟩ = some (.int .u8 x.e0.c.toNat))
   (first | exact ⟨s4,k3,k4⟩ | exact ⟨(hcell _ _ g1).trans s4,(hcell _ _ g2).trans k3,(hcell _ _ g2).trans k4⟩)
   (first
    | (go_at_call 80;(with_reducible refine (EN.out _ W0.out.drew).mono ?_);rintro e' w' ⟨rfl,hbl,hacc,hzz⟩;have hcell:=(bcell hbl).1))
  have hX1:=HX.out.below hacc
  obtain ⟨S4,T0,-,-,-,G1,GB1,-,-⟩:=hX1.reads (Pl.wS_of HY.out) he3
  rw [Pl.get_secG _ HE.out] at T0
  have BF:=Lib.hid (X0.out.trans (hacc.mono (Nat.le_of_lt g2)))
  clear hX1 hacc hbl hzz hcell s4 k0 k1 k2 k3 k4 k5 k6
  by_cases hneg:(Pl.gW L (Pl.tip y e)).goes<0
  ·have d:decide ((Pl.gW L (Pl.tip y e)).goes<0)=true:=dec_t hneg
   have P:=Lib.hid (LG.out.trans (if_pos hneg))
   clear hneg
   go_wp2_with fail
   go_ret
   exact LackGives.mk _ P.out rfl BF.out
  ·have d:decide ((Pl.gW L (Pl.tip y e)).goes<0)=false:=dec_f hneg
   have P:=Lib.hid (LG.out.trans (if_neg hneg))
   clear hneg
   go_wp2_with fail
   go_ret
   exact LackGives.mk _ P.out rfl BF.out
def draftCells (M:List It.Itm) (vS vG:Value):Array Value :=
 #[.bool false,.bool (toldB M 1),.bool (toldB M 2),.bool (toldB M 3),.bool (toldB M 4),.int .i64 0,.int .i64 (Pl.num M 1),.int .i64 (Pl.num M 2),.int .i64 (Pl.num M 3),.int .i64 (Pl.num M 4),vS,vG]
def DrX (tD tS tG:TypeId) (w:World) (g:Nat) (M:List It.Itm) (vS vG:Value) (LS:List Pl.Sec) (LG:List Pl.Sig):Prop :=
 w.heap[g]? = some (.cells (draftCells M vS vG) tD (0,0))∧w.ownsRow (g+1) tS LSec.m vS LS.length (LSec.all LS)∧w.ownsRow (g+1) tG LSig.m vG LG.length (LSig.all LG)∧∀ k,vS.ownBlock=some k→vG.ownBlock≠some k
def DrAt (tD tS tG:TypeId) (w:World) (g:Nat) (M:List It.Itm):Prop:=∃ vS vG,DrX tD tS tG w g M vS vG (Pl.dS M) (Pl.wG M)
theorem DrX.below {tD tS tG:TypeId} {w w':World} {g:Nat} {M:List It.Itm} {vS vG:Value} {LS:List Pl.Sec} {LG:List Pl.Sig} (h:DrX tD tS tG w g M vS vG LS LG) (hb:Below w.heap.size w w'):DrX tD tS tG w' g M vS vG LS LG:=by
 obtain ⟨h1,h2,h3,h4⟩:=h
 exact ⟨(hb.block _ (Array.getElem?_eq_some_iff.1 h1).1).trans h1,ownsRow_below h2 hb,ownsRow_below h3 hb,h4⟩
theorem DrAt.below {tD tS tG:TypeId} {w w':World} {g:Nat} {M:List It.Itm} (h:DrAt tD tS tG w g M) (hb:Below w.heap.size w w'):DrAt tD tS tG w' g M:=by
 obtain ⟨vS,vG,h⟩:=h
 exact ⟨vS,vG,h.below hb⟩
theorem DrX.drew {tD tS tG:TypeId} {w:World} {g:Nat} {M:List It.Itm} {vS vG:Value} {LS:List Pl.Sec} {LG:List Pl.Sig} (h:DrX tD tS tG w g M vS vG LS LG):DrX tD tS tG w.drew g M vS vG LS LG :=
 ⟨h.1,h.2.1.drew,h.2.2.1.drew,h.2.2.2⟩
theorem draft_row {w:World} {g:Nat} {t:TypeId} {M:List It.Itm} {vS vG:Value} (h:w.heap[g]? = some (.cells (draftCells M vS vG) t (0,0))) :
 (w.cell? ⟨g,1,none⟩ = some (.bool (toldB M 1))∧w.cell? ⟨g,2,none⟩ = some (.bool (toldB M 2))∧w.cell? ⟨g,3,none⟩ = some (.bool (toldB M 3))∧w.cell? ⟨g,4,none⟩ = some (.bool (toldB M 4))) ∧
 (w.cell? ⟨g,6,none⟩ = some (.int .i64 (Pl.num M 1))∧w.cell? ⟨g,7,none⟩ = some (.int .i64 (Pl.num M 2))∧w.cell? ⟨g,8,none⟩ = some (.int .i64 (Pl.num M 3))∧w.cell? ⟨g,9,none⟩ = some (.int .i64 (Pl.num M 4))) ∧
 (w.cell? ⟨g,10,none⟩ = some vS∧w.cell? ⟨g,11,none⟩ = some vG)∧(∀ j,w.frozen? ⟨g,j,none⟩ = false)∧g<w.heap.size :=
 ⟨⟨cell_of_row w g 1 _ t _ h,cell_of_row w g 2 _ t _ h,cell_of_row w g 3 _ t _ h,cell_of_row w g 4 _ t _ h⟩,
   ⟨cell_of_row w g 6 _ t _ h,cell_of_row w g 7 _ t _ h,cell_of_row w g 8 _ t _ h,cell_of_row w g 9 _ t _ h⟩,
   ⟨cell_of_row w g 10 _ t _ h,cell_of_row w g 11 _ t _ h⟩,fun j=>frozen_of_row w g j _ t h,(Array.getElem?_eq_some_iff.1 h).1⟩
theorem DrX.store {tD tS tG:TypeId} {w:World} {g gb n cap:Nat} {M:List It.Itm} {vG:Value} {LS:List Pl.Sec} {LG:List Pl.Sig} (h:DrX tD tS tG w g M (.slice (some ⟨gb,0,none⟩) n cap) vG LS LG) {i j:Nat} {s:Pl.Sec} (hs:LS[i]? = some s) (hj:j<12) (F:Pl.Sec→Pl.Sec) (u:Value) (hu:(secCells s).set j u=secCells (F s)) :
 DrX tD tS tG (w.setCell ⟨gb,i * 12+j,none⟩ u) g M (.slice (some ⟨gb,0,none⟩) n cap) vG (LS.modify i F) LG:=by
 obtain ⟨h1,h2,h3,h4⟩:=h
 have hn:n=LS.length:=by
  rcases h2.2 with ⟨h,_⟩ | ⟨g',cap',cur,h,_⟩
  ·cases h
  ·cases h;rfl
 subst hn
 have hgb:=h2.lt gb rfl
 have hne:gb≠g:=by omega
 refine ⟨?_,?_,?_,h4⟩
 ·rw[heap_setCell_other _ ⟨gb,i * 12+j,none⟩ g u (by simpa using fun e=>hne e.symm)];exact h1
 ·have:=(h2.stored (i * 12+j) u).1
  rw [all_modify LS i j F s hs hj u hu] at this
  rw [List.length_modify]
  exact this
 ·refine own_kept h3 fun b hb=>heap_setCell_other _ ⟨gb,i * 12+j,none⟩ b u ?_
  have:=h4 gb rfl
  simpa using fun e=>this (by rw[hb,e])
theorem DrX.slice {tD tS tG:TypeId} {w:World} {g:Nat} {M:List It.Itm} {vS vG:Value} {LS:List Pl.Sec} {LG:List Pl.Sig} (h:DrX tD tS tG w g M vS vG LS LG) (hn:0<LS.length):∃ gb cap,vS=.slice (some ⟨gb,0,none⟩) LS.length cap:=by
 obtain ⟨gb,cap,e,_⟩:=h.2.1.form hn
 exact ⟨gb,cap,e⟩
theorem DrX.reads {tD tS tG:TypeId} {w:World} {g gb n cap:Nat} {M:List It.Itm} {vG:Value} {LS:List Pl.Sec} {LG:List Pl.Sig} (h:DrX tD tS tG w g M (.slice (some ⟨gb,0,none⟩) n cap) vG LS LG) {i e:Nat} {s:Pl.Sec} (hs:LS[i]? = some s) (he:e<3) :
 w.cell? ⟨g,10,none⟩ = some (.slice (some ⟨gb,0,none⟩) n cap)∧w.cell? ⟨gb,i * 12+3+e * 3,none⟩ = some (.int .i64 (s.get e).goes)∧w.cell? ⟨gb,i * 12+3+e * 3+1,none⟩ = some (.int .i64 (s.get e).at_)∧w.cell? ⟨gb,i * 12+3+e * 3+2,none⟩ = some (.int .i64 (s.get e).sig) ∧
  (∀ o,w.frozen? ⟨gb,o,none⟩ = false)∧g<w.heap.size∧gb<w.heap.size∧g<gb∧n=LS.length∧i<n:=by
 obtain ⟨h1,h2,h3,h4⟩:=h
 have hn:n=LS.length:=by
  rcases h2.2 with ⟨h,_⟩ | ⟨g',cap',cur,h,_⟩
  ·cases h
  ·cases h;rfl
 subst hn
 have on:=Lies.own_on h2 hs
 have hgb:=h2.lt gb rfl
 exact ⟨(draft_row h1).2.2.1.1,on_to on he,on_at on he,on_sig on he,fun o=>h2.frozenAt o,(draft_row h1).2.2.2.2,hgb.2,by omega,rfl,(List.getElem?_eq_some_iff.1 hs).1⟩
theorem draft_keep {M:List It.Itm} {x:It.Itm} (h:It.isNum x.k=false) (vS vG:Value):draftCells (M++[x]) vS vG=draftCells M vS vG:=by
 have hk:∀ k:Int,1≤k→k≤4→x.k≠k:=fun k h1 h2 e=>by
  unfold It.isNum at h
  exact absurd (show 1≤x.k∧x.k≤4 by omega) (of_decide_eq_false h)
 have n1:=hk 1 (by decide) (by decide)
 have n2:=hk 2 (by decide) (by decide)
 have n3:=hk 3 (by decide) (by decide)
 have n4:=hk 4 (by decide) (by decide)
 simp [draftCells,toldB_snoc,Pl.num_other n1,Pl.num_other n2,Pl.num_other n3,Pl.num_other n4,n1,n2,n3,n4]
section
variable {α : Type} (E : Lies α)
theorem Lies.made (z:α) (zs:Array Value) (hz:zs=(E.enc z).toArray) (n:Nat):madeCells zs (n * E.m)=(E.all (List.replicate n z)).toArray:=by
 apply Array.toList_inj.1
 apply List.ext_getElem?
 intro i
 have hs:zs.size=E.m:=by rw[hz];simp [E.len]
 by_cases hi:i<n * E.m
 ·have hp:=E.pos
  have hk:i / E.m<n:=(Nat.div_lt_iff_lt_mul hp).2 hi
  have e:=E.all_at (List.replicate n z) (i / E.m) (i % E.m) z (by simp [hk]) (Nat.mod_lt _ hp)
  have hj:i / E.m * E.m+i % E.m=i:=by rw[Nat.mul_comm];exact Nat.div_add_mod i E.m
  rw [hj] at e
  rw [e]
  have hm:i % E.m<zs.size:=by rw[hs];exact Nat.mod_lt _ hp
  unfold madeCells
  rw [hs]
  subst hz
  simp only [Array.toList_map,Array.toList_range,List.getElem?_map]
  rw [List.getElem?_eq_getElem (by simpa using hi)]
  simp only [List.getElem_range,Option.map_some]
  have hm':i % E.m<(E.enc z).length:=by rw[E.len];exact Nat.mod_lt _ hp
  rw [List.getElem?_eq_getElem hm']
  simp [hm']
 ·rw[List.getElem?_eq_none (by simp [size_madeCells];omega),List.getElem?_eq_none (by simp [E.all_len];omega)]
variable {P : Program}
theorem run_make_k (y:α) (t e:TypeId) (z:Value) (bytes:Nat) (ht:P.underlying t=some (.slice e)) (hinfo:(P.info? e).map (fun i=>(i.zero,i.size,i.bytes))=some (some z,E.m,bytes)) (hz1:z.cells=(E.enc y).toArray)
 (kl kc:IntKind) (n:Nat) (hbytes:bytes * n≤281474976710656) (h63:n≤9223372036854775807) (w:World) :
 (Instr.makeSlice t (.int kl (n:Int)) (.int kc (n:Int))).run P w=.ok (.slice (some ⟨w.heap.size,0,none⟩) n n) (w.alloc (.cells (E.all (List.replicate n y)).toArray e)):=by
 obtain ⟨i,hi,hzz⟩:=Option.map_eq_some_iff.1 hinfo
 simp only [Prod.mk.injEq] at hzz
 obtain ⟨hz,hs,hb⟩:=hzz
 have hb':(i.bytes:Int) * (n:Int)≤281474976710656:=by
  have h:((i.bytes * n:Nat):Int)≤281474976710656:=by rw[hb];omega
  rwa [Int.natCast_mul] at h
 have hr:=run_make (P:=P) w t e i z ht hi hz kl kc n n (by omega) (Int.le_refl _) hb' (by omega)
 simp only [Int.toNat_natCast,hs] at hr
 rw [E.made y _ hz1] at hr
 exact hr
theorem Lies.all_split (X:List α) (k:Nat) (y:α) (hk:k<X.length):(E.all X).take (k * E.m)++E.enc y++(E.all X).drop (k * E.m+E.m)=E.all (X.set k y):=by
 have h1:X=X.take k++X[k] :: X.drop (k+1):=by simp
 have e1:E.all X=E.all (X.take k)++(E.enc X[k]++E.all (X.drop (k+1))):=by rw[← E.all_cons,← E.all_append,← h1]
 have l1:(E.all (X.take k)).length=k * E.m:=by rw[E.all_len,List.length_take,Nat.min_eq_left (by omega)]
 have e2:X.set k y=X.take k++y :: X.drop (k+1):=by rw[List.set_eq_take_append_cons_drop,if_pos hk]
 rw [e2,E.all_append,E.all_cons,e1,List.take_append_of_le_length (by omega),List.take_of_length_le (by omega),List.append_assoc]
 congr 2
 rw [← l1,List.drop_append,List.drop_of_length_le (by omega)]
 rw [show (E.all (X.take k)).length+E.m - (E.all (X.take k)).length=(E.enc X[k]).length by rw[E.len];omega,List.nil_append]
 exact List.drop_left
end
def setCells (w:World) (g o:Nat):List Value→World
 | []=>w
 | v :: vs=>setCells (w.setCell ⟨g,o,none⟩ v) g (o+1) vs
theorem setCells_other (g b:Nat) (h:b≠g):∀ (vs:List Value) (o:Nat) (w:World),(setCells w g o vs).heap[b]? = w.heap[b]?
 | [],_,_=>rfl
 | v :: vs,o,w=>by rw[setCells,setCells_other g b h vs,heap_setCell_other _ _ _ _ (by simpa using h)]
theorem setCells_below {B g:Nat} (hB:B≤g) {w0:World}:∀ (vs:List Value) (o:Nat) (w:World),Below B w0 w→Below B w0 (setCells w g o vs)
 | [],_,_,h=>h
 | v :: vs,o,_,h=>setCells_below hB vs (o+1) _ (h.setCell (p:=⟨g,o,none⟩) hB v)
theorem setCells_row (g:Nat) (ty:TypeId):∀ (vs:List Value) (o:Nat) (cur:List Value) (w:World),w.heap[g]? = some (.cells cur.toArray ty (0,0))→o+vs.length≤cur.length →
 (setCells w g o vs).heap[g]? = some (.cells (cur.take o++vs++cur.drop (o+vs.length)).toArray ty (0,0))
 | [],o,cur,w,h,_=>by simpa [setCells] using h
 | v :: vs,o,cur,w,h,hl=>by
   have hl':o+(vs.length+1)≤cur.length:=by simpa using hl
   have h1:(w.setCell ⟨g,o,none⟩ v).heap[g]? = some (.cells (cur.set o v).toArray ty (0,0)):=by
    rw [heap_setCell_same _ _ _ _ _ _ h];simp
   rw [setCells,setCells_row g ty vs (o+1) (cur.set o v) _ h1 (by rw[List.length_set];omega)]
   congr 3
   have e1:(cur.set o v).take (o+1)=cur.take o++[v]:=by
    rw [List.take_succ_eq_append_getElem (by rw[List.length_set];omega),List.getElem_set_self,List.take_set_of_le (Nat.le_refl o)]
   have e2:(cur.set o v).drop (o+1+vs.length)=cur.drop (o+(v :: vs).length):=by
    rw [List.drop_set_of_lt (by omega),List.length_cons];congr 1;omega
   rw [e1,e2];simp
theorem setCells_elem {α:Type} (E:Lies α) {w:World} {g:Nat} {ty:TypeId} {X:List α} (h:w.heap[g]? = some (.cells (E.all X).toArray ty (0,0))) {k:Nat} (hk:k<X.length) (y:α) :
 (setCells w g (k * E.m) (E.enc y)).heap[g]? = some (.cells (E.all (X.set k y)).toArray ty (0,0)):=by
 have hle:k * E.m+E.m≤X.length * E.m:=by
  have:=Nat.mul_le_mul_right E.m (show k+1≤X.length by omega)
  rwa [Nat.succ_mul] at this
 rw [setCells_row g ty _ _ _ _ h (by rw[E.len,E.all_len];exact hle),E.len,E.all_split X k y hk]
theorem row_on {α:Type} {E:Lies α} {w:World} {g:Nat} {X:List α} {ty:TypeId} (h:w.heap[g]? = some (.cells (E.all X).toArray ty (0,0))) {k:Nat} {y:α} (hk:X[k]? = some y):E.On w g (k * E.m) y:=fun j v hj=>by
 have hjl:j<E.m:=by
  have:=(List.getElem?_eq_some_iff.1 hj).1
  rwa [E.len] at this
 rw [cell_of_row w g _ _ ty _ h,List.getElem?_toArray,E.all_at X k j y hk hjl];exact hj
theorem row_made {α:Type} {E:Lies α} {w:World} {g:Nat} {X:List α} {ty:TypeId} (h:w.heap[g]? = some (.cells (E.all X).toArray ty (0,0))):E.Row w (some ⟨g,0,none⟩) X :=
 .inr ⟨g,0,rfl,(Array.getElem?_eq_some_iff.1 h).1,fun k y hk=>by rw[Nat.zero_add];exact row_on h hk⟩
open Go.RowKit
theorem heap_sec {w:World} {g:Nat} {t:Pl.Sec} {ty:TypeId} (h:w.heap[g]? = some (.cells (secCells t).toArray ty (0,0))):LSec.On w g 0 t:=fun j v hj=>by
 rw [Nat.zero_add,cell_of_row w g j _ ty _ h,List.getElem?_toArray];exact hj
theorem set_sec {w:World} {g j:Nat} {t u:Pl.Sec} {ty:TypeId} {v:Value} (h:w.heap[g]? = some (.cells (secCells t).toArray ty (0,0))) (hu:(secCells t).set j v=secCells u):(w.setCell ⟨g,j,none⟩ v).heap[g]? = some (.cells (secCells u).toArray ty (0,0)):=by
 rw [heap_setCell_same _ _ _ _ _ _ h,← hu]
 simp
def SpotGives (L:List Pl.Sec) (t:It.Tp) (w:World) (e:Ending) (w':World):Prop:=e=.returned (.tuple #[.agg #[.int .i64 (endI L t).1,.int .i64 (endI L t).2.1],.int .i64 (endI L t).2.2])∧Below w.heap.size w w'
theorem SpotGives.mk {L:List Pl.Sec} {t:It.Tp} {w w':World} {e:Ending} (a b c:Int) (h:endI L t=(a,b,c)) (he:e=.returned (.tuple #[.agg #[.int .i64 a,.int .i64 b],.int .i64 c])) (hb:Below w.heap.size w w'):SpotGives L t w e w':=by
 refine ⟨?_,hb⟩
 rw [h];exact he
def UnusedGives (L:List Pl.Sec) (t:It.Tp) (w:World) (x:Ending) (w':World):Prop:=∃ a b c,x=.returned (.tuple #[.agg #[.int .i64 a,.int .i64 b],.int .i64 c])∧FreeIs L t (a,b,c)∧Below w.heap.size w w'
theorem UnusedGives.mk {L:List Pl.Sec} {t:It.Tp} {w w':World} {x:Ending} (a b c:Int) (h:FreeIs L t (a,b,c)) (he:x=.returned (.tuple #[.agg #[.int .i64 a,.int .i64 b],.int .i64 c])) (hb:Below w.heap.size w w'):UnusedGives L t w x w':=⟨a,b,c,he,h,hb⟩
theorem two_blocks (w:World) (a b:Obj):((w.alloc a).alloc b).heap[w.heap.size]? = some a∧((w.alloc a).alloc b).heap[w.heap.size+1]? = some b∧Below w.heap.size w ((w.alloc a).alloc b)∧((w.alloc a).alloc b).heap.size=w.heap.size+2:=by
 have s1:(w.alloc a).heap.size=w.heap.size+1:=by simp
 refine ⟨?_,?_,((Below.refl _ _).alloc (Nat.le_refl _) _).alloc (by omega) _,by simp⟩
 ·rw[heap_alloc_old _ _ (by omega)];exact heap_alloc_new _ _
 ·rw[← s1];exact heap_alloc_new _ _
def SpotLoop (tt ts tS:TypeId) (w:World) (gs:Nat) (s:Pl.Sec) (t:It.Tp) (wr:World):Prop :=
 Below w.heap.size w wr∧wr.heap[w.heap.size]? = some (.cells #[.string (txt t.n),.int .u8 t.c.toNat] tt (0,0))∧wr.heap[w.heap.size+1]? = some (.cells #[.int .i64 0,.int .i64 0] ts (0,0))∧wr.heap[gs]? = some (.cells (secCells s).toArray tS (0,0))
theorem SpotLoop.start {tt ts:TypeId} {w w':World} {t:It.Tp} (hb:Below w.heap.size w w') (h0:w'.heap[w.heap.size]? = some (.cells #[.string (txt t.n),.int .u8 t.c.toNat] tt (0,0))) (h1:w'.heap[w.heap.size+1]? = some (.cells #[.int .i64 0,.int .i64 0] ts (0,0))) (s:Pl.Sec) (tS:TypeId) :
 SpotLoop tt ts tS w w'.heap.size s t (w'.alloc (.cells (secCells s).toArray tS)) :=
 ⟨hb.alloc hb.size _,(heap_alloc_old _ _ (Array.getElem?_eq_some_iff.1 h0).1).trans h0,(heap_alloc_old _ _ (Array.getElem?_eq_some_iff.1 h1).1).trans h1,heap_alloc_new _ _⟩
theorem SpotLoop.drewN {tt ts tS:TypeId} {w wr:World} {gs:Nat} {s:Pl.Sec} {t:It.Tp} (h:SpotLoop tt ts tS w gs s t wr) (n:Nat):SpotLoop tt ts tS w gs s t (wr.drewN n):=⟨below_drewN h.1 n,h.2⟩
theorem SpotLoop.drew {tt ts tS:TypeId} {w wr:World} {gs:Nat} {s:Pl.Sec} {t:It.Tp} (h:SpotLoop tt ts tS w gs s t wr):SpotLoop tt ts tS w gs s t wr.drew:=⟨h.1.drew,h.2⟩
theorem DrAt.row {tD tS tG:TypeId} {w w':World} {g:Nat} {M K:List It.Itm} {vS vG:Value} {LS:List Pl.Sec} {LG:List Pl.Sig} (h:DrX tD tS tG w g M vS vG LS LG)
 (hrow:w'.heap[g]? = some (.cells (draftCells K vS vG) tD (0,0))) (hk:∀ b,b≠g→b<w.heap.size→w'.heap[b]? = w.heap[b]?) (e1:Pl.dS K=LS) (e2:Pl.wG K=LG):DrAt tD tS tG w' g K:=by
 obtain ⟨-,hS,hG,hap⟩:=h
 refine ⟨vS,vG,hrow,?_,?_,hap⟩
 ·rw [e1]
  refine ⟨hS.1,?_⟩
  rcases hS.2 with hn | ⟨b,cap,cur,rfl,hbb,hgg,rest⟩
  ·exact .inl hn
  ·exact .inr ⟨b,cap,cur,rfl,hbb,by rw[hk b (by omega) (Array.getElem?_eq_some_iff.1 hgg).1];exact hgg,rest⟩
 ·rw [e2]
  refine ⟨hG.1,?_⟩
  rcases hG.2 with hn | ⟨b,cap,cur,rfl,hbb,hgg,rest⟩
  ·exact .inl hn
  ·exact .inr ⟨b,cap,cur,rfl,hbb,by rw[hk b (by omega) (Array.getElem?_eq_some_iff.1 hgg).1];exact hgg,rest⟩
theorem DrX.sections {tD tS tG:TypeId} {w w1 w2:World} {g:Nat} {M:List It.Itm} {x:It.Itm} {s:Pl.Sec} {vS vG v':Value} {g' cap':Nat} (h:DrX tD tS tG w g M vS vG (Pl.dS M) (Pl.wG M))
 (hb:Below w.heap.size w w1) (hgr:w1.grownBy w2 vS.ownBlock) (hv:v'=.slice (some ⟨g',0,none⟩) ((Pl.dS M).length+1) cap') (hown:w2.ownsRow (g+1) tS LSec.m v' ((Pl.dS M).length+1) (LSec.all (Pl.dS M)++LSec.enc s)) (hg':vS.ownBlock=some g'∨w.heap.size≤g')
 (hk:It.isNum x.k=false) (e1:Pl.dS (M++[x])=Pl.dS M++[s]) (e2:Pl.wG (M++[x])=Pl.wG M):DrAt tD tS tG (w2.setCell ⟨g,10,none⟩ v') g (M++[x])∧Below g w (w2.setCell ⟨g,10,none⟩ v'):=by
 obtain ⟨hrow,hS,hG,hap⟩:=h
 have hg:=(Array.getElem?_eq_some_iff.1 hrow).1
 have hbs:=hb.size
 have hne:some g≠vS.ownBlock:=fun e=>by have:=(hS.lt g e.symm).1;omega
 have row2:w2.heap[g]? = some (.cells (draftCells M vS vG) tD (0,0)):=by rw[hgr.block g (by omega) hne,hb.block g hg];exact hrow
 refine ⟨⟨v',vG,?_,?_,?_,?_⟩,?_⟩
 ·rw[heap_setCell_same _ _ _ _ _ _ row2,draft_keep hk];rfl
 ·rw [e1,List.length_append,List.length_singleton,LSec.all_append,LSec.all_one]
  exact ownsRow_setCell_below hown (a:=⟨g,10,none⟩) (by show g<g+1;omega) v'
 ·rw [e2]
  refine ownsRow_setCell_below (own_kept hG fun b hb'=>?_) (a:=⟨g,10,none⟩) (by show g<g+1;omega) v'
  have hlt:=(hG.lt b hb').2
  rw [hgr.block b (by omega) (fun e=>hap b e.symm hb'),hb.block b hlt]
 ·subst hv
  intro k hk1 hk2
  have:g'=k:=by simpa [Value.ownBlock] using hk1
  subst this
  rcases hg' with h | h
  ·exact hap g' h hk2
  ·have:=(hG.lt g' hk2).2;omega
 ·have hb':Below g w w1:=hb.mono (Nat.le_of_lt hg)
  exact (hb'.grown hgr (by omega) (fun k hk=>by have:=(hS.lt k hk).1;omega)).setCell (Nat.le_refl _) _
theorem DrX.signals {tD tS tG:TypeId} {w w1 w2:World} {g:Nat} {M:List It.Itm} {vS vG v':Value} {LS:List Pl.Sec} {LG:List Pl.Sig} {z:Pl.Sig} {g' cap':Nat} (h:DrX tD tS tG w g M vS vG LS LG)
 (hb:Below w.heap.size w w1) (hgr:w1.grownBy w2 vG.ownBlock) (hv:v'=.slice (some ⟨g',0,none⟩) (LG.length+1) cap') (hown:w2.ownsRow (g+1) tG LSig.m v' (LG.length+1) (LSig.all LG++LSig.enc z)) (hg':vG.ownBlock=some g'∨w.heap.size≤g') :
 DrX tD tS tG (w2.setCell ⟨g,11,none⟩ v') g M vS v' LS (LG++[z])∧Below g w (w2.setCell ⟨g,11,none⟩ v'):=by
 obtain ⟨hrow,hS,hG,hap⟩:=h
 have hg:=(Array.getElem?_eq_some_iff.1 hrow).1
 have hbs:=hb.size
 have hne:some g≠vG.ownBlock:=fun e=>by have:=(hG.lt g e.symm).1;omega
 have row2:w2.heap[g]? = some (.cells (draftCells M vS vG) tD (0,0)):=by rw[hgr.block g (by omega) hne,hb.block g hg];exact hrow
 refine ⟨⟨?_,?_,?_,?_⟩,?_⟩
 ·rw[heap_setCell_same _ _ _ _ _ _ row2];rfl
 ·refine ownsRow_setCell_below (own_kept hS fun b hb'=>?_) (a:=⟨g,11,none⟩) (by show g<g+1;omega) v'
  have hlt:=(hS.lt b hb').2
  rw [hgr.block b (by omega) (fun e=>hap b hb' e.symm),hb.block b hlt]
 ·rw [List.length_append,List.length_singleton,LSig.all_append,LSig.all_one]
  exact ownsRow_setCell_below hown (a:=⟨g,11,none⟩) (by show g<g+1;omega) v'
 ·subst hv
  intro k hk1 hk2
  have:g'=k:=by simpa [Value.ownBlock] using hk2
  subst this
  rcases hg' with h | h
  ·exact hap g' hk1 h
  ·have:=(hS.lt g' hk1).2;omega
 ·have hb':Below g w w1:=hb.mono (Nat.le_of_lt hg)
  exact (hb'.grown hgr (by omega) (fun k hk=>by have:=(hG.lt k hk).1;omega)).setCell (Nat.le_refl _) _
def PlanAgg (p:Pl.Plan) (w:World) (e:Ending) (w':World):Prop :=
 ∃ A c A' c',p.secs.length≤c∧p.sigs.length≤c'∧e=.returned (.agg #[.int .i64 p.ov,.int .i64 p.ap,.int .i64 p.se,.int .i64 p.ho,.slice A p.secs.length c,.slice A' p.sigs.length c'])∧LSec.Row w' A p.secs∧LSig.Row w' A' p.sigs∧(∀ a,A=some a→w.heap.size≤a.block)∧(∀ a,A'=some a→w.heap.size≤a.block)∧Below w.heap.size w w'
theorem row_far {α:Type} {E:Lies α} {w:World} {A:Option Addr} {L:List α} (h:E.Row w A L) (p:Addr) (v:Value) (hp:∀ a,A=some a→p.block<a.block):E.Row (w.setCell p v) A L:=by
 rcases h with h | ⟨b,o,hA,hlt,h⟩
 ·exact .inl h
 ·exact .inr ⟨b,o,hA,by simpa using hlt,fun k y hk j u hu=>by rw[World.cell?_setCell_far _ _ _ _ (Nat.ne_of_lt (show p.block<b from hp _ hA))];exact h k y hk j u hu⟩
def SortedOk:Prop:=∀ (L:List It.Itm) (w:World) (A A':Option Addr) (c c':Nat),Pl.Ok L→LSec.Row w A (Pl.wS L)→LSig.Row w A' (Pl.wG L) →
 Calls Tryz.prog 46 #[.agg #[.int .i64 (Pl.num L 1),.int .i64 (Pl.num L 2),.int .i64 (Pl.num L 3),.int .i64 (Pl.num L 4),.slice A (Pl.wS L).length c,.slice A' (Pl.wG L).length c']] w (PlanAgg (Pl.fin L) w)
def FitsR (y:It.Itm):Prop:=y.n≤9223372036854775807∧y.name.length≤1000∧y.e0.n.length≤1000∧y.e1.n.length≤1000
theorem rpRight_y (y:It.Itm) (w:World) (h:FitsR y) :
 Calls Tryz.prog 43 #[itemV y] w fun e w'=>e=.returned (.bool (It.right y))∧Below w.heap.size w w':=by
 have:=riright_any y.k (txt y.name) y.n (txt y.e0.n) y.e0.c (txt y.e1.n) y.e1.c w h.1 (by rw[txt_size];exact h.2.1) (by rw[txt_size];exact h.2.2.1) (by rw[txt_size];exact h.2.2.2)
 rwa [ofV_txt] at this
theorem PlanGives.from {p:Pl.Plan × Int × Nat} {q:Pl.Plan} {w w':World} {e:Ending} {A A':Option Addr} {c c':Nat} (hp:p=(q,0,0)) (h1:q.secs.length≤c) (h2:q.sigs.length≤c')
 (he:e=.returned (.tuple #[.agg #[.int .i64 q.ov,.int .i64 q.ap,.int .i64 q.se,.int .i64 q.ho,.slice A q.secs.length c,.slice A' q.sigs.length c'],.agg #[.int .i64 0,.int .i64 0]])) (hS:LSec.Row w' A q.secs) (hG:LSig.Row w' A' q.sigs) (hb:Below w.heap.size w w'):PlanGives p w e w':=by
 subst hp
 exact ⟨A,c,A',c',h1,h2,he,hS,hG,hb⟩
theorem errAt_take' {L:List It.Itm} {k:Nat} (hk:k<L.length):Pl.errAt L k=Pl.lineErr (L.take k) L[k]:=by
 unfold Pl.errAt
 rw [List.getElem?_eq_getElem hk];rfl
theorem lackAt_eq {L:List It.Itm} {k:Nat} (hk:k<L.length):Pl.lackAt L k=Pl.lackErr L L[k]:=by
 unfold Pl.lackAt
 rw [List.getElem?_eq_getElem hk];rfl
theorem build_line_at {L:List It.Itm} {k:Nat} {e:Int} (hk:k<L.length) (hO:Pl.Ok (L.take k)) (he:Pl.lineErr (L.take k) L[k]=e) (h0:e≠0):Pl.build L=(Pl.Plan.zero,e,k+1):=by
 refine Pl.build_at hk ((errAt_take' hk).trans he) h0 fun j hj=>?_
 have:=(Pl.ok_iff _).2 hO j (by rw[List.length_take];omega)
 rwa [Pl.errAt_take hj (by omega)] at this
theorem build_lack_at {L:List It.Itm} {k:Nat} {e:Int} (hk:k<L.length) (hO:Pl.Ok L) (he:Pl.lackErr L L[k]=e) (h0:e≠0) (hj:∀ j<k,Pl.lackAt L j=0):Pl.build L=(Pl.Plan.zero,e,k+1):=by
 unfold Pl.build
 rw [Pl.firstE_none.2 ((Pl.ok_iff L).2 hO)]
 simp only
 rw [Pl.firstE_some.2 ⟨hk,by rw[lackAt_eq hk,he];exact h0,hj⟩]
 simp only [lackAt_eq hk,he]
theorem build_all {L:List It.Itm} (hO:Pl.Ok L) (hj:∀ j<L.length,Pl.lackAt L j=0):Pl.build L=(Pl.fin L,0,0) :=
 Pl.build_ok hO fun x hx=>by
  obtain ⟨j,hjl,rfl⟩:=List.getElem_of_mem hx
  rw [← lackAt_eq hjl];exact hj j hjl
theorem row6 {w:World} {g:Nat} {a b c d e f:Value} {t:TypeId} (h:w.heap[g]? = some (.cells #[a,b,c,d,e,f] t (0,0))) :
 (w.cell? ⟨g,0,none⟩ = some a∧w.cell? ⟨g,1,none⟩ = some b∧w.cell? ⟨g,2,none⟩ = some c∧w.cell? ⟨g,3,none⟩ = some d∧w.cell? ⟨g,4,none⟩ = some e∧w.cell? ⟨g,5,none⟩ = some f) ∧
 (w.frozen? ⟨g,0,none⟩ = false∧w.frozen? ⟨g,1,none⟩ = false∧w.frozen? ⟨g,2,none⟩ = false∧w.frozen? ⟨g,3,none⟩ = false∧w.frozen? ⟨g,4,none⟩ = false∧w.frozen? ⟨g,5,none⟩ = false)∧g<w.heap.size :=
 ⟨⟨cell_of_row w g 0 _ t _ h,cell_of_row w g 1 _ t _ h,cell_of_row w g 2 _ t _ h,cell_of_row w g 3 _ t _ h,cell_of_row w g 4 _ t _ h,cell_of_row w g 5 _ t _ h⟩,
   ⟨frozen_of_row w g 0 _ t h,frozen_of_row w g 1 _ t h,frozen_of_row w g 2 _ t h,frozen_of_row w g 3 _ t h,frozen_of_row w g 4 _ t h,frozen_of_row w g 5 _ t h⟩,(Array.getElem?_eq_some_iff.1 h).1⟩
theorem three_allocs (w:World) (a b c:Obj):(((w.alloc a).alloc b).alloc c).heap[w.heap.size]? = some a∧(((w.alloc a).alloc b).alloc c).heap[w.heap.size+1]? = some b∧(((w.alloc a).alloc b).alloc c).heap[w.heap.size+2]? = some c∧Below w.heap.size w (((w.alloc a).alloc b).alloc c):=by
 have s1:(w.alloc a).heap.size=w.heap.size+1:=by simp
 have s2:((w.alloc a).alloc b).heap.size=w.heap.size+2:=by simp
 refine ⟨?_,?_,?_,(((Below.refl _ _).alloc (Nat.le_refl _) _).alloc (by omega) _).alloc (by omega) _⟩
 ·rw[heap_alloc_old _ _ (by omega),heap_alloc_old _ _ (by omega)];exact heap_alloc_new _ _
 ·rw[heap_alloc_old _ _ (by omega),← s1];exact heap_alloc_new _ _
 ·rw[← s2];exact heap_alloc_new _ _
theorem rpBuild_any (HSrt:SortedOk) (A:Option Addr) (c:Nat) (L:List It.Itm) (w:World) (h:Its w A L) (hl:L.length≤100000) (hf:∀ y∈L,FitsR y) :
 Calls Tryz.prog 20 #[.slice A L.length c] w (PlanGives (Pl.build L) w):=by
 have HF:=Lib.hid hf
 have HI:=Lib.hid h
 have HSr:=Lib.hid HSrt
 clear hf h HSrt
 go_enter Tryz.func20,Tryz.ntmps20
 go_wp2_with fail
 go_loopw [5] (fun v wr=>∃ k:Nat,k≤L.length∧v=.int .i64 k∧Pl.Ok (L.take k)∧WorkAt 99 59 61 wr (w.heap.size+2) (L.take k)∧wr.heap[w.heap.size]? = some (.cells #[.int .i64 0,.int .i64 0,.int .i64 0,.int .i64 0,.slice none 0 0,.slice none 0 0] 25 (0,0))∧wr.heap[w.heap.size+1]? = some (.cells #[.int .i64 0,.int .i64 0] 49 (0,0))∧Below w.heap.size w wr) (fun v _=>L.length - (intOf v).toNat)
 case atStart =>
  refine ⟨0,Nat.zero_le _,rfl,Pl.Ok.nil,⟨.slice none 0 0,.slice none 0 0,?_,World.ownsRow_nil _ _ _ _,World.ownsRow_nil _ _ _ _,fun k hk=>by simp [Value.ownBlock] at hk⟩,?_,?_,?_⟩
  ·exact (three_allocs w _ _ _).2.2.1
  ·exact (three_allocs w _ _ _).1
  ·exact (three_allocs w _ _ _).2.1
  ·exact (three_allocs w _ _ _).2.2.2
 case round =>
  obtain ⟨k,hk,rfl,hO,hW,hP,hFt,hbel⟩:=hrel
  by_cases hlt:k<L.length
  ·obtain ⟨b,o,rfl,hb,i7⟩:=(HI.out.below rfl hbel).at hlt
   obtain ⟨a0,a1,a2,a3,a4,a5,a6⟩:=i7.cells
   clear i7
   have RC:=Lib.hid (rpRight_y L[k] wr (HF.out _ (List.getElem_mem hlt)))
   have TK:=Lib.hid (show L.take (k+1)=L.take k++[L[k]] by rw[List.take_succ_eq_append_getElem hlt])
   have hz:=hbel.size
   cases hr:It.right L[k]
   ·rw [hr] at RC
    have P:=Lib.hid (build_line_at hlt hO ((Pl.lineErr_2 _ _).2 hr) (by decide))
    have HP:=Lib.hid hP
    have HFt:=Lib.hid hFt
    have HB:=Lib.hid hbel
    clear hr hO hW hP hFt hbel TK
    go_wp2_with fail
    refine RC.out.mono ?_;rintro e w1 ⟨rfl,hb1⟩
    obtain ⟨⟨p0,p1,p2,p3,p4,p5⟩,⟨f0,f1,f2,f3,f4,f5⟩,gp⟩:=row6 (stay_row HP.out hb1)
    obtain ⟨⟨q0,q1⟩,⟨e0,e1⟩,gq⟩:=row2f (stay_row HFt.out hb1)
    have BF:=Lib.hid (HB.out.trans (hb1.mono hz))
    clear hb1
    go_wp2_with fail
    refine bodyPost_ret ?_ rfl (PlanGives.bad _ _ P.out rfl ?_)
    ·simp [results,Tryz.results20,go_sem, *]
    ·(repeat (with_reducible refine Below.setCell ?_ (by first | exact Nat.le_refl _ | exact Nat.le_succ _) _));exact BF.out
   ·rw [hr] at RC
    have HO:=Lib.hid hO
    have HW:=Lib.hid hW
    have HP:=Lib.hid hP
    have HFt:=Lib.hid hFt
    have HB:=Lib.hid hbel
    have HR:=Lib.hid hr
    clear hr hO hW hP hFt hbel
    go_wp2_with fail
    refine RC.out.mono ?_;rintro e w1 ⟨rfl,hb1⟩
    have LN:=Lib.hid (rpLine_any (w.heap.size+2) (L.take k) L[k] w1 (WorkL.below HW.out hb1) HO.out HR.out)
    have HP1:=Lib.hid (stay_row HP.out hb1)
    have HF1:=Lib.hid (stay_row HFt.out hb1)
    have HB1:=Lib.hid (HB.out.trans (hb1.mono hz))
    have c0:=hb1.cell (p:=⟨b,o+k * 7,none⟩) hb
    have c1:=hb1.cell (p:=⟨b,o+k * 7+1,none⟩) hb
    have c2:=hb1.cell (p:=⟨b,o+k * 7+2,none⟩) hb
    have c3:=hb1.cell (p:=⟨b,o+k * 7+3,none⟩) hb
    have c4:=hb1.cell (p:=⟨b,o+k * 7+4,none⟩) hb
    have c5:=hb1.cell (p:=⟨b,o+k * 7+5,none⟩) hb
    have c6:=hb1.cell (p:=⟨b,o+k * 7+6,none⟩) hb
    rw [a0] at c0
    rw [a1] at c1
    rw [a2] at c2
    rw [a3] at c3
    rw [a4] at c4
    rw [a5] at c5
    rw [a6] at c6
    clear hb1 a0 a1 a2 a3 a4 a5 a6
    generalize her:Pl.lineErr (L.take k) L[k]=er at LN
    go_wp2_with fail
    refine LN.out.mono ?_;rintro e w2 ⟨rfl,hnext,hb2⟩
    have hP2:=(hb2.block _ (by omega)).trans HP1.out
    have hF2:=(hb2.block _ (by omega)).trans HF1.out
    have BF:=Lib.hid (HB1.out.trans (hb2.mono (by omega)))
    by_cases h0:er=0
    ·have hO':=Lib.hid (show Pl.Ok (L.take (k+1)) by rw[TK.out];exact HO.out.snoc (her.trans h0))
     have hW':=Lib.hid (show WorkAt 99 59 61 w2 (w.heap.size+2) (L.take (k+1)) by rw[TK.out];exact hnext h0)
     have HP2:=Lib.hid hP2
     have HF2:=Lib.hid hF2
     subst h0
     clear hnext hb2 hP2 hF2 her c0 c1 c2 c3 c4 c5 c6
     go_wp2_with fail
     go_roundw
     case rel=>exact ⟨k+1,by omega,by go_num,hO'.out,hW'.out,HP2.out,HF2.out,BF.out⟩
     case measure=>simp [intOf];omega
    ·have hcn:(er != 0)=true:=by rw[bne_iff_ne];exact h0
     have P:=Lib.hid (build_line_at hlt HO.out her h0)
     obtain ⟨⟨p0,p1,p2,p3,p4,p5⟩,⟨f0,f1,f2,f3,f4,f5⟩,gp⟩:=row6 hP2
     obtain ⟨⟨q0,q1⟩,⟨e0,e1⟩,gq⟩:=row2f hF2
     clear hnext hb2 hP2 hF2 her c0 c1 c2 c3 c4 c5 c6
     go_wp2_with fail
     refine bodyPost_ret ?_ rfl (PlanGives.bad _ _ P.out rfl ?_)
     ·simp [results,Tryz.results20,go_sem, *]
     ·(repeat (with_reducible refine Below.setCell ?_ (by first | exact Nat.le_refl _ | exact Nat.le_succ _) _));exact BF.out
  ·obtain rfl:k=L.length:=by omega
   rw [List.take_of_length_le (Nat.le_refl _)] at hO hW
   have HO:=Lib.hid hO
   have HW:=Lib.hid hW
   have HP:=Lib.hid hP
   have HFt:=Lib.hid hFt
   have HB:=Lib.hid hbel
   clear hO hW hP hFt hbel
   go_wp2_with fail
   go_loopw [7] (fun v wr=>∃ k:Nat,k≤L.length∧v=.int .i64 k∧(∀ j<k,Pl.lackAt L j=0)∧WorkAt 99 59 61 wr (w.heap.size+2) L∧wr.heap[w.heap.size]? = some (.cells #[.int .i64 0,.int .i64 0,.int .i64 0,.int .i64 0,.slice none 0 0,.slice none 0 0] 25 (0,0))∧wr.heap[w.heap.size+1]? = some (.cells #[.int .i64 0,.int .i64 0] 49 (0,0))∧Below w.heap.size w wr) (fun v _=>L.length - (intOf v).toNat)
   case atStart=>exact ⟨0,Nat.zero_le _,rfl,fun j hj=>absurd hj (Nat.not_lt_zero j),HW.out,HP.out,HFt.out,HB.out⟩
   case round =>
    clear HW HP HFt HB
    obtain ⟨k,hk,rfl,hj,hW,hP,hFt,hbel⟩:=hrel
    by_cases hlt:k<L.length
    ·obtain ⟨b,o,rfl,hb,i7⟩:=(HI.out.below rfl hbel).at hlt
     obtain ⟨a0,a1,a2,a3,a4,a5,a6⟩:=i7.cells
     clear i7
     have LK:=Lib.hid (rpLacks_any (w.heap.size+2) L L[k] _ hW HO.out (List.getElem_mem hlt))
     have HJ:=Lib.hid hj
     have HW:=Lib.hid hW
     have HP:=Lib.hid hP
     have HFt:=Lib.hid hFt
     have HB:=Lib.hid hbel
     have hz:=hbel.size
     have hgz:=(Array.getElem?_eq_some_iff.1 hP).1
     have hgf:=(Array.getElem?_eq_some_iff.1 hFt).1
     clear hj hW hP hFt hbel
     unfold LackGives at LK
     generalize her:Pl.lackErr L L[k]=er at LK
     go_wp2_with fail
     refine LK.out.mono ?_;rintro e w2 ⟨rfl,hb2⟩
     have hP2:=(hb2.block _ hgz).trans HP.out
     have hF2:=(hb2.block _ hgf).trans HFt.out
     have BF:=Lib.hid (HB.out.trans (hb2.mono hz))
     by_cases h0:er=0
     ·have HJ':=Lib.hid (show ∀ j<k+1,Pl.lackAt L j=0 from fun j hj=>by
       rcases Nat.lt_succ_iff_lt_or_eq.1 hj with h | rfl
       ·exact HJ.out j h
       ·rw[lackAt_eq hlt];exact her.trans h0)
      have HW':=Lib.hid (WorkL.below HW.out hb2)
      have HP2:=Lib.hid hP2
      have HF2:=Lib.hid hF2
      subst h0
      clear hb2 hP2 hF2 her a0 a1 a2 a3 a4 a5 a6
      go_wp2_with fail
      go_roundw
      case rel=>exact ⟨k+1,by omega,by go_num,HJ'.out,HW'.out,HP2.out,HF2.out,BF.out⟩
      case measure=>simp [intOf];omega
     ·have hcn:(er != 0)=true:=by rw[bne_iff_ne];exact h0
      have P:=Lib.hid (build_lack_at hlt HO.out her h0 HJ.out)
      obtain ⟨⟨p0,p1,p2,p3,p4,p5⟩,⟨f0,f1,f2,f3,f4,f5⟩,gp⟩:=row6 hP2
      obtain ⟨⟨q0,q1⟩,⟨e0,e1⟩,gq⟩:=row2f hF2
      clear hb2 hP2 hF2 her a0 a1 a2 a3 a4 a5 a6
      go_wp2_with fail
      refine bodyPost_ret ?_ rfl (PlanGives.bad _ _ P.out rfl ?_)
      ·simp [results,Tryz.results20,go_sem, *]
      ·(repeat (with_reducible refine Below.setCell ?_ (by first | exact Nat.le_refl _ | exact Nat.le_succ _) _));exact BF.out
    ·obtain rfl:k=L.length:=by omega
     have P:=Lib.hid (build_all HO.out hj)
     obtain ⟨vS,vG,h1,h2,h3,h4⟩:=hW
     obtain ⟨-,AS,cS,rfl,-,hRS⟩:=Lies.Row.of_own h2
     obtain ⟨-,AG,cG,rfl,-,hRG⟩:=Lies.Row.of_own h3
     obtain ⟨⟨n0,n1,n2,n3,n4,n5⟩,-,hfz,hgw⟩:=work_row h1
     have SC:=Lib.hid (HSr.out L wr AS AG cS cG HO.out hRS hRG)
     have hz:=hbel.size
     have HB:=Lib.hid hbel
     have HP:=Lib.hid hP
     have HFt:=Lib.hid hFt
     clear h1 h2 h3 h4 hRS hRG hfz hj hP hFt hbel
     go_wp2_with fail
     refine SC.out.mono ?_;rintro e w2 ⟨A1,c1,A2,c2,l1,l2,rfl,r1,r2,n1',n2',hb2⟩
     obtain ⟨⟨p0,p1,p2,p3,p4,p5⟩,⟨f0,f1,f2,f3,f4,f5⟩,gp⟩:=row6 (stay_row HP.out hb2)
     obtain ⟨⟨q0,q1⟩,⟨e0,e1⟩,gq⟩:=row2f (stay_row HFt.out hb2)
     have BF:=Lib.hid (HB.out.trans (hb2.mono hz))
     have N1:=Lib.hid (show ∀ a,A1=some a→w.heap.size+1<a.block from fun a ha=>Nat.lt_of_lt_of_le (by omega) (n1' a ha))
     have N2:=Lib.hid (show ∀ a,A2=some a→w.heap.size+1<a.block from fun a ha=>Nat.lt_of_lt_of_le (by omega) (n2' a ha))
     have R1:=Lib.hid r1
     have R2:=Lib.hid r2
     clear r1 r2 hb2 n1' n2'
     go_wp2_with fail
     refine bodyPost_ret ?_ rfl (PlanGives.from (A:=A1) (A':=A2) P.out l1 l2 rfl ?_ ?_ ?_)
     ·simp [results,Tryz.results20,go_sem, *]
     ·(repeat (refine row_far ?_ _ _ (fun a ha=>by have:=N1.out a ha;simp only;omega)));exact R1.out
     ·(repeat (refine row_far ?_ _ _ (fun a ha=>by have:=N2.out a ha;simp only;omega)));exact R2.out
     ·(repeat (with_reducible refine Below.setCell ?_ (by first | exact Nat.le_refl _ | exact Nat.le_succ _) _));exact BF.out
def RowF {α:Type} (E:Lies α) (w:World) (b:Nat) (L:List α):Prop:=b<w.heap.size∧∀ (k:Nat) (y:α),L[k]? = some y→∀ (j:Nat) (v:Value),(E.enc y)[j]? = some v→w.cell? ⟨b,k * E.m+j,none⟩ = some v∧w.frozen? ⟨b,k * E.m+j,none⟩ = false
def But (B:Option Nat) (w w':World):Prop:=(∀ b,b<w.heap.size→B≠some b→w'.heap[b]? = w.heap[b]?)∧w.heap.size≤w'.heap.size∧w'.os=w.os∧w'.tape=w.tape∧w'.output=w.output
theorem But.below {b:Nat} {B:Option Nat} {w w1 w2:World} (h:Below b w w1) (h2:But B w1 w2) (hb:b≤w1.heap.size) (hB:∀ k,B=some k→b≤k):Below b w w2 :=
 h.trans ⟨h2.2.2.1,h2.2.2.2.1,h2.2.2.2.2,h2.2.1,fun k hk=>h2.1 k (by omega) (fun e=>by have:=hB k e;omega)⟩
theorem RowF.row {α:Type} {E:Lies α} {w:World} {b:Nat} {L:List α} (h:RowF E w b L):E.Row w (some ⟨b,0,none⟩) L:=.inr ⟨b,0,rfl,h.1,fun k y hk j v hv=>by rw[Nat.zero_add];exact (h.2 k y hk j v hv).1⟩
theorem cell_same {w w':World} {b:Nat} (h:w'.heap[b]? = w.heap[b]?) (o:Nat):w'.cell? ⟨b,o,none⟩ = w.cell? ⟨b,o,none⟩∧w'.frozen? ⟨b,o,none⟩ = w.frozen? ⟨b,o,none⟩:=by
 constructor
 ·exact World.cell?_of_block (a:=⟨b,o,none⟩) h
 ·unfold World.frozen?
  simp only [h]
theorem RowF.same {α:Type} {E:Lies α} {w w':World} {b:Nat} {L:List α} (h:RowF E w b L) (hb:w'.heap[b]? = w.heap[b]?):RowF E w' b L:=by
 refine ⟨?_,fun k y hk j v hv=>?_⟩
 ·have h1:=h.1
  rw [Array.getElem?_eq_getElem h1] at hb
  exact (Array.getElem?_eq_some_iff.1 hb).1
 ·rw[(cell_same hb _).1,(cell_same hb _).2];exact h.2 k y hk j v hv
theorem RowF.but {α:Type} {E:Lies α} {w w':World} {b:Nat} {B:Option Nat} {L:List α} (h:RowF E w b L) (hB:But B w w') (hn:B≠some b):RowF E w' b L:=h.same (hB.1 b h.1 hn)
theorem RowF.own {α:Type} {E:Lies α} {w:World} {base:Nat} {e:TypeId} {g cap n:Nat} {L:List α} (h:w.ownsRow base e E.m (.slice (some ⟨g,0,none⟩) n cap) n (E.all L)):RowF E w g L:=by
 refine ⟨(h.lt g rfl).2,fun k y hk j v hv=>⟨?_,h.frozenAt _⟩⟩
 exact Lies.own_on h hk j v hv
theorem RowF.set {α:Type} {E:Lies α} {w:World} {b:Nat} {L:List α} (h:RowF E w b L) {k j:Nat} {x y:α} (hx:L[k]? = some x) (hj:j<E.m) (u:Value) (hu:(E.enc x).set j u=E.enc y):RowF E (w.setCell ⟨b,k * E.m+j,none⟩ u) b (L.set k y):=by
 have hkl:=(List.getElem?_eq_some_iff.1 hx).1
 have hm:∀ (a c i l:Nat),i<E.m→l<E.m→a * E.m+i=c * E.m+l→a=c∧i=l:=fun a c i l hi hl he=>by
  have h1:(a * E.m+i) / E.m=a:=by rw[Nat.mul_comm,Nat.mul_add_div E.pos,Nat.div_eq_of_lt hi,Nat.add_zero]
  have h2:(c * E.m+l) / E.m=c:=by rw[Nat.mul_comm,Nat.mul_add_div E.pos,Nat.div_eq_of_lt hl,Nat.add_zero]
  have:a=c:=by rw[← h1,← h2,he]
  subst this
  exact ⟨rfl,by omega⟩
 refine ⟨by simpa using h.1,fun i z hi l v hv=>?_⟩
 have hll:l<E.m:=by
  have:=(List.getElem?_eq_some_iff.1 hv).1
  rwa [E.len] at this
 have hf:∀ o,(w.setCell ⟨b,k * E.m+j,none⟩ u).frozen? ⟨b,o,none⟩ = w.frozen? ⟨b,o,none⟩:=fun o=>by simp
 by_cases hik:i=k
 ·subst hik
  rw [List.getElem?_set_self hkl] at hi
  cases hi
  rw [← hu] at hv
  by_cases hlj:l=j
  ·subst hlj
   rw [List.getElem?_set_self (by rw[E.len];exact hj)] at hv
   cases hv
   have h0:=h.2 i x hx l ((E.enc x)[l]'(by rw[E.len];exact hj)) (List.getElem?_eq_getElem _)
   refine ⟨?_,by rw[hf];exact h0.2⟩
   exact World.cell?_setCell_same w _ u h0.1
  ·rw [List.getElem?_set_ne (Ne.symm hlj)] at hv
   have h0:=h.2 i x hx l v hv
   exact ⟨(World.cell?_setCell_other w _ _ u (fun he=>by have:=congrArg Addr.off he;simp only at this;omega)).trans h0.1,by rw[hf];exact h0.2⟩
 ·rw [List.getElem?_set_ne (Ne.symm hik)] at hi
  have h0:=h.2 i z hi l v hv
  have hne:i * E.m+l≠k * E.m+j:=fun he=>hik (hm i k l j hll hj he).1
  exact ⟨(World.cell?_setCell_other w _ _ u (fun he=>by have:=congrArg Addr.off he;simp only at this;omega)).trans h0.1,by rw[hf];exact h0.2⟩
section
open Go.Sort
end
def CloneGives {α:Type} (E:Lies α) (L:List α) (w:World) (e:Ending) (w':World):Prop :=
 ∃ A c,e=.returned (.slice A L.length c)∧L.length≤c∧(L=[]∨∃ b,A=some ⟨b,0,none⟩∧RowF E w' b L)∧(∀ a,A=some a→w.heap.size≤a.block)∧Below w.heap.size w w'
theorem CloneGives.of_own {α:Type} {E:Lies α} {L:List α} {w w':World} {e:TypeId} {v:Value} (h:w'.ownsRow w.heap.size e E.m v L.length (E.all L)) (hb:Below w.heap.size w w'):CloneGives E L w (.returned v) w':=by
 rcases h.2 with ⟨rfl,h0⟩ | ⟨g,cap,cur,rfl,hg,hh,hc,hr⟩
 ·have:L.length=0:=h0
  exact ⟨none,0,by rw[this],by omega,.inl (List.eq_nil_of_length_eq_zero this),fun a ha=>(by cases ha),hb⟩
 ·exact ⟨_,cap,rfl,hc,.inr ⟨g,rfl,RowF.own h⟩,fun a ha=>by cases ha;exact hg,hb⟩
open Go.RowKit
abbrev planZ:Obj:=.cells #[.int .i64 0,.int .i64 0,.int .i64 0,.int .i64 0,.slice none 0 0,.slice none 0 0] 25
theorem set6_other {W:World} {B b:Nat} {v0 v1 v2 v3 v4 v5:Value} (h:b≠B) :
 ((((((W.setCell ⟨B,0,none⟩ v0).setCell ⟨B,1,none⟩ v1).setCell ⟨B,2,none⟩ v2).setCell ⟨B,3,none⟩ v3).setCell ⟨B,4,none⟩ v4).setCell ⟨B,5,none⟩ v5).heap[b]? = W.heap[b]?:=by
 rw [heap_setCell_other _ _ _ _ (by simpa using h),heap_setCell_other _ _ _ _ (by simpa using h),heap_setCell_other _ _ _ _ (by simpa using h),heap_setCell_other _ _ _ _ (by simpa using h),heap_setCell_other _ _ _ _ (by simpa using h),heap_setCell_other _ _ _ _ (by simpa using h)]
abbrev planV (p:Pl.Plan) (A:Option Addr) (c:Nat) (A':Option Addr) (c':Nat):Value:=.agg #[.int .i64 p.ov,.int .i64 p.ap,.int .i64 p.se,.int .i64 p.ho,.slice A p.secs.length c,.slice A' p.sigs.length c']
abbrev planO (p:Pl.Plan) (A:Option Addr) (c:Nat) (A':Option Addr) (c':Nat):Obj:=.cells #[.int .i64 p.ov,.int .i64 p.ap,.int .i64 p.se,.int .i64 p.ho,.slice A p.secs.length c,.slice A' p.sigs.length c'] 25
def PlanIn (w:World) (p:Pl.Plan) (A A':Option Addr):Prop:=LSec.Row w A p.secs∧LSig.Row w A' p.sigs
theorem PlanIn.below {w w':World} {p:Pl.Plan} {A A':Option Addr} (h:PlanIn w p A A') (hb:Below w.heap.size w w'):PlanIn w' p A A':=⟨h.1.below rfl hb,h.2.below rfl hb⟩
theorem sec_cells {w:World} {A:Option Addr} {L:List Pl.Sec} (h:LSec.Row w A L) {i:Nat} {s:Pl.Sec} (hs:L[i]? = some s):∃ b o,A=some ⟨b,o,none⟩∧b<w.heap.size∧LSec.On w b (o+i * 12) s:=by
 obtain ⟨hi,rfl⟩:=List.getElem?_eq_some_iff.1 hs
 exact h.at hi
end Go.Proofs.YtncphjodaklleaaGreat
