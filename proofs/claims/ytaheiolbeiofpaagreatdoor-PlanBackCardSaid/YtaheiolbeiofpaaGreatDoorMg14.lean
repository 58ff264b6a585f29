/-
  Texts of this claim, merged: PlRefH, PlRefI, PlRefJ, PlRefK, PlRank.
-/
import Derived.Test.YtaheiolbeiofpaaGreatDoorMg12
import Derived.Test.YtaheiolbeiofpaaGreatDoorMg13
/-
  The walk of the document's answer of layer 5: a join more.
-/
namespace Go.Proofs.YtaheiolbeiofpaaGreatDoor
open Go.RowKit

theorem WorkX.work {tw tS tG : TypeId} {w : World} {g : Nat} {M : List It.Itm} {vS vG : Value} {LS : List Pl.Sec} {LG : List Pl.Sig} (h : WorkX tw tS tG w g M vS vG LS LG) : WorkL tw tS tG w g M LS LG := ⟨vS, vG, h⟩
theorem WorkX.next {tw tS tG : TypeId} {w : World} {g : Nat} {M : List It.Itm} {x : It.Itm} {vS vG : Value} {LS : List Pl.Sec} {LG : List Pl.Sig} (h : WorkX tw tS tG w g M vS vG LS LG) (hk : It.isNum x.k = false) (e1 : Pl.wS (M ++ [x]) = LS) (e2 : Pl.wG (M ++ [x]) = LG) : WorkAt tw tS tG w g (M ++ [x]) := by
  subst e1 e2
  obtain ⟨h1, h2, h3, h4⟩ := h
  exact ⟨vS, vG, by rw [cells_keep hk]; exact h1, h2, h3, h4⟩
theorem joinErr_first {M : List It.Itm} {x : It.Itm} (h : Pl.tipErr M (Pl.ments M) x.e0 ≠ 0) : Pl.joinErr M x = Pl.tipErr M (Pl.ments M) x.e0 := by unfold Pl.joinErr; rw [if_pos h]
theorem joinErr_second {M : List It.Itm} {x : It.Itm} (h : Pl.tipErr M (Pl.ments M) x.e0 = 0) : Pl.joinErr M x = Pl.tipErr M (Pl.ments M ++ [x.e0]) x.e1 := by unfold Pl.joinErr; rw [if_neg (fun hc => hc h)]
set_option maxHeartbeats 8000000 in
set_option maxRecDepth 100000 in
theorem rpJoin_any (g : Nat) (M : List It.Itm) (x : It.Itm) (w : World) (h : WorkAt 68 51 53 w g M) (hM : Pl.Ok M) (hr : It.right x = true) (h7 : x.k = 7) :
    Calls Tryz.prog 62 #[.pointer (some ⟨g, 0, none⟩), itemV x] w (LineGives 68 51 53 g M x (Pl.joinErr M x) w) := by
  have hc0 := letter_ne (Pl.right_join hr h7).2.1
  have hc1 := letter_ne (Pl.right_join hr h7).2.2
  have hl : (Pl.wS M).length ≤ 1000000 := by rw [Pl.wS_len]; have := hM.few; omega
  obtain ⟨vS, vG, hX⟩ : ∃ vS vG, WorkX 68 51 53 w g M vS vG (Pl.wS M) (Pl.wG M) := h
  have hg := (Array.getElem?_eq_some_iff.1 hX.1).1
  have X0 := Lib.hid ((Below.refl w.heap.size w).alloc (Nat.le_refl _) (.cells (item7 x) 44))
  obtain ⟨⟨k0, k1, k2, k3, k4, k5, k6⟩, -, g2⟩ := row7 (show (w.alloc (.cells (item7 x) 44)).heap[w.heap.size]? = some (.cells #[.int .i64 x.k, .string (txt x.name), .int .i64 x.n, .string (txt x.e0.n), .int .u8 x.e0.c.toNat, .string (txt x.e1.n), .int .u8 x.e1.c.toNat] 44 (0, 0)) from heap_alloc_new _ _)
  have FR := Lib.hid (rpFree_any g M (Pl.wS M) (Pl.wG M) x.e0 (w.alloc (.cells (item7 x) 44)) ⟨vS, vG, hX.below X0.out⟩ hl hc0)
  have FR2 := Lib.hid (fun W L (hW : WorkL 68 51 53 W g M L (Pl.wG M)) (hL : L.length = (Pl.wS M).length) => rpFree_any g M L (Pl.wG M) x.e1 W hW (by omega) hc1)
  have hk8 : (x.k == 8) = false := by rw [beq_eq_false_iff_ne]; omega
  have HX := Lib.hid hX
  have H7 := Lib.hid h7
  clear hX hc0 hc1 hl h7
  go_enter Tryz.func62, Tryz.ntmps62
  go_wp2_with fail
  refine FR.out.mono ?_; rintro e w1 ⟨a, b, c, rfl, hfree, hb1⟩
  obtain ⟨hcE, hcs⟩ := freeIs_err hM hfree
  have hb01 := X0.out.trans (hb1.mono X0.out.size)
  have hB := Lib.hid (hb01.mono (Nat.le_of_lt hg))
  by_cases hc : c = 0
  · obtain ⟨i, e, y, rfl, rfl, hy, he, ht⟩ := hcs hc
    subst hc
    have he3 : e < 3 := by unfold Pl.nEnds at he; split at he <;> omega
    have hX1 := HX.out.below hb01
    have hi := (List.getElem?_eq_some_iff.1 (Pl.wS_of hy)).1
    obtain ⟨gb, cap, rfl⟩ := hX1.slice (by omega)
    obtain ⟨s4, t0, -, -, fz, g1, gb1, ggb, -⟩ := hX1.reads (Pl.wS_of hy) he3
    have f0 := fz (i * 12 + 3 + e * 3)
    have hm : x.e0 ∉ Pl.ments M := (Pl.tipErr_zero.1 hcE.symm).2.2
    have hbw : w.heap.size < w1.heap.size := Nat.lt_of_lt_of_le g2 hb1.size
    have keepc : ∀ o, w1.cell? ⟨w.heap.size, o, none⟩ = (w.alloc (.cells (item7 x) 44)).cell? ⟨w.heap.size, o, none⟩ := fun o => hb1.cell (show (⟨w.heap.size, o, none⟩ : Addr).block < (w.alloc (.cells (item7 x) 44)).heap.size from g2)
    have q0 := (keepc 0).trans k0
    have q5 := (keepc 5).trans k5
    have q6 := (keepc 6).trans k6
    have kne : w.heap.size ≠ gb := fun e => by have := (HX.out.2.1.lt gb rfl).2; omega
    have st := hX1.store (Pl.wS_of hy) (j := 3 + e * 3) (by omega) (Pl.Sec.setTo e (-1)) (.int .i64 (-1)) (setTo_cells he3 (-1) _)
    rw [← Nat.add_assoc] at st
    have F2 := Lib.hid (FR2.out _ _ st.work (List.length_modify ..))
    have ST := Lib.hid st
    have BF := Lib.hid (hB.out.setCell (p := ⟨gb, i * 12 + 3 + e * 3, none⟩) (Nat.le_of_lt ggb) (.int .i64 (-1)))
    have hCE := Lib.hid hcE
    have HM := Lib.hid hM
    have HY := Lib.hid hy
    have HT := Lib.hid ht
    have HE := Lib.hid he
    have HMm := Lib.hid hm
    clear st hfree hcs hb1 hb01 hX1 hy ht hm hcE hM fz keepc he
    go_wp2_with fail
    refine F2.out.mono ?_; rintro e' w2 ⟨a2, b2, c2, rfl, hfree2, hb2⟩
    obtain ⟨hcE2, hcs2⟩ := freeIs_second HM.out HY.out HE.out (by rw [← HT.out]; exact HMm.out) hfree2
    rw [← HT.out] at hcE2
    have BF2 := Lib.hid (BF.out.trans (hb2.mono (by simp; omega)))
    have JE := Lib.hid (joinErr_second hCE.out.symm)
    by_cases hc2 : c2 = 0
    · obtain ⟨j, f, z, rfl, rfl, hz, hf, hu, hne, hm1⟩ := hcs2 hc2
      subst hc2
      have hf3 : f < 3 := by unfold Pl.nEnds at hf; split at hf <;> omega
      have hX2 := ST.out.below hb2
      have hs1 : ((Pl.wS M).modify i (Pl.Sec.setTo e (-1)))[i]? = some (Pl.Sec.setTo e (-1) (Pl.secG (Pl.gW M) y)) := by rw [Pl.modify_at, if_pos rfl, Pl.wS_of HY.out]; rfl
      obtain ⟨S4, T0, T1, -, fz2, G1, GB1, -, -⟩ := hX2.reads hs1 he3
      have fa := fz2 (i * 12 + 3 + e * 3)
      have fb := fz2 (i * 12 + 3 + e * 3 + 1)
      have HX2 := Lib.hid hX2
      have hj := (List.getElem?_eq_some_iff.1 (Pl.wS_of hz)).1
      have hCE2 := Lib.hid hcE2
      have HZ := Lib.hid hz
      have HU := Lib.hid hu
      have HNE := Lib.hid hne
      have HM1 := Lib.hid hm1
      have HF := Lib.hid hf
      have HS1 := Lib.hid hs1
      clear s4 t0 f0 hfree2 hcs2 hb2 hX2 fz2 hcE2 hz hu hne hm1 hf hs1
      go_wp2_with fail
      go_region
      have sa := HX2.out.store HS1.out (j := 3 + e * 3) (by omega) (Pl.Sec.setTo e j) (.int .i64 j) (setTo_cells he3 j _)
      have hs2 : (((Pl.wS M).modify i (Pl.Sec.setTo e (-1))).modify i (Pl.Sec.setTo e j))[i]? = some (Pl.Sec.setTo e j (Pl.Sec.setTo e (-1) (Pl.secG (Pl.gW M) y))) := by rw [Pl.modify_at, if_pos rfl, HS1.out]; rfl
      have sb := sa.store hs2 (j := 3 + e * 3 + 1) (by omega) (Pl.Sec.setAt e f) (.int .i64 f) (setAt_cells he3 f _)
      rw [← Nat.add_assoc, ← Nat.add_assoc, ← Nat.add_assoc] at sb
      obtain ⟨t3, ht3⟩ : ∃ t3, ((((Pl.wS M).modify i (Pl.Sec.setTo e (-1))).modify i (Pl.Sec.setTo e j)).modify i (Pl.Sec.setAt e f))[j]? = some t3 := ⟨_, List.getElem?_eq_getElem (by simpa using hj)⟩
      obtain ⟨S4b, T0b, T1b, -, fz3, G1b, GB1b, -, -⟩ := sb.reads ht3 hf3
      have fc := fz3 (j * 12 + 3 + f * 3)
      have fd := fz3 (j * 12 + 3 + f * 3 + 1)
      have sc := sb.store ht3 (j := 3 + f * 3) (by omega) (Pl.Sec.setTo f i) (.int .i64 i) (setTo_cells hf3 i _)
      have hs4 : (((((Pl.wS M).modify i (Pl.Sec.setTo e (-1))).modify i (Pl.Sec.setTo e j)).modify i (Pl.Sec.setAt e f)).modify j (Pl.Sec.setTo f i))[j]? = some (Pl.Sec.setTo f i t3) := by rw [Pl.modify_at, if_pos rfl, ht3]; rfl
      have sd := sc.store hs4 (j := 3 + f * 3 + 1) (by omega) (Pl.Sec.setAt f e) (.int .i64 e) (setAt_cells hf3 e _)
      rw [← Nat.add_assoc, ← Nat.add_assoc, ← Nat.add_assoc] at sd
      have SD := Lib.hid sd
      clear S4 T0 T1 fa fb fz3 sa hs2 sb sc hs4 sd ht3
      have BF3 := (BF2.out.setCell (p := ⟨gb, i * 12 + 3 + e * 3, none⟩) (Nat.le_of_lt ggb) (.int .i64 j)).setCell (p := ⟨gb, i * 12 + 3 + e * 3 + 1, none⟩) (Nat.le_of_lt ggb) (.int .i64 f)
      generalize (w2.setCell ⟨gb, i * 12 + 3 + e * 3, none⟩ (.int .i64 j)).setCell ⟨gb, i * 12 + 3 + e * 3 + 1, none⟩ (.int .i64 f) = W3 at S4b T0b T1b fc fd G1b GB1b SD BF3 ⊢
      have BF5 := Lib.hid ((BF3.setCell (p := ⟨gb, j * 12 + 3 + f * 3, none⟩) (Nat.le_of_lt ggb) (.int .i64 i)).setCell (p := ⟨gb, j * 12 + 3 + f * 3 + 1, none⟩) (Nat.le_of_lt ggb) (.int .i64 e))
      clear BF3
      go_wp2_with fail
      go_region
      go_wp2_with fail
      go_ret
      have hys := Pl.wS_of HY.out
      have hzs := Pl.wS_of HZ.out
      have hij : i = j → e ≠ f := fun h1 h2 => by
        subst h1 h2
        have := HZ.out.symm.trans HY.out
        cases this
        exact HNE.out HU.out
      obtain ⟨e1, e2⟩ := Pl.w_join HM.out H7.out HMm.out HM1.out (by rw [HT.out]; exact fun h => HNE.out h.symm) HY.out HZ.out HE.out HF.out HT.out HU.out
      have e3 := join_list hys hzs he3 hf3 hij j f i e _ _ (by rw [Pl.get_secG _ HE.out]) (by rw [Pl.get_secG _ HF.out])
      exact ⟨by rw [JE.out, ← hCE2.out]; rfl, fun _ => SD.out.drew.drew.next (by unfold It.isNum; rw [H7.out]; decide) (e1.trans e3.symm) e2, BF5.out.drew.drew⟩
    · have hcn : (c2 != 0) = true := by rw [bne_iff_ne]; exact hc2
      have hCE2 := Lib.hid hcE2
      clear hfree2 hcs2 hb2 hcE2
      go_wp2_with fail
      go_ret
      exact ⟨by rw [JE.out, ← hCE2.out]; rfl, fun h => absurd (hCE2.out.trans (JE.out.symm.trans h)) hc2, BF2.out⟩
  · have hcn : (c != 0) = true := by rw [bne_iff_ne]; exact hc
    have hCE := Lib.hid (hcE.trans (joinErr_first (by rw [← hcE]; exact hc)).symm)
    clear hfree hcs hb1 hb01 hcE hM
    go_wp2_with fail
    go_ret
    exact ⟨by rw [← hCE.out]; rfl, fun h => absurd (hCE.out.trans h) hc, hB.out⟩
end Go.Proofs.YtaheiolbeiofpaaGreatDoor
/-
  The walk of the document's answer of layer 5: a signal more.
-/
namespace Go.Proofs.YtaheiolbeiofpaaGreatDoor
open Go.RowKit

theorem infoSig : (Tryz.prog.info? 53).map (fun i => (i.zero, i.size, i.bytes)) = some (some (.agg #[.string ⟨#[]⟩, .int .i64 0, .int .i64 0]), 3, 32) := by kernel_rfl
/-- The named end's error is what may not be of an end, if none is used. -/
theorem endI_err {M : List It.Itm} (hM : Pl.Ok M) (t : It.Tp) : (endI (Pl.wS M) t).2.2 = Pl.tipErr M [] t ∧
    ((endI (Pl.wS M) t).2.2 = 0 → ∃ (i e : Nat) (y : It.Itm), endI (Pl.wS M) t = ((i : Int), (e : Int), 0) ∧ (Pl.secs M)[i]? = some y ∧ e < Pl.nEnds (Pl.isPt y) ∧ t = Pl.tip y e) := by
  rcases Pl.find_wS (M := M) t.n with ⟨hn, hf⟩ | ⟨i, y, hf, hy, hn⟩
  · rw [endI_no (by rw [hf]; decide)]
    exact ⟨by unfold Pl.tipErr; rw [if_pos hn], fun h => by cases h⟩
  · have hm := List.mem_of_getElem? hy
    have hin : t.n ∈ Pl.nmS M := Pl.mem_nmS.2 ⟨y, hm, hn⟩
    have hp : Pl.ptOf M t.n = Pl.isPt y := by rw [← hn]; exact Pl.ptOf_eq hM.names hm
    rw [endI_at hf (Pl.wS_of hy)]
    cases he : Pl.endAt (Pl.secG (Pl.gW M) y).pt t.c with
    | none =>
      refine ⟨?_, fun h => by cases h⟩
      unfold Pl.tipErr
      rw [if_neg (fun h => h hin), hp, if_pos (show Pl.endAt (Pl.isPt y) t.c = none from he)]
    | some e =>
      obtain ⟨hl, hlt⟩ := Pl.letter_endAt (show Pl.endAt (Pl.isPt y) t.c = some e from he)
      have tt : t = Pl.tip y e := by cases t; simp at hn hl; simp [Pl.tip, hn, hl]
      exact ⟨(Pl.tipErr_zero.2 ⟨hin, by rw [hp, show Pl.endAt (Pl.isPt y) t.c = some e from he]; rfl, by simp⟩).symm, fun _ => ⟨i, e, y, rfl, hy, hlt, tt⟩⟩
theorem WorkX.signals {tw tS tG : TypeId} {w w1 w2 : World} {g : Nat} {M : List It.Itm} {vS vG v' : Value} {LS : List Pl.Sec} {LG : List Pl.Sig} {z : Pl.Sig} {g' cap' : Nat} (h : WorkX tw tS tG w g M vS vG LS LG)
    (hb : Below w.heap.size w w1) (hgr : w1.grownBy w2 vG.ownBlock) (hv : v' = .slice (some ⟨g', 0, none⟩) (LG.length + 1) cap') (hown : w2.ownsRow (g + 1) tG LSig.m v' (LG.length + 1) (LSig.all LG ++ LSig.enc z)) (hg' : vG.ownBlock = some g' ∨ w.heap.size ≤ g') :
    WorkX tw tS tG (w2.setCell ⟨g, 5, none⟩ v') g M vS v' LS (LG ++ [z]) ∧ Below g w (w2.setCell ⟨g, 5, none⟩ v') := by
  obtain ⟨hrow, hS, hG, hap⟩ := h
  have hg := (Array.getElem?_eq_some_iff.1 hrow).1
  have hbs := hb.size
  have hne : some g ≠ vG.ownBlock := fun e => by have := (hG.lt g e.symm).1; omega
  have row2 : w2.heap[g]? = some (.cells (workCells M vS vG) tw (0, 0)) := by rw [hgr.block g (by omega) hne, hb.block g hg]; exact hrow
  refine ⟨⟨?_, ?_, ?_, ?_⟩, ?_⟩
  · rw [heap_setCell_same _ _ _ _ _ _ row2]; rfl
  · refine ownsRow_setCell_below (own_kept hS fun b hb' => ?_) (a := ⟨g, 5, none⟩) (by show g < g + 1; omega) v'
    have hlt := (hS.lt b hb').2
    rw [hgr.block b (by omega) (fun e => hap b hb' e.symm), hb.block b hlt]
  · rw [List.length_append, List.length_singleton, LSig.all_append, LSig.all_one]
    exact ownsRow_setCell_below hown (a := ⟨g, 5, none⟩) (by show g < g + 1; omega) v'
  · subst hv
    intro k hk1 hk2
    have : g' = k := by simpa [Value.ownBlock] using hk2
    subst this
    rcases hg' with h | h
    · exact hap g' hk1 h
    · have := (hS.lt g' hk1).2; omega
  · have hb' : Below g w w1 := hb.mono (Nat.le_of_lt hg)
    exact (hb'.grown hgr (by omega) (fun k hk => by have := (hG.lt k hk).1; omega)).setCell (Nat.le_refl _) _
theorem nmG_next {L : List Pl.Sig} {nm : List UInt8} {k : Nat} (hk : k < L.length) (h0 : ∀ j < k, ∀ t, L[j]? = some t → t.name ≠ nm) (h : L[k].name ≠ nm) : ∀ j < k + 1, ∀ t, L[j]? = some t → t.name ≠ nm := fun j hj t ht => by
  rcases Nat.lt_or_ge j k with h1 | h1
  · exact h0 j h1 t ht
  · obtain rfl : j = k := by omega
    rw [List.getElem?_eq_getElem hk] at ht
    cases ht
    exact h
theorem wG_name {M : List It.Itm} {nm : List UInt8} {k : Nat} (hk : k < (Pl.wG M).length) (h : (Pl.wG M)[k].name = nm) : nm ∈ Pl.nmG M := by
  have hm := List.getElem_mem hk
  obtain ⟨x, hx, e⟩ := List.mem_map.1 hm
  rw [← e] at h
  exact List.mem_map.2 ⟨x, hx, h⟩
theorem wG_no {M : List It.Itm} {nm : List UInt8} (h : ∀ j < (Pl.wG M).length, ∀ t, (Pl.wG M)[j]? = some t → t.name ≠ nm) : nm ∉ Pl.nmG M := fun hm => by
  obtain ⟨x, hx, e⟩ := List.mem_map.1 hm
  obtain ⟨j, hj, hjx⟩ := List.getElem_of_mem (List.mem_map_of_mem (f := Pl.sigW (Pl.pos (Pl.nmS M)) M) hx)
  exact h j hj _ (List.getElem?_eq_getElem hj) (by
    show ((Pl.sigs M).map (Pl.sigW (Pl.pos (Pl.nmS M)) M))[j].name = nm
    rw [hjx]; exact e)
set_option maxHeartbeats 8000000 in
set_option maxRecDepth 100000 in
theorem rpSignal_any (g : Nat) (M : List It.Itm) (x : It.Itm) (w : World) (h : WorkAt 68 51 53 w g M) (hM : Pl.Ok M) (hr : It.right x = true) (h9 : x.k = 9) :
    Calls Tryz.prog 63 #[.pointer (some ⟨g, 0, none⟩), itemV x] w (LineGives 68 51 53 g M x (Pl.sigErr M x) w) := by
  obtain ⟨i0, hi, hz0, hz1, hz2⟩ := info_parts infoSig
  have hc0 := letter_ne (Pl.right_sig hr h9).2.2
  have hl : (Pl.wS M).length ≤ 1000000 := by rw [Pl.wS_len]; have := hM.few; omega
  have hlG : (Pl.wG M).length ≤ 12 := by rw [Pl.wG_len]; exact hM.gfew
  obtain ⟨vS, vG, hX⟩ : ∃ vS vG, WorkX 68 51 53 w g M vS vG (Pl.wS M) (Pl.wG M) := h
  have hg := (Array.getElem?_eq_some_iff.1 hX.1).1
  obtain ⟨-, A, cp, rfl, -, hR⟩ := Lies.Row.of_own hX.2.1
  obtain ⟨-, A', cp', rfl, -, hR'⟩ := Lies.Row.of_own hX.2.2.1
  have X0 := Lib.hid ((Below.refl w.heap.size w).alloc (Nat.le_refl _) (.cells (item7 x) 44))
  have R0 := Lib.hid (show (w.alloc (.cells (item7 x) 44)).heap[w.heap.size]? = some (.cells #[.int .i64 x.k, .string (txt x.name), .int .i64 x.n, .string (txt x.e0.n), .int .u8 x.e0.c.toNat, .string (txt x.e1.n), .int .u8 x.e1.c.toNat] 44 (0, 0)) from heap_alloc_new _ _)
  have g2 : w.heap.size < (w.alloc (.cells (item7 x) 44)).heap.size := (row7 R0.out).2.2
  have HX := Lib.hid hX
  have H9 := Lib.hid h9
  have HR := Lib.hid hR
  have EN := Lib.hid (fun W0 W (h0 : Below w.heap.size w W0) (h : Below W0.heap.size W0 W) => Made.of h (rpEnd_any A cp (Pl.wS M) x.e0 W ((hR.below rfl h0).below rfl h) hl hc0))
  have EE := Lib.hid (endI_err hM x.e0)
  have HM := Lib.hid hM
  clear hX hc0 hR h9 hM
  go_enter Tryz.func63, Tryz.ntmps63
  go_wp2_with fail
  go_loopw [5] (fun v wr => ∃ k : Nat, k ≤ (Pl.wG M).length ∧ v = .int .i64 k ∧ (∀ j < k, ∀ t, (Pl.wG M)[j]? = some t → t.name ≠ x.name) ∧ Below (w.alloc (.cells (item7 x) 44)).heap.size (w.alloc (.cells (item7 x) 44)) wr) (fun v _ => (Pl.wG M).length - (intOf v).toNat)
  case atStart => exact ⟨0, Nat.zero_le _, rfl, fun j hj => absurd hj (by omega), Below.refl _ _⟩
  case round =>
    obtain ⟨k, hk, rfl, h0, hbel⟩ := hrel
    have H0 := Lib.hid h0
    clear h0
    have hbw := X0.out.trans (hbel.mono (Nat.le_of_lt g2))
    have hz := hbel.size
    have g3 : w.heap.size < wr.heap.size := Nat.lt_of_lt_of_le g2 hz
    obtain ⟨⟨m0, m1, m2, m3, m4, m5, m6⟩, -, -⟩ := row7 ((hbel.block _ g2).trans R0.out)
    have hXr := HX.out.below hbw
    obtain ⟨⟨-, -, -, -, s4, s5⟩, -, fzg, g1⟩ := work_row hXr.1
    have HXr := Lib.hid hXr
    have HBW := Lib.hid hbw
    have HBG := Lib.hid (hbw.mono (Nat.le_of_lt hg))
    clear hXr
    by_cases hlt : k < (Pl.wG M).length
    · obtain ⟨b, o, rfl, hb, on⟩ := (hR'.below rfl hbw).at hlt
      have n0 := (sig_on on).1
      rw [show k * LSig.m = k * 3 from rfl] at n0
      clear on hbw
      by_cases he : (Pl.wG M)[k].name = x.name
      · have h1 := txt_eqB he
        have P := Lib.hid (show Pl.sigErr M x = 3 by unfold Pl.sigErr; rw [if_pos (wG_name hlt he)])
        clear he
        go_wp2_with fail
        go_region
        go_wp2_with fail
        go_ret
        exact ⟨by rw [P.out]; rfl, (fun h => by rw [P.out] at h; cases h), HBG.out.drew⟩
      · have h1 := txt_neB he
        have N := Lib.hid (nmG_next hlt H0.out he)
        clear he
        go_wp2_with fail
        go_region
        go_wp2_with fail
        go_roundw
        case rel => exact ⟨k + 1, by omega, by go_num, N.out, hbel.drew⟩
        case measure => simp [intOf]; omega
    · have NG := Lib.hid (wG_no (M := M) (nm := x.name) fun j hj => H0.out j (by omega))
      clear hbw
      obtain ⟨hE1, hE2⟩ := EE.out
      obtain ⟨ta, tb, tc, hend⟩ : ∃ a b c, endI (Pl.wS M) x.e0 = (a, b, c) := ⟨_, _, _, rfl⟩
      rw [hend] at hE1 hE2
      have EN2 := Lib.hid (fun W (h : Below wr.heap.size wr W) => EN.out wr W HBW.out h)
      rw [hend] at EN2
      have SE : Pl.sigErr M x = if tc ≠ 0 then tc else if (Pl.sigAt M x.e0).isSome then 3 else if (Pl.sigs M).length = 12 then 9 else 0 := by
        unfold Pl.sigErr
        rw [if_neg NG.out, ← show tc = Pl.tipErr M [] x.e0 from hE1]
      have HSE := Lib.hid SE
      have HE2 := Lib.hid hE2
      clear SE hE1 hE2 hend EN EE
      go_wp2_with fail
      go_region_held3 (fun w' => w'.cell? ⟨g, 4, none⟩ = some (.slice A (Pl.wS M).length cp) ∧ w'.cell? ⟨w.heap.size, 3, none⟩ = some (.string (txt x.e0.n)) ∧ w'.cell? ⟨w.heap.size, 4, none⟩ = some (.int .u8 x.e0.c.toNat))
        (first | exact ⟨s4, m3, m4⟩ | exact ⟨(hcell _ _ g1).trans s4, (hcell _ _ g3).trans m3, (hcell _ _ g3).trans m4⟩)
        (first
          | (go_at_call 65; (with_reducible refine (EN2.out _ (Below.refl _ _).drew).mono ?_); rintro e w' ⟨rfl, hbl, hacc, hzz⟩; have hcell := (bcell hbl).1))
      by_cases hc : tc = 0
      · obtain ⟨i, e, y, he0, hy, he, ht⟩ := HE2.out hc
        obtain ⟨rfl, rfl, rfl⟩ : ta = (i : Int) ∧ tb = (e : Int) ∧ tc = 0 := by cases he0; exact ⟨rfl, rfl, rfl⟩
        have he3 : e < 3 := by unfold Pl.nEnds at he; split at he <;> omega
        have hX2 := HXr.out.below hacc
        have hin := (List.getElem?_eq_some_iff.1 (Pl.wS_of hy)).1
        obtain ⟨gb, cap, hvs⟩ := hX2.slice (by omega)
        obtain ⟨rfl, rfl⟩ : A = some ⟨gb, 0, none⟩ ∧ cp = cap := by cases hvs; exact ⟨rfl, rfl⟩
        obtain ⟨S4, -, -, SG, fz, G1, GB1, ggb, -⟩ := hX2.reads (Pl.wS_of hy) he3
        rw [Pl.get_secG _ he] at SG
        have fs := fz (i * 12 + 3 + e * 3 + 2)
        have S5 := (work_row hX2.1).1.2.2.2.2.2
        have F5 := (work_row hX2.1).2.2.1 5
        have M1 := (hacc.cell (show (⟨w.heap.size, 1, none⟩ : Addr).block < wr.heap.size from g3)).trans m1
        have BF := Lib.hid (HBG.out.trans (hacc.mono (Nat.le_of_lt g1)))
        have HX2 := Lib.hid hX2
        have HY := Lib.hid hy
        have HT := Lib.hid ht
        have HE := Lib.hid he
        clear hvs he0 hX2 hbl hacc hzz hcell s4 s5 m0 m1 m2 m3 m4 m5 m6 hbel hy ht he fz fzg hR'
        cases hsg : Pl.sigAt M x.e0 with
        | some nm =>
          have P := Lib.hid (show Pl.sigErr M x = 3 by rw [HSE.out, if_neg (by simp), hsg]; rfl)
          have hv : (Pl.gW M (Pl.tip y e)).sig = Pl.pos (Pl.nmG M) nm := by rw [← HT.out]; simp only [Pl.gW, Pl.enW, hsg]
          have hd : decide (0 ≤ Pl.pos (Pl.nmG M) nm) = true := dec_t (by unfold Pl.pos; omega)
          rw [hv] at SG
          clear hv hsg
          go_wp2_with fail
          go_ret
          exact ⟨by rw [P.out]; rfl, (fun h => by rw [P.out] at h; cases h), BF.out⟩
        | none =>
          have hv : (Pl.gW M (Pl.tip y e)).sig = -1 := by rw [← HT.out]; simp only [Pl.gW, Pl.enW, hsg]
          rw [hv] at SG
          by_cases h12 : (Pl.sigs M).length = 12
          · have q12 : (((Pl.wG M).length : Int) == 12) = true := by rw [beq_iff_eq, Pl.wG_len]; omega
            have P := Lib.hid (show Pl.sigErr M x = 9 by rw [HSE.out, if_neg (by simp), hsg, if_neg (by simp), if_pos h12])
            clear hv hsg h12
            go_wp2_with fail
            go_ret
            exact ⟨by rw [P.out]; rfl, (fun h => by rw [P.out] at h; cases h), BF.out⟩
          · have q12 : (((Pl.wG M).length : Int) == 12) = false := by rw [beq_eq_false_iff_ne, Pl.wG_len]; omega
            have P := Lib.hid (show Pl.sigErr M x = 0 by rw [HSE.out, if_neg (by simp), hsg, if_neg (by simp), if_neg h12])
            have HSG := Lib.hid hsg
            clear hv hsg h12
            have gbw := (HX.out.2.1.lt gb rfl).2
            go_wp2_with fail
            go_region
            have st := HX2.out.store (Pl.wS_of HY.out) (j := 3 + e * 3 + 2) (by omega) (Pl.Sec.setSig e (Pl.wG M).length) (.int .i64 (Pl.wG M).length) (setSig_cells he3 _ _)
            rw [← Nat.add_assoc, ← Nat.add_assoc] at st
            have st2 := st.drew
            have B3 := Below.drew (BF.out.setCell (p := ⟨gb, i * 12 + 3 + e * 3 + 2, none⟩) (Nat.le_of_lt ggb) (.int .i64 (Pl.wG M).length))
            have M3 : ((w'.setCell ⟨gb, i * 12 + 3 + e * 3 + 2, none⟩ (.int .i64 (Pl.wG M).length)).drew).cell? ⟨w.heap.size, 1, none⟩ = some (.string (txt x.name)) :=
              (World.cell?_of_block (a := ⟨w.heap.size, 1, none⟩) (heap_setCell_other w' ⟨gb, i * 12 + 3 + e * 3 + 2, none⟩ w.heap.size (.int .i64 (Pl.wG M).length) (by simpa using fun e => by omega))).trans M1
            generalize (w'.setCell ⟨gb, i * 12 + 3 + e * 3 + 2, none⟩ (.int .i64 (Pl.wG M).length)).drew = WR at st2 B3 M3 ⊢
            obtain ⟨⟨-, -, -, -, -, Z5⟩, -, fzr, gz⟩ := work_row st2.1
            have ZF := fzr 5
            have HX3 := Lib.hid st2
            have HB3 := Lib.hid B3
            have NW := Lib.hid (show ∀ j u, ([.string (txt x.name), .int .i64 i, .int .i64 e] : List Value)[j]? = some u → (WR.drew.alloc (.cells #[.string (txt x.name), .int .i64 i, .int .i64 e] 53)).cell? ((⟨WR.heap.size, 0, none⟩ : Addr).add j) = some u from
              fun j u hu => World.news_of_block (B := WR.heap.size) (cs := #[.string (txt x.name), .int .i64 i, .int .i64 e]) (t := 53) (fr := (0, 0)) (heap_alloc_new WR.drew (.cells #[.string (txt x.name), .int .i64 i, .int .i64 e] 53)) j u (by simpa using hu))
            have ON := Lib.hid (show ∀ u ∈ ([.string (txt x.name), .int .i64 i, .int .i64 e] : List Value), u.oneCell' = true from fun u hu => by
              simp only [List.mem_cons, List.not_mem_nil, or_false] at hu
              rcases hu with rfl | rfl | rfl <;> rfl)
            have HNE := Lib.hid (show some g ≠ (Value.slice A' (Pl.wG M).length cp').ownBlock from fun e => by have := (st2.2.2.1.lt g e.symm).1; omega)
            have gbz : g + 1 ≤ WR.heap.size := gz
            clear st st2 B3 fzr S4 SG S5 F5 M1 fs GB1 G1
            go_wp2_with fail
            go_region_law (refine step_append_lies _ (by rfl) (.tmp 92) (.tmp 98) 26 (by rfl) (g + 1) 53 i0 _ 3 32 Tryz.underlying26 hi hz0 hz1 hz2 rfl (by decide) (.slice A' (Pl.wG M).length cp') (Pl.wG M).length (LSig.all (Pl.wG M)) (by rfl) (HX3.out.2.2.1.drew.alloc _) ⟨WR.heap.size, 0, none⟩ 1 1 [.string (txt x.name), .int .i64 i, .int .i64 e] (by rfl) (by rfl) NW.out ON.out (by omega) (by unfold maxLen; omega) (by omega) (by simp; omega) _ rfl ?_; intro g' cap' w3 hown hgr hg' hlt2; have hr3 := (hgr.block g (by simp; omega) HNE.out).trans ((heap_alloc_old _ _ (show g < WR.drew.heap.size from gz)).trans HX3.out.1); have c3 := (work_row hr3).1.2.2.2.2.2; have f3 := (work_row hr3).2.2.1 5)
            all_goals go_wp2_with fail
            all_goals go_ret
            all_goals (
              have WS := WorkX.signals (z := ⟨x.name, i, e⟩) HX3.out (((Below.refl WR.heap.size WR).drew).alloc (Nat.le_refl _) (.cells #[.string (txt x.name), .int .i64 i, .int .i64 e] 53)) hgr rfl hown (by rcases hg' with h | h; exact .inl h; exact .inr (by rw [h]; simp))
              obtain ⟨e1, e2⟩ := Pl.w_sig HM.out (by unfold Pl.isG; exact decide_eq_true H9.out) NG.out (Pl.sigAt_none.1 (by rw [HSG.out]; rfl)) HY.out HE.out HT.out
              exact ⟨by rw [P.out]; rfl, fun _ => WS.1.next (by unfold It.isNum; rw [H9.out]; decide) e1 e2, HB3.out.trans WS.2⟩)
      · have hcn : (tc != 0) = true := by rw [bne_iff_ne]; exact hc
        have P := Lib.hid (show Pl.sigErr M x = tc by rw [HSE.out, if_pos hc])
        have BF := Lib.hid (HBG.out.trans (hacc.mono (Nat.le_of_lt g1)))
        clear hbl hacc hzz hcell hbel hR'
        go_wp2_with fail
        go_ret
        exact ⟨by rw [P.out]; rfl, (fun h => absurd (P.out.symm.trans h) hc), BF.out⟩
end Go.Proofs.YtaheiolbeiofpaaGreatDoor
/-
  The walk of the document's answer of layer 5: a line more, whatever its kind.
-/
namespace Go.Proofs.YtaheiolbeiofpaaGreatDoor
open Go.RowKit

theorem LineGives.outer {tw tS tG : TypeId} {g : Nat} {M : List It.Itm} {x : It.Itm} {er : Int} {w W : World} {e : Ending} {w' : World} (h : LineGives tw tS tG g M x er W e w') (hb : Below g w W) : LineGives tw tS tG g M x er w e w' := ⟨h.1, h.2.1, hb.trans h.2.2⟩
theorem lineErr_num {M : List It.Itm} {x : It.Itm} (hr : It.right x = true) (h : It.isNum x.k = true) : Pl.lineErr M x = if toldB M x.k then 3 else 0 := by
  unfold Pl.lineErr
  rw [hr, if_neg (by simp), if_pos h]; rfl
theorem lineErr_sec {M : List It.Itm} {x : It.Itm} (hr : It.right x = true) (h : Pl.isS x = true) : Pl.lineErr M x = if x.name ∈ Pl.nmS M then 3 else if (Pl.secs M).length = 24 then 9 else 0 := by
  unfold Pl.lineErr
  rw [hr, if_neg (by simp), if_neg (by rw [(Pl.sec_facts h).1]; simp), if_pos h]
theorem lineErr_join {M : List It.Itm} {x : It.Itm} (hr : It.right x = true) (h : x.k = 7) : Pl.lineErr M x = Pl.joinErr M x := by
  obtain ⟨h1, h2, _⟩ := Pl.end_facts (x := x) (.inl h)
  unfold Pl.lineErr
  rw [hr, if_neg (by simp), if_neg (by rw [h1]; simp), if_neg (by rw [h2]; simp), if_pos h]
theorem lineErr_stop {M : List It.Itm} {x : It.Itm} (hr : It.right x = true) (h : x.k = 8) : Pl.lineErr M x = Pl.tipErr M (Pl.ments M) x.e0 := by
  obtain ⟨h1, h2, _⟩ := Pl.end_facts (x := x) (.inr h)
  unfold Pl.lineErr
  rw [hr, if_neg (by simp), if_neg (by rw [h1]; simp), if_neg (by rw [h2]; simp), if_neg (by omega), if_pos h]
theorem lineErr_sig {M : List It.Itm} {x : It.Itm} (hr : It.right x = true) (h : x.k = 9) : Pl.lineErr M x = Pl.sigErr M x := by
  have hg : Pl.isG x = true := by unfold Pl.isG; exact decide_eq_true h
  obtain ⟨h1, h2, _⟩ := Pl.sig_facts hg
  unfold Pl.lineErr
  rw [hr, if_neg (by simp), if_neg (by rw [h1]; simp), if_neg (by rw [h2]; simp), if_neg (by omega), if_neg (by omega)]
set_option maxHeartbeats 8000000 in
set_option maxRecDepth 100000 in
theorem rpLine_any (g : Nat) (M : List It.Itm) (x : It.Itm) (w : World) (h : WorkAt 68 51 53 w g M) (hM : Pl.Ok M) (hr : It.right x = true) :
    Calls Tryz.prog 28 #[.pointer (some ⟨g, 0, none⟩), itemV x] w (LineGives 68 51 53 g M x (Pl.lineErr M x) w) := by
  have hg := (Array.getElem?_eq_some_iff.1 h.choose_spec.choose_spec.1).1
  have X0 := (Below.refl w.heap.size w).alloc (Nat.le_refl _) (.cells (item7 x) 44)
  have XG := Lib.hid ((Below.refl g w).alloc (Nat.le_of_lt hg) (.cells (item7 x) 44))
  have hW : WorkAt 68 51 53 (w.alloc (.cells (item7 x) 44)) g M := WorkL.below h X0
  obtain ⟨⟨k0, k1, k2, k3, k4, k5, k6⟩, -, g2⟩ := row7 (show (w.alloc (.cells (item7 x) 44)).heap[w.heap.size]? = some (.cells #[.int .i64 x.k, .string (txt x.name), .int .i64 x.n, .string (txt x.e0.n), .int .u8 x.e0.c.toNat, .string (txt x.e1.n), .int .u8 x.e1.c.toNat] 44 (0, 0)) from heap_alloc_new _ _)
  clear X0 h hg
  have hk := Pl.right_kind hr
  have hk' : x.k = 5 ∨ x.k = 6 ∨ x.k = 7 ∨ x.k = 8 ∨ x.k = 9 ∨ (1 ≤ x.k ∧ x.k ≤ 4) := by omega
  rcases hk' with h5 | h6 | h7 | h8 | h9 | h14
  · have C0 := rpSection_any g M x (w.alloc (.cells (item7 x) 44)) hW hM (by unfold Pl.isS It.isLen; exact decide_eq_true (by omega))
    rw [← lineErr_sec (M := M) hr (by unfold Pl.isS It.isLen; exact decide_eq_true (by omega))] at C0
    have C := Lib.hid C0
    clear C0
    have HW := Lib.hid hW
    have q5 : (x.k == 5) = true := by rw [beq_iff_eq]; omega
    have q6 : (x.k == 6) = false := by rw [beq_eq_false_iff_ne]; omega
    have q7 : (x.k == 7) = false := by rw [beq_eq_false_iff_ne]; omega
    have q8 : (x.k == 8) = false := by rw [beq_eq_false_iff_ne]; omega
    have q9 : (x.k == 9) = false := by rw [beq_eq_false_iff_ne]; omega
    clear hW hM hr hk h5
    go_enter Tryz.func28, Tryz.ntmps28
    go_wp2_with fail
    refine C.out.mono ?_; rintro e w1 ⟨rfl, hw1, hb1⟩
    have HN := Lib.hid hw1
    clear hw1
    go_wp2_with fail
    go_ret
    exact ⟨rfl, HN.out, XG.out.trans hb1⟩
  · have C0 := rpSection_any g M x (w.alloc (.cells (item7 x) 44)) hW hM (by unfold Pl.isS It.isLen; exact decide_eq_true (by omega))
    rw [← lineErr_sec (M := M) hr (by unfold Pl.isS It.isLen; exact decide_eq_true (by omega))] at C0
    have C := Lib.hid C0
    clear C0
    have HW := Lib.hid hW
    have q5 : (x.k == 5) = false := by rw [beq_eq_false_iff_ne]; omega
    have q6 : (x.k == 6) = true := by rw [beq_iff_eq]; omega
    have q7 : (x.k == 7) = false := by rw [beq_eq_false_iff_ne]; omega
    have q8 : (x.k == 8) = false := by rw [beq_eq_false_iff_ne]; omega
    have q9 : (x.k == 9) = false := by rw [beq_eq_false_iff_ne]; omega
    clear hW hM hr hk h6
    go_enter Tryz.func28, Tryz.ntmps28
    go_wp2_with fail
    refine C.out.mono ?_; rintro e w1 ⟨rfl, hw1, hb1⟩
    have HN := Lib.hid hw1
    clear hw1
    go_wp2_with fail
    go_ret
    exact ⟨rfl, HN.out, XG.out.trans hb1⟩
  · have C0 := rpJoin_any g M x (w.alloc (.cells (item7 x) 44)) hW hM hr h7
    rw [← lineErr_join (M := M) hr h7] at C0
    have C := Lib.hid C0
    clear C0
    have HW := Lib.hid hW
    have q5 : (x.k == 5) = false := by rw [beq_eq_false_iff_ne]; omega
    have q6 : (x.k == 6) = false := by rw [beq_eq_false_iff_ne]; omega
    have q7 : (x.k == 7) = true := by rw [beq_iff_eq]; omega
    have q8 : (x.k == 8) = false := by rw [beq_eq_false_iff_ne]; omega
    have q9 : (x.k == 9) = false := by rw [beq_eq_false_iff_ne]; omega
    clear hW hM hr hk h7
    go_enter Tryz.func28, Tryz.ntmps28
    go_wp2_with fail
    refine C.out.mono ?_; rintro e w1 ⟨rfl, hw1, hb1⟩
    have HN := Lib.hid hw1
    clear hw1
    go_wp2_with fail
    go_ret
    exact ⟨rfl, HN.out, XG.out.trans hb1⟩
  · have C0 := rpStop_any g M x (w.alloc (.cells (item7 x) 44)) hW hM hr h8
    rw [← lineErr_stop (M := M) hr h8] at C0
    have C := Lib.hid C0
    clear C0
    have HW := Lib.hid hW
    have q5 : (x.k == 5) = false := by rw [beq_eq_false_iff_ne]; omega
    have q6 : (x.k == 6) = false := by rw [beq_eq_false_iff_ne]; omega
    have q7 : (x.k == 7) = false := by rw [beq_eq_false_iff_ne]; omega
    have q8 : (x.k == 8) = true := by rw [beq_iff_eq]; omega
    have q9 : (x.k == 9) = false := by rw [beq_eq_false_iff_ne]; omega
    clear hW hM hr hk h8
    go_enter Tryz.func28, Tryz.ntmps28
    go_wp2_with fail
    refine C.out.mono ?_; rintro e w1 ⟨rfl, hw1, hb1⟩
    have HN := Lib.hid hw1
    clear hw1
    go_wp2_with fail
    go_ret
    exact ⟨rfl, HN.out, XG.out.trans hb1⟩
  · have C0 := rpSignal_any g M x (w.alloc (.cells (item7 x) 44)) hW hM hr h9
    rw [← lineErr_sig (M := M) hr h9] at C0
    have C := Lib.hid C0
    clear C0
    have HW := Lib.hid hW
    have q5 : (x.k == 5) = false := by rw [beq_eq_false_iff_ne]; omega
    have q6 : (x.k == 6) = false := by rw [beq_eq_false_iff_ne]; omega
    have q7 : (x.k == 7) = false := by rw [beq_eq_false_iff_ne]; omega
    have q8 : (x.k == 8) = false := by rw [beq_eq_false_iff_ne]; omega
    have q9 : (x.k == 9) = true := by rw [beq_iff_eq]; omega
    clear hW hM hr hk h9
    go_enter Tryz.func28, Tryz.ntmps28
    go_wp2_with fail
    refine C.out.mono ?_; rintro e w1 ⟨rfl, hw1, hb1⟩
    have HN := Lib.hid hw1
    clear hw1
    go_wp2_with fail
    go_ret
    exact ⟨rfl, HN.out, XG.out.trans hb1⟩
  · have C0 := rpNumber_any g M x (w.alloc (.cells (item7 x) 44)) hW (by unfold It.isNum; exact decide_eq_true h14)
    rw [← lineErr_num (M := M) hr (by unfold It.isNum; exact decide_eq_true h14)] at C0
    have C := Lib.hid C0
    clear C0
    have HW := Lib.hid hW
    have q5 : (x.k == 5) = false := by rw [beq_eq_false_iff_ne]; omega
    have q6 : (x.k == 6) = false := by rw [beq_eq_false_iff_ne]; omega
    have q7 : (x.k == 7) = false := by rw [beq_eq_false_iff_ne]; omega
    have q8 : (x.k == 8) = false := by rw [beq_eq_false_iff_ne]; omega
    have q9 : (x.k == 9) = false := by rw [beq_eq_false_iff_ne]; omega
    clear hW hM hr hk h14
    go_enter Tryz.func28, Tryz.ntmps28
    go_wp2_with fail
    refine C.out.mono ?_; rintro e w1 ⟨rfl, hw1, hb1⟩
    have HN := Lib.hid hw1
    clear hw1
    go_wp2_with fail
    go_ret
    exact ⟨rfl, HN.out, XG.out.trans hb1⟩
end Go.Proofs.YtaheiolbeiofpaaGreatDoor
/-
  The walk of the document's answer of layer 5: what a line lacks, when all are there.
-/
namespace Go.Proofs.YtaheiolbeiofpaaGreatDoor
open Go.RowKit

def LackGives (L : List It.Itm) (x : It.Itm) (w : World) (e : Ending) (w' : World) : Prop := e = .returned (.int .i64 (Pl.lackErr L x)) ∧ Below w.heap.size w w'
theorem LackGives.mk {L : List It.Itm} {x : It.Itm} {w w' : World} {e : Ending} (n : Int) (h : Pl.lackErr L x = n) (he : e = .returned (.int .i64 n)) (hb : Below w.heap.size w w') : LackGives L x w e w' := ⟨by rw [h]; exact he, hb⟩
theorem lack_other {L : List It.Itm} {x : It.Itm} (h1 : Pl.isS x = false) (h2 : Pl.isG x = false) : Pl.lackErr L x = 0 := by
  unfold Pl.lackErr
  rw [if_neg (by rw [h1]; simp), if_neg (by rw [h2]; simp)]
/-- An end that is open makes a section lack. -/
theorem lack_open {L : List It.Itm} {x : It.Itm} (hs : Pl.isS x = true) {e : Nat} (he : e < 3) (h : ((Pl.secG (Pl.gW L) x).get e).goes = -2) : Pl.lackErr L x = 7 := by
  have hen : e < Pl.nEnds (Pl.isPt x) := by
    by_cases hp : Pl.isPt x = true
    · rw [hp]; exact he
    · have hp' : Pl.isPt x = false := by simpa using hp
      have : e = 0 ∨ e = 1 ∨ e = 2 := by omega
      rcases this with rfl | rfl | rfl
      · rw [hp']; decide
      · rw [hp']; decide
      · have : ((Pl.secG (Pl.gW L) x).get 2) = Pl.stop := by
          show (if Pl.isPt x then _ else Pl.stop) = Pl.stop
          rw [hp']; rfl
        rw [this] at h; cases h
  rw [Pl.get_secG _ hen] at h
  have hp : Pl.partner L (Pl.tip x e) = none := by
    cases hpt : Pl.partner L (Pl.tip x e) with
    | none => rfl
    | some v =>
      simp only [Pl.gW, Pl.enW, hpt] at h
      cases v with
      | none => cases h
      | some u =>
        have : 0 ≤ Pl.pos (Pl.nmS L) u.n := by unfold Pl.pos; omega
        simp only at h
        omega
  unfold Pl.lackErr
  rw [if_pos hs, if_pos]
  rw [List.any_eq_true]
  exact ⟨e, List.mem_range.2 hen, by simpa using hp⟩
theorem lack_shut {L : List It.Itm} {x : It.Itm} (hs : Pl.isS x = true) (h : ∀ e < 3, ((Pl.secG (Pl.gW L) x).get e).goes ≠ -2) : Pl.lackErr L x = 0 := by
  unfold Pl.lackErr
  rw [if_pos hs, if_neg]
  intro hc
  obtain ⟨e, he, hp⟩ := List.any_eq_true.1 hc
  have he' := List.mem_range.1 he
  have h3 : e < 3 := by unfold Pl.nEnds at he'; split at he' <;> omega
  have := h e h3
  rw [Pl.get_secG _ he'] at this
  have hp' : Pl.partner L (Pl.tip x e) = none := by simpa using hp
  exact this (by simp [Pl.gW, Pl.enW, hp'])
theorem lack_sig {L : List It.Itm} {x : It.Itm} (hg : Pl.isG x = true) {y : It.Itm} {e : Nat} (ht : x.e0 = Pl.tip y e) : Pl.lackErr L x = if (Pl.gW L (Pl.tip y e)).goes < 0 then 8 else 0 := by
  unfold Pl.lackErr
  rw [if_neg (by rw [(Pl.sig_facts hg).2.1]; simp), if_pos hg, ht]
  cases hpt : Pl.partner L (Pl.tip y e) with
  | none => simp [Pl.gW, Pl.enW, hpt]
  | some v =>
    cases v with
    | none => simp [Pl.gW, Pl.enW, hpt]
    | some u =>
      have : 0 ≤ Pl.pos (Pl.nmS L) u.n := by unfold Pl.pos; omega
      simp only [Pl.gW, Pl.enW, hpt, Option.getD_some, Option.isSome_some, if_true]
      rw [if_neg (by omega)]
set_option maxHeartbeats 8000000 in
set_option maxRecDepth 100000 in
theorem rpLacks_any (g : Nat) (L : List It.Itm) (x : It.Itm) (w : World) (h : WorkAt 68 51 53 w g L) (hL : Pl.Ok L) (hx : x ∈ L) :
    Calls Tryz.prog 29 #[.pointer (some ⟨g, 0, none⟩), itemV x] w (LackGives L x w) := by
  have hr := hL.right x hx
  have hl : (Pl.wS L).length ≤ 1000000 := by rw [Pl.wS_len]; have := hL.few; omega
  obtain ⟨vS, vG, hX⟩ : ∃ vS vG, WorkX 68 51 53 w g L vS vG (Pl.wS L) (Pl.wG L) := h
  have hg := (Array.getElem?_eq_some_iff.1 hX.1).1
  obtain ⟨-, A, cp, rfl, -, hR⟩ := Lies.Row.of_own hX.2.1
  have X0 := Lib.hid ((Below.refl w.heap.size w).alloc (Nat.le_refl _) (.cells (item7 x) 44))
  obtain ⟨⟨k0, k1, k2, k3, k4, k5, k6⟩, -, g2⟩ := row7 (show (w.alloc (.cells (item7 x) 44)).heap[w.heap.size]? = some (.cells #[.int .i64 x.k, .string (txt x.name), .int .i64 x.n, .string (txt x.e0.n), .int .u8 x.e0.c.toNat, .string (txt x.e1.n), .int .u8 x.e1.c.toNat] 44 (0, 0)) from heap_alloc_new _ _)
  have hX0 := hX.below X0.out
  obtain ⟨⟨-, -, -, -, s4, -⟩, -, -, g1⟩ := work_row hX0.1
  have hk := Pl.right_kind hr
  have hk' : (1 ≤ x.k ∧ x.k ≤ 4) ∨ (x.k = 5 ∨ x.k = 6) ∨ (x.k = 7 ∨ x.k = 8) ∨ x.k = 9 := by omega
  rcases hk' with h14 | h56 | h78 | h9
  · have hN : Pl.isS x = false ∧ Pl.isG x = false := ⟨(Pl.num_facts (by unfold It.isNum; exact decide_eq_true h14)).1, (Pl.num_facts (by unfold It.isNum; exact decide_eq_true h14)).2.1⟩
    have P := Lib.hid (lack_other (L := L) hN.1 hN.2)
    have q5 : (x.k == 5) = false := by rw [beq_eq_false_iff_ne]; omega
    have q6 : (x.k == 6) = false := by rw [beq_eq_false_iff_ne]; omega
    have q9 : (x.k == 9) = false := by rw [beq_eq_false_iff_ne]; omega
    clear h14 hk hN hX hX0 hR hL hr hl
    go_enter Tryz.func29, Tryz.ntmps29
    go_wp2_with fail
    go_ret
    exact LackGives.mk _ P.out rfl X0.out
  · have hs : Pl.isS x = true := by unfold Pl.isS It.isLen; exact decide_eq_true (by omega)
    have hm : x ∈ Pl.secs L := Pl.mem_secs.2 ⟨hx, hs⟩
    obtain ⟨i, hi, hf⟩ : ∃ i, (Pl.secs L)[i]? = some x ∧ Pl.find (Pl.wS L) x.name = (i : Nat) := by
      rcases Pl.find_wS (M := L) x.name with ⟨hn, _⟩ | ⟨i, y, hf, hy, hn⟩
      · exact absurd (Pl.mem_nmS.2 ⟨x, hm, rfl⟩) hn
      · have := Pl.uniq hL.names (List.mem_of_getElem? hy) hm hn
        subst this
        exact ⟨i, hy, hf⟩
    have hin := (List.getElem?_eq_some_iff.1 (Pl.wS_of hi)).1
    obtain ⟨gb, cap, hvs⟩ := hX0.slice (by omega)
    obtain ⟨rfl, rfl⟩ : A = some ⟨gb, 0, none⟩ ∧ cp = cap := by cases hvs; exact ⟨rfl, rfl⟩
    have gb1 := (hX0.2.1.lt gb rfl).2
    have on := Lies.own_on hX0.2.1 (Pl.wS_of hi)
    have LO := Lib.hid (fun e => @lack_open L x hs e)
    have LS := Lib.hid (lack_shut (L := L) (x := x) hs)
    have FN := Lib.hid (fun W (h : Below (w.alloc (.cells (item7 x) 44)).heap.size (w.alloc (.cells (item7 x) 44)) W) => rpFind_any (some ⟨gb, 0, none⟩) cp (Pl.wS L) x.name W ((hR.below rfl X0.out).below rfl h) hl)
    rw [hf] at FN
    generalize Pl.secG (Pl.gW L) x = S0 at on LO LS
    obtain ⟨o0, o1, o2, o3, o4, o5, o6, o7, o8, o9, o10, o11⟩ := sec_on on
    rw [show i * LSec.m = i * 12 from rfl] at o0 o1 o2 o3 o4 o5 o6 o7 o8 o9 o10 o11
    have KS := Lib.hid (fun w' (hb : Below (w.alloc (.cells (item7 x) 44)).heap.size (w.alloc (.cells (item7 x) 44)) w') => show w'.cell? ⟨g, 4, none⟩ = some (.slice (some ⟨gb, 0, none⟩) (Pl.wS L).length cp) ∧ w'.cell? ⟨w.heap.size, 1, none⟩ = some (.string (txt x.name)) ∧ w'.cell? ⟨gb, i * 12, none⟩ = some (.string (txt S0.name)) ∧ w'.cell? ⟨gb, i * 12 + 1, none⟩ = some (.bool S0.pt) ∧ w'.cell? ⟨gb, i * 12 + 2, none⟩ = some (.int .i64 S0.len) ∧ w'.cell? ⟨gb, i * 12 + 3, none⟩ = some (.int .i64 S0.e0.goes) ∧ w'.cell? ⟨gb, i * 12 + 4, none⟩ = some (.int .i64 S0.e0.at_) ∧ w'.cell? ⟨gb, i * 12 + 5, none⟩ = some (.int .i64 S0.e0.sig) ∧ w'.cell? ⟨gb, i * 12 + 6, none⟩ = some (.int .i64 S0.e1.goes) ∧ w'.cell? ⟨gb, i * 12 + 7, none⟩ = some (.int .i64 S0.e1.at_) ∧ w'.cell? ⟨gb, i * 12 + 8, none⟩ = some (.int .i64 S0.e1.sig) ∧ w'.cell? ⟨gb, i * 12 + 9, none⟩ = some (.int .i64 S0.e2.goes) ∧ w'.cell? ⟨gb, i * 12 + 10, none⟩ = some (.int .i64 S0.e2.at_) ∧ w'.cell? ⟨gb, i * 12 + 11, none⟩ = some (.int .i64 S0.e2.sig) from
      have k := fun o => hb.cell (p := ⟨gb, o, none⟩) gb1
      ⟨(hb.cell (p := ⟨g, 4, none⟩) g1).trans s4, (hb.cell (p := ⟨w.heap.size, 1, none⟩) g2).trans k1, (k _).trans o0, (k _).trans o1, (k _).trans o2, (k _).trans o3, (k _).trans o4, (k _).trans o5, (k _).trans o6, (k _).trans o7, (k _).trans o8, (k _).trans o9, (k _).trans o10, (k _).trans o11⟩)
    have W0 := Lib.hid (Below.refl (w.alloc (.cells (item7 x) 44)).heap.size (w.alloc (.cells (item7 x) 44)))
    have q56 : (x.k == 5) = true ∨ ((x.k == 5) = false ∧ (x.k == 6) = true) := by
      rcases h56 with h | h
      · exact .inl (by rw [beq_iff_eq]; exact h)
      · exact .inr ⟨by rw [beq_eq_false_iff_ne]; omega, by rw [beq_iff_eq]; exact h⟩
    clear hvs on hf hi hm hs hX hX0 hR hL hr hl hk h56 hx
    rcases q56 with q5 | ⟨q5, q6⟩
    all_goals
      go_enter Tryz.func29, Tryz.ntmps29
      go_wp2_with fail
      go_region_held3 (fun w' => w'.cell? ⟨g, 4, none⟩ = some (.slice (some ⟨gb, 0, none⟩) (Pl.wS L).length cp) ∧ w'.cell? ⟨w.heap.size, 1, none⟩ = some (.string (txt x.name)) ∧ w'.cell? ⟨gb, i * 12, none⟩ = some (.string (txt S0.name)) ∧ w'.cell? ⟨gb, i * 12 + 1, none⟩ = some (.bool S0.pt) ∧ w'.cell? ⟨gb, i * 12 + 2, none⟩ = some (.int .i64 S0.len) ∧ w'.cell? ⟨gb, i * 12 + 3, none⟩ = some (.int .i64 S0.e0.goes) ∧ w'.cell? ⟨gb, i * 12 + 4, none⟩ = some (.int .i64 S0.e0.at_) ∧ w'.cell? ⟨gb, i * 12 + 5, none⟩ = some (.int .i64 S0.e0.sig) ∧ w'.cell? ⟨gb, i * 12 + 6, none⟩ = some (.int .i64 S0.e1.goes) ∧ w'.cell? ⟨gb, i * 12 + 7, none⟩ = some (.int .i64 S0.e1.at_) ∧ w'.cell? ⟨gb, i * 12 + 8, none⟩ = some (.int .i64 S0.e1.sig) ∧ w'.cell? ⟨gb, i * 12 + 9, none⟩ = some (.int .i64 S0.e2.goes) ∧ w'.cell? ⟨gb, i * 12 + 10, none⟩ = some (.int .i64 S0.e2.at_) ∧ w'.cell? ⟨gb, i * 12 + 11, none⟩ = some (.int .i64 S0.e2.sig))
        (first | exact KS.out _ W0.out.drew | exact KS.out _ (W0.out.alloc (Nat.le_refl _) _).drew | (refine KS.out _ ?_; (repeat (first | (with_reducible refine Below.setCell ?_ (Nat.le_refl _) _) | (with_reducible refine Below.drew ?_))); exact W0.out.alloc (Nat.le_refl _) _))
        (first
          | (go_at_call 14; (with_reducible refine (FN.out _ W0.out.drew).mono ?_); rintro e w' ⟨rfl, rfl⟩)
          | (go_at_call 14; (with_reducible refine (FN.out _ (W0.out.alloc (Nat.le_refl _) _).drew).mono ?_); rintro e w' ⟨rfl, rfl⟩))
      all_goals
        have RW : (((w.alloc (.cells (item7 x) 44)).alloc (.cells (secCells S0).toArray 51)).drew).heap[w.heap.size + 1]? = some (.cells (secCells S0).toArray 51 (0, 0)) := by
          have : (((w.alloc (.cells (item7 x) 44)).alloc (.cells (secCells S0).toArray 51)).drew).heap[(w.alloc (.cells (item7 x) 44)).heap.size]? = some (.cells (secCells S0).toArray 51 (0, 0)) := heap_alloc_new (w.alloc (.cells (item7 x) 44)) (.cells (secCells S0).toArray 51)
          rwa [show (w.alloc (.cells (item7 x) 44)).heap.size = w.heap.size + 1 by simp] at this
        have BW := (X0.out.alloc (by simp) (.cells (secCells S0).toArray 51)).drew
        change Exit.then _ _ _ _ (((w.alloc (.cells (item7 x) 44)).alloc (.cells (secCells S0).toArray 51)).drew)
        generalize ((w.alloc (.cells (item7 x) 44)).alloc (.cells (secCells S0).toArray 51)).drew = WR at RW BW ⊢
        have on1 : LSec.On WR (w.heap.size + 1) 0 S0 := fun j v hv => by
          have hv' : (secCells S0)[j]? = some v := hv
          rw [Nat.zero_add, (row12 RW).1 j]
          simpa using hv'
        have HO := Lib.hid (fun e he => on_to (e := e) on1 he)
        have HBW := Lib.hid BW
        clear RW BW on1 o0 o1 o2 o3 o4 o5 o6 o7 o8 o9 o10 o11 k0 k1 k2 k3 k4 k5 k6 s4
        go_wp2_with fail
        go_loop [6] (fun v => ∃ k : Nat, k ≤ 3 ∧ v = .int .i64 k ∧ ∀ j < k, (S0.get j).goes ≠ -2) (fun v => 3 - (intOf v).toNat)
        case atStart => exact ⟨0, Nat.zero_le _, rfl, fun j hj => absurd hj (by omega)⟩
        case round =>
          obtain ⟨k, hk, rfl, h0⟩ := hrel
          have H0 := Lib.hid h0
          clear h0
          by_cases hlt : k < 3
          · have t0 := HO.out k hlt
            rw [Nat.zero_add] at t0
            have d1 : decide ((k : Int) < 3) = true := dec_t (by omega)
            by_cases ho : (S0.get k).goes = -2
            · have P := Lib.hid (LO.out k hlt ho)
              have q : ((S0.get k).goes == -2) = true := by rw [beq_iff_eq]; exact ho
              clear ho
              go_wp2_with fail
              go_ret
              exact LackGives.mk _ P.out rfl HBW.out
            · have q : ((S0.get k).goes == -2) = false := by rw [beq_eq_false_iff_ne]; exact ho
              have NX := Lib.hid (show ∀ j < k + 1, (S0.get j).goes ≠ -2 from fun j hj => by
                rcases Nat.lt_or_ge j k with h | h
                · exact H0.out j h
                · obtain rfl : j = k := by omega
                  exact ho)
              clear ho
              go_wp2_with fail
              go_round
              case rel => exact ⟨k + 1, by omega, by go_num, NX.out⟩
              case measure => simp [intOf]; omega
          · have P := Lib.hid (LS.out fun e he => H0.out e (by omega))
            have d1 : decide ((k : Int) < 3) = false := dec_f (by omega)
            go_wp2_with fail
            go_ret
            exact LackGives.mk _ P.out rfl HBW.out
  · have hN : Pl.isS x = false ∧ Pl.isG x = false := ⟨(Pl.end_facts h78).2.1, (Pl.end_facts h78).2.2⟩
    have P := Lib.hid (lack_other (L := L) hN.1 hN.2)
    have q5 : (x.k == 5) = false := by rw [beq_eq_false_iff_ne]; omega
    have q6 : (x.k == 6) = false := by rw [beq_eq_false_iff_ne]; omega
    have q9 : (x.k == 9) = false := by rw [beq_eq_false_iff_ne]; omega
    clear h78 hk hN hX hX0 hR hL hr hl
    go_enter Tryz.func29, Tryz.ntmps29
    go_wp2_with fail
    go_ret
    exact LackGives.mk _ P.out rfl X0.out
  · have hG : Pl.isG x = true := by unfold Pl.isG; exact decide_eq_true h9
    obtain ⟨y0, hy0, f0, hf0, ht0⟩ := Pl.told_all hL hx (t := x.e0) (by unfold Pl.tips; rw [if_neg (by omega), if_neg (by omega), if_pos h9]; simp)
    have hz : Pl.tipErr L [] x.e0 = 0 := Pl.tipErr_zero.2 ⟨by rw [ht0]; exact Pl.mem_nmS.2 ⟨y0, hy0, rfl⟩, by rw [ht0, Pl.tip_at hL hy0 hf0]; rfl, by simp⟩
    obtain ⟨hE1, hE2⟩ := endI_err hL x.e0
    obtain ⟨i, e, y, hend, hy, he, ht⟩ := hE2 (hE1.trans hz)
    have he3 : e < 3 := by unfold Pl.nEnds at he; split at he <;> omega
    have hin := (List.getElem?_eq_some_iff.1 (Pl.wS_of hy)).1
    obtain ⟨gb, cap, hvs⟩ := hX0.slice (by omega)
    obtain ⟨rfl, rfl⟩ : A = some ⟨gb, 0, none⟩ ∧ cp = cap := by cases hvs; exact ⟨rfl, rfl⟩
    have EN := Lib.hid (fun W (h : Below (w.alloc (.cells (item7 x) 44)).heap.size (w.alloc (.cells (item7 x) 44)) W) => Made.of h (rpEnd_any (some ⟨gb, 0, none⟩) cp (Pl.wS L) x.e0 W ((hR.below rfl X0.out).below rfl h) hl (letter_ne (Pl.right_sig hr h9).2.2)))
    rw [hend] at EN
    have W0 := Lib.hid (Below.refl (w.alloc (.cells (item7 x) 44)).heap.size (w.alloc (.cells (item7 x) 44)))
    have LG := Lib.hid (lack_sig (L := L) hG ht)
    have HX := Lib.hid hX0
    have HY := Lib.hid hy
    have HE := Lib.hid he
    have q5 : (x.k == 5) = false := by rw [beq_eq_false_iff_ne]; omega
    have q6 : (x.k == 6) = false := by rw [beq_eq_false_iff_ne]; omega
    have q9 : (x.k == 9) = true := by rw [beq_iff_eq]; omega
    clear hvs hy he ht hend hE1 hE2 hz ht0 hf0 hy0 hG hX hX0 hR hL hr hl hk hx h9
    go_enter Tryz.func29, Tryz.ntmps29
    go_wp2_with fail
    go_region_held3 (fun w' => w'.cell? ⟨g, 4, none⟩ = some (.slice (some ⟨gb, 0, none⟩) (Pl.wS L).length cp) ∧ w'.cell? ⟨w.heap.size, 3, none⟩ = some (.string (txt x.e0.n)) ∧ w'.cell? ⟨w.heap.size, 4, none⟩ = some (.int .u8 x.e0.c.toNat))
      (first | exact ⟨s4, k3, k4⟩ | exact ⟨(hcell _ _ g1).trans s4, (hcell _ _ g2).trans k3, (hcell _ _ g2).trans k4⟩)
      (first
        | (go_at_call 65; (with_reducible refine (EN.out _ W0.out.drew).mono ?_); rintro e' w' ⟨rfl, hbl, hacc, hzz⟩; have hcell := (bcell hbl).1))
    have hX1 := HX.out.below hacc
    obtain ⟨S4, T0, -, -, -, G1, GB1, -, -⟩ := hX1.reads (Pl.wS_of HY.out) he3
    rw [Pl.get_secG _ HE.out] at T0
    have BF := Lib.hid (X0.out.trans (hacc.mono (Nat.le_of_lt g2)))
    clear hX1 hacc hbl hzz hcell s4 k0 k1 k2 k3 k4 k5 k6
    by_cases hneg : (Pl.gW L (Pl.tip y e)).goes < 0
    · have d : decide ((Pl.gW L (Pl.tip y e)).goes < 0) = true := dec_t hneg
      have P := Lib.hid (LG.out.trans (if_pos hneg))
      clear hneg
      go_wp2_with fail
      go_ret
      exact LackGives.mk _ P.out rfl BF.out
    · have d : decide ((Pl.gW L (Pl.tip y e)).goes < 0) = false := dec_f hneg
      have P := Lib.hid (LG.out.trans (if_neg hneg))
      clear hneg
      go_wp2_with fail
      go_ret
      exact LackGives.mk _ P.out rfl BF.out
end Go.Proofs.YtaheiolbeiofpaaGreatDoor
/-
  Plain mathematics of layer 5: from the order of telling to the order of the names. No program is named here.
-/
namespace Go.Proofs.YtaheiolbeiofpaaGreatDoor.Pl
open Go It

/-- The ranks of names, one for each. -/
def ranks (N : List Nm) : List Int := N.map (rank N)
def ren1 (R : List Int) (v : Int) : Int := if 0 ≤ v then R.getD v.toNat 0 else v
def renEn (R Q : List Int) (e : En) : En := ⟨ren1 R e.goes, e.at_, ren1 Q e.sig⟩
def renSec (R Q : List Int) (s : Sec) : Sec := ⟨s.name, s.pt, s.len, renEn R Q s.e0, renEn R Q s.e1, renEn R Q s.e2⟩
def renSig (R : List Int) (g : Sig) : Sig := ⟨g.name, ren1 R g.sec, g.en⟩
theorem ranks_len (N : List Nm) : (ranks N).length = N.length := by simp [ranks]
theorem ranks_at {N : List Nm} {i : Nat} {nm : Nm} (h : N[i]? = some nm) : (ranks N)[i]? = some (rank N nm) := by rw [ranks, List.getElem?_map, h]; rfl
theorem ren_pos {N : List Nm} {nm : Nm} (h : nm ∈ N) : ren1 (ranks N) (pos N nm) = rank N nm := by
  have hl : N.findIdx (fun a => decide (a = nm)) < N.length := List.findIdx_lt_length.2 ⟨nm, h, by simp⟩
  have he := List.findIdx_getElem (xs := N) (p := fun a => decide (a = nm)) (w := hl)
  have he' : N[N.findIdx (fun a => decide (a = nm))] = nm := of_decide_eq_true he
  unfold ren1 pos
  rw [if_pos (by omega), List.getD_eq_getElem?_getD, Int.toNat_natCast, ranks_at (List.getElem?_eq_getElem hl), he']
  rfl
theorem ren_neg {R : List Int} {v : Int} (h : v < 0) : ren1 R v = v := by unfold ren1; rw [if_neg (by omega)]
theorem partner_nm {M : List Itm} (hM : Ok M) {t u : Tp} (h : partner M t = some (some u)) : u.n ∈ nmS M := by
  have h2 := (partner_sym hM.ments h).1
  refine ments_nm hM (t := u) (Classical.byContradiction fun hc => ?_)
  rw [partner_none.2 hc] at h2
  cases h2
theorem ren_en {M : List Itm} (hM : Ok M) (t : Tp) : renEn (ranks (nmS M)) (ranks (nmG M)) (gW M t) = enW (rank (nmS M)) (rank (nmG M)) M t := by
  unfold renEn gW enW
  congr 1
  · rcases hp : partner M t with _ | _ | u
    · exact ren_neg (show (-2 : Int) < 0 by decide)
    · exact ren_neg (show (-1 : Int) < 0 by decide)
    · exact ren_pos (partner_nm hM hp)
  · rcases hs : sigAt M t with _ | g
    · exact ren_neg (show (-1 : Int) < 0 by decide)
    · obtain ⟨x, hx, -, rfl⟩ := sigAt_some hs
      exact ren_pos (List.mem_map.2 ⟨x, hx, rfl⟩)
theorem ren_stop (R Q : List Int) : renEn R Q stop = stop := by
  unfold renEn stop
  rw [ren_neg (by decide)]
  congr 1
theorem ren_sec {M : List Itm} (hM : Ok M) (x : Itm) : renSec (ranks (nmS M)) (ranks (nmG M)) (secG (gW M) x) = secW (rank (nmS M)) (rank (nmG M)) M x := by
  unfold renSec secG secW
  simp only
  rw [ren_en hM, ren_en hM]
  congr 1
  cases isPt x
  · exact ren_stop _ _
  · exact ren_en hM _
theorem ren_sig {M : List Itm} (hM : Ok M) {x : Itm} (hx : x ∈ sigs M) : renSig (ranks (nmS M)) (sigW (pos (nmS M)) M x) = sigW (rank (nmS M)) M x := by
  unfold renSig sigW
  congr 1
  exact ren_pos (sig_nm hM hx)
theorem fin_secs_len (M : List Itm) : (fin M).secs.length = (wS M).length := by simp [fin, wS, isort_len]
theorem fin_sigs_len (M : List Itm) : (fin M).sigs.length = (wG M).length := by simp [fin, wG, isort_len]
theorem isort_names {l : List Itm} : ((isort Itm.name l).map (·.name)).Perm (l.map (·.name)) := (isort_perm Itm.name l).map _
theorem fin_sec_at {M : List Itm} (hM : Ok M) {i : Nat} {s : Sec} (h : (wS M)[i]? = some s) :
    (fin M).secs[(rank (nmS M) s.name).toNat]? = some (renSec (ranks (nmS M)) (ranks (nmG M)) s) := by
  obtain ⟨x, hx, rfl⟩ := wS_at h
  rw [ren_sec hM]
  have h1 := at_rank (isort_rise Itm.name (secs M) hM.names) ((isort_mem Itm.name).2 (List.mem_of_getElem? hx))
  rw [rank_perm isort_names] at h1
  show ((isort Itm.name (secs M)).map (secW (rank (nmS M)) (rank (nmG M)) M))[(rank (nmS M) x.name).toNat]? = _
  rw [List.getElem?_map]
  rw [show (isort Itm.name (secs M))[(rank (nmS M) x.name).toNat]? = some x from h1]
  rfl
theorem fin_sig_at {M : List Itm} (hM : Ok M) {i : Nat} {g : Sig} (h : (wG M)[i]? = some g) :
    (fin M).sigs[(rank (nmG M) g.name).toNat]? = some (renSig (ranks (nmS M)) g) := by
  rw [wG, List.getElem?_map, Option.map_eq_some_iff] at h
  obtain ⟨x, hx, rfl⟩ := h
  rw [ren_sig hM (List.mem_of_getElem? hx)]
  have h1 := at_rank (isort_rise Itm.name (sigs M) hM.gnames) ((isort_mem Itm.name).2 (List.mem_of_getElem? hx))
  rw [rank_perm isort_names] at h1
  show ((isort Itm.name (sigs M)).map (sigW (rank (nmS M)) M))[(rank (nmG M) x.name).toNat]? = _
  rw [List.getElem?_map]
  rw [show (isort Itm.name (sigs M))[(rank (nmG M) x.name).toNat]? = some x from h1]
  rfl
/-- Every place of a list in order is somebody's rank. -/
theorem rank_onto {l : List Itm} (hn : (l.map (·.name)).Nodup) {p : Nat} (hp : p < l.length) : ∃ i, i < l.length ∧ ∀ nm, (l.map (·.name))[i]? = some nm → (rank (l.map (·.name)) nm).toNat = p := by
  have hp' : p < (isort Itm.name l).length := by rw [isort_len]; exact hp
  have hm : (isort Itm.name l)[p] ∈ l := (isort_mem Itm.name).1 (List.getElem_mem hp')
  obtain ⟨i, hi, e⟩ := List.getElem_of_mem hm
  refine ⟨i, hi, fun nm h => ?_⟩
  rw [List.getElem?_map, List.getElem?_eq_getElem hi] at h
  obtain rfl : l[i].name = nm := by simpa using h
  rw [← rank_perm isort_names, rank_at (rise_map (isort_rise Itm.name l hn)) p _ (by rw [List.getElem?_map, List.getElem?_eq_getElem hp', ← e]; rfl)]
  simp
end Go.Proofs.YtaheiolbeiofpaaGreatDoor.Pl
