/-
  Texts of this claim, merged: PlDrH, PlDrI, PlRefL, PlDrJ.
-/
import Derived.Test.YtaheiolbeiofpaaGreatDoorMg09
import Derived.Test.YtaheiolbeiofpaaGreatDoorMg14
import Derived.Test.YtaheiolbeiofpaaGreatDoorMg16
import Derived.Deep.CutRange
/-
  The walk of the program's draft of layer 5: a signal more.
-/
namespace Go.Proofs.YtaheiolbeiofpaaGreatDoor
open Go.RowKit

theorem endI_dS (M : List It.Itm) (t : It.Tp) : endI (Pl.dS M) t = endI (Pl.wS M) t := by
  have hf : Pl.find (Pl.dS M) t.n = Pl.find (Pl.wS M) t.n := by unfold Pl.find Pl.dS; rw [List.findIdx?_map]; rfl
  have hp : ∀ i, ptAt (Pl.dS M) i = ptAt (Pl.wS M) i := fun i => by
    unfold ptAt Pl.dS
    rw [List.getElem?_map]
    cases (Pl.wS M)[i.toNat]? <;> rfl
  unfold endI
  rw [hf, hp]
set_option maxHeartbeats 4000000 in
set_option maxRecDepth 100000 in
theorem pNamedG (nm : Pl.Nm) (B : Nat) (w : World) (hB : B < w.heap.size) (hcell : w.cell? ⟨B, 1, none⟩ = some (.string (txt nm))) :
    PredBelow Tryz.prog 81 #[.pointer (some ⟨B, 0, none⟩)] (fun x => .agg (sigCells x).toArray) (fun x => decide (x.name = nm)) w := fun W x hb => by
  have hc : W.cell? ⟨B, 1, none⟩ = some (.string (txt nm)) := (hb.cell (p := ⟨B, 1, none⟩) hB).trans hcell
  have hBW : B < W.heap.size := Nat.lt_of_lt_of_le hB hb.size
  have hne : B ≠ W.heap.size := by omega
  have HB := Lib.hid hb
  have hs := hb.size
  show Calls Tryz.prog 81 #[.agg #[.string (txt x.name), .int .i64 x.sec, .int .i64 x.en], .pointer (some ⟨B, 0, none⟩)] W _
  clear hb hcell
  by_cases h : x.name = nm
  · have h1 := txt_eqB h
    have P := Lib.hid (decide_eq_true h)
    clear h
    go_enter Tryz.func81, Tryz.ntmps81
    go_wp2
    go_ret
    exact ⟨by rw [P.out]; rfl, HB.out.alloc hs _⟩
  · have h1 := txt_neB h
    have P := Lib.hid (decide_eq_false h)
    clear h
    go_enter Tryz.func81, Tryz.ntmps81
    go_wp2
    go_ret
    exact ⟨by rw [P.out]; rfl, HB.out.alloc hs _⟩
set_option maxHeartbeats 4000000 in
set_option maxRecDepth 100000 in
theorem pStands_any (nm : Pl.Nm) (i e : Int) (w : World) :
    Calls Tryz.prog 83 #[.agg #[.string (txt nm), .int .i64 i, .int .i64 e]] w fun x w' => x = .returned (.agg #[.int .i64 i, .int .i64 e]) ∧ Below w.heap.size w w' := by
  have hb0 := Lib.hid (((Below.refl w.heap.size w).alloc (Nat.le_refl _) (.cells #[.string (txt nm), .int .i64 i, .int .i64 e] 53)).alloc (by simp) (.cells #[.int .i64 i, .int .i64 e] 90))
  go_enter Tryz.func83, Tryz.ntmps83
  go_wp2_with fail
  refine bodyPost_ret ?_ rfl ⟨rfl, hb0.out⟩
  simp [results, Tryz.results83, go_sem]
set_option maxHeartbeats 4000000 in
set_option maxRecDepth 100000 in
theorem pAtG (i e : Nat) (B : Nat) (w : World) (hB : B < w.heap.size) (h0 : w.cell? ⟨B, 0, none⟩ = some (.int .i64 i)) (h1 : w.cell? ⟨B, 1, none⟩ = some (.int .i64 e)) :
    PredBelow Tryz.prog 82 #[.pointer (some ⟨B, 0, none⟩)] (fun x => .agg (sigCells x).toArray) (fun x => decide (x.sec = i ∧ x.en = e)) w := fun W x hb => by
  have hc0 : W.cell? ⟨B, 0, none⟩ = some (.int .i64 i) := (hb.cell (p := ⟨B, 0, none⟩) hB).trans h0
  have hc1 : W.cell? ⟨B, 1, none⟩ = some (.int .i64 e) := (hb.cell (p := ⟨B, 1, none⟩) hB).trans h1
  have hBW : B < W.heap.size := Nat.lt_of_lt_of_le hB hb.size
  have HB := Lib.hid (hb.alloc hb.size (.cells #[.string (txt x.name), .int .i64 x.sec, .int .i64 x.en] 53))
  have ST := Lib.hid (fun W' (h : Below w.heap.size w W') => Made.of h (pStands_any x.name x.sec x.en W'))
  have hs := hb.size
  have g1 : B < (W.alloc (.cells #[.string (txt x.name), .int .i64 x.sec, .int .i64 x.en] 53)).heap.size := by simp; omega
  have C0 : (W.alloc (.cells #[.string (txt x.name), .int .i64 x.sec, .int .i64 x.en] 53)).cell? ⟨B, 0, none⟩ = some (.int .i64 i) := Lib.cell?_alloc_some _ hc0
  have C1 : (W.alloc (.cells #[.string (txt x.name), .int .i64 x.sec, .int .i64 x.en] 53)).cell? ⟨B, 1, none⟩ = some (.int .i64 e) := Lib.cell?_alloc_some _ hc1
  obtain ⟨c0, c1, c2⟩ : (W.alloc (.cells #[.string (txt x.name), .int .i64 x.sec, .int .i64 x.en] 53)).cell? ⟨W.heap.size, 0, none⟩ = some (.string (txt x.name)) ∧ (W.alloc (.cells #[.string (txt x.name), .int .i64 x.sec, .int .i64 x.en] 53)).cell? ⟨W.heap.size, 1, none⟩ = some (.int .i64 x.sec) ∧ (W.alloc (.cells #[.string (txt x.name), .int .i64 x.sec, .int .i64 x.en] 53)).cell? ⟨W.heap.size, 2, none⟩ = some (.int .i64 x.en) :=
    ⟨cell_of_row _ _ 0 _ _ _ (heap_alloc_new _ _), cell_of_row _ _ 1 _ _ _ (heap_alloc_new _ _), cell_of_row _ _ 2 _ _ _ (heap_alloc_new _ _)⟩
  have g2 : W.heap.size < (W.alloc (.cells #[.string (txt x.name), .int .i64 x.sec, .int .i64 x.en] 53)).heap.size := by simp
  show Calls Tryz.prog 82 #[.agg #[.string (txt x.name), .int .i64 x.sec, .int .i64 x.en], .pointer (some ⟨B, 0, none⟩)] W _
  clear hb h0 h1
  by_cases a1 : x.sec = i
  · by_cases a2 : x.en = e
    · have q1 : (x.sec == (i : Int)) = true := by rw [beq_iff_eq]; exact a1
      have q2 : (x.en == (e : Int)) = true := by rw [beq_iff_eq]; exact a2
      have P := Lib.hid (decide_eq_true (And.intro a1 a2))
      clear a1 a2
      go_enter Tryz.func82, Tryz.ntmps82
      go_wp2_with fail
      go_region_held3 (fun w' => w'.cell? ⟨B, 0, none⟩ = some (.int .i64 i) ∧ w'.cell? ⟨B, 1, none⟩ = some (.int .i64 e) ∧ w'.cell? ⟨W.heap.size, 0, none⟩ = some (.string (txt x.name)) ∧ w'.cell? ⟨W.heap.size, 1, none⟩ = some (.int .i64 x.sec) ∧ w'.cell? ⟨W.heap.size, 2, none⟩ = some (.int .i64 x.en))
        (first | exact ⟨C0, C1, c0, c1, c2⟩ | exact ⟨(hcell _ _ g1).trans C0, (hcell _ _ g1).trans C1, (hcell _ _ g2).trans c0, (hcell _ _ g2).trans c1, (hcell _ _ g2).trans c2⟩)
        (first
          | (go_at_call 83; (with_reducible refine (ST.out _ HB.out.drew).mono ?_); rintro e w' ⟨rfl, hbl, hacc, hz⟩; have hcell := (bcell hbl).1)
          | (go_at_call 83; (with_reducible refine (ST.out _ (below_drewN HB.out _)).mono ?_); rintro e w' ⟨rfl, hbl, hacc, hz⟩; have hcell := (bcell hbl).1))
      all_goals go_wp2_with fail
      all_goals go_ret
      all_goals exact ⟨by rw [P.out]; rfl, hacc⟩
    · have q1 : (x.sec == (i : Int)) = true := by rw [beq_iff_eq]; exact a1
      have q2 : (x.en == (e : Int)) = false := by rw [beq_eq_false_iff_ne]; exact a2
      have P := Lib.hid (decide_eq_false (fun h : x.sec = i ∧ x.en = e => a2 h.2))
      clear a1 a2
      go_enter Tryz.func82, Tryz.ntmps82
      go_wp2_with fail
      go_region_held3 (fun w' => w'.cell? ⟨B, 0, none⟩ = some (.int .i64 i) ∧ w'.cell? ⟨B, 1, none⟩ = some (.int .i64 e) ∧ w'.cell? ⟨W.heap.size, 0, none⟩ = some (.string (txt x.name)) ∧ w'.cell? ⟨W.heap.size, 1, none⟩ = some (.int .i64 x.sec) ∧ w'.cell? ⟨W.heap.size, 2, none⟩ = some (.int .i64 x.en))
        (first | exact ⟨C0, C1, c0, c1, c2⟩ | exact ⟨(hcell _ _ g1).trans C0, (hcell _ _ g1).trans C1, (hcell _ _ g2).trans c0, (hcell _ _ g2).trans c1, (hcell _ _ g2).trans c2⟩)
        (first
          | (go_at_call 83; (with_reducible refine (ST.out _ HB.out.drew).mono ?_); rintro e w' ⟨rfl, hbl, hacc, hz⟩; have hcell := (bcell hbl).1)
          | (go_at_call 83; (with_reducible refine (ST.out _ (below_drewN HB.out _)).mono ?_); rintro e w' ⟨rfl, hbl, hacc, hz⟩; have hcell := (bcell hbl).1))
      all_goals go_wp2_with fail
      all_goals go_ret
      all_goals exact ⟨by rw [P.out]; rfl, hacc⟩
  · have q1 : (x.sec == (i : Int)) = false := by rw [beq_eq_false_iff_ne]; exact a1
    have P := Lib.hid (decide_eq_false (fun h : x.sec = i ∧ x.en = e => a1 h.1))
    clear a1
    go_enter Tryz.func82, Tryz.ntmps82
    go_wp2_with fail
    go_region_held3 (fun w' => w'.cell? ⟨B, 0, none⟩ = some (.int .i64 i) ∧ w'.cell? ⟨B, 1, none⟩ = some (.int .i64 e) ∧ w'.cell? ⟨W.heap.size, 0, none⟩ = some (.string (txt x.name)) ∧ w'.cell? ⟨W.heap.size, 1, none⟩ = some (.int .i64 x.sec) ∧ w'.cell? ⟨W.heap.size, 2, none⟩ = some (.int .i64 x.en))
      (first | exact ⟨C0, C1, c0, c1, c2⟩ | exact ⟨(hcell _ _ g1).trans C0, (hcell _ _ g1).trans C1, (hcell _ _ g2).trans c0, (hcell _ _ g2).trans c1, (hcell _ _ g2).trans c2⟩)
      (first
        | (go_at_call 83; (with_reducible refine (ST.out _ HB.out.drew).mono ?_); rintro e w' ⟨rfl, hbl, hacc, hz⟩; have hcell := (bcell hbl).1)
        | (go_at_call 83; (with_reducible refine (ST.out _ (below_drewN HB.out _)).mono ?_); rintro e w' ⟨rfl, hbl, hacc, hz⟩; have hcell := (bcell hbl).1))
    all_goals go_wp2_with fail
    all_goals go_ret
    all_goals exact ⟨by rw [P.out]; rfl, hacc⟩
end Go.Proofs.YtaheiolbeiofpaaGreatDoor
/-
  The walk of the program's draft of layer 5: a signal more.
-/
namespace Go.Proofs.YtaheiolbeiofpaaGreatDoor
open Go.RowKit

set_option maxHeartbeats 4000000 in
set_option maxRecDepth 100000 in
theorem pIndexSig_none (A : Option Addr) (c : Nat) (fv : Value) (w : World) :
    Calls Tryz.prog 99 #[.slice A 0 c, fv] w fun e w' => e = .returned (.int .i64 (-1)) ∧ w = w' := by
  go_enter Tryz.func99, Tryz.ntmps99
  go_wp2
  go_loopg [5, 8] 0 (fun gg _ s8 wr => s8 = .int .i64 0 ∧ w = wr)
  case atStart => exact ⟨rfl, rfl⟩
  case round =>
    obtain ⟨rfl, rfl⟩ := hrel
    go_wp2
    go_ret
    exact ⟨rfl, rfl⟩
set_option maxHeartbeats 4000000 in
set_option maxRecDepth 100000 in
theorem pHasSig_none (A : Option Addr) (c : Nat) (fv : Value) (w : World) :
    Calls Tryz.prog 80 #[.slice A 0 c, fv] w fun e w' => e = .returned (.bool false) ∧ w = w' := by
  have IX := Lib.hid (fun W => pIndexSig_none A c fv W)
  go_enter Tryz.func80, Tryz.ntmps80
  go_wp2_with fail
  refine (IX.out _).mono ?_; rintro e w1 ⟨rfl, rfl⟩
  go_wp2_with fail
  go_ret
  exact ⟨rfl, rfl⟩
theorem pHasSig (A : Option Addr) (c : Nat) (LG : List Pl.Sig) (p : Pl.Sig → Bool) (g : Nat) (lb : Array Value) (w : World) (eg : ∀ args w, (callFunc g args).run Tryz.prog w = .ok (.enter g args) w) (h : LSig.Row w A LG) (hl : LG.length ≤ 1000)
    (hp : PredBelow Tryz.prog g lb (fun x => .agg (sigCells x).toArray) p w) :
    Calls Tryz.prog 80 #[.slice A LG.length c, .func (.func g) #[] lb] w fun e w' => e = .returned (.bool (LG.any p)) ∧ Below w.heap.size w w' := by
  rcases h with rfl | ⟨b, o, rfl, hb, hR⟩
  · refine (pHasSig_none A c _ w).mono ?_
    rintro e w' ⟨rfl, rfl⟩
    exact ⟨rfl, Below.refl _ _⟩
  · have := AnyQ.slices_ContainsFunc Tryz.layHasSig 3 Tryz.isAgg53 Tryz.sizeOf53 sigCells (fun _ => rfl) p g lb eg b o LG.length c LG w hp (Nat.le_refl _) (by omega) hb (row_cells hR)
    rw [List.take_of_length_le (Nat.le_refl _)] at this
    exact this
/-- The draft's signals have grown. -/
theorem DrX.signals {tD tS tG : TypeId} {w w1 w2 : World} {g : Nat} {M : List It.Itm} {vS vG v' : Value} {LS : List Pl.Sec} {LG : List Pl.Sig} {z : Pl.Sig} {g' cap' : Nat} (h : DrX tD tS tG w g M vS vG LS LG)
    (hb : Below w.heap.size w w1) (hgr : w1.grownBy w2 vG.ownBlock) (hv : v' = .slice (some ⟨g', 0, none⟩) (LG.length + 1) cap') (hown : w2.ownsRow (g + 1) tG LSig.m v' (LG.length + 1) (LSig.all LG ++ LSig.enc z)) (hg' : vG.ownBlock = some g' ∨ w.heap.size ≤ g') :
    DrX tD tS tG (w2.setCell ⟨g, 11, none⟩ v') g M vS v' LS (LG ++ [z]) ∧ Below g w (w2.setCell ⟨g, 11, none⟩ v') := by
  obtain ⟨hrow, hS, hG, hap⟩ := h
  have hg := (Array.getElem?_eq_some_iff.1 hrow).1
  have hbs := hb.size
  have hne : some g ≠ vG.ownBlock := fun e => by have := (hG.lt g e.symm).1; omega
  have row2 : w2.heap[g]? = some (.cells (draftCells M vS vG) tD (0, 0)) := by rw [hgr.block g (by omega) hne, hb.block g hg]; exact hrow
  refine ⟨⟨?_, ?_, ?_, ?_⟩, ?_⟩
  · rw [heap_setCell_same _ _ _ _ _ _ row2]; rfl
  · refine ownsRow_setCell_below (own_kept hS fun b hb' => ?_) (a := ⟨g, 11, none⟩) (by show g < g + 1; omega) v'
    have hlt := (hS.lt b hb').2
    rw [hgr.block b (by omega) (fun e => hap b hb' e.symm), hb.block b hlt]
  · rw [List.length_append, List.length_singleton, LSig.all_append, LSig.all_one]
    exact ownsRow_setCell_below hown (a := ⟨g, 11, none⟩) (by show g < g + 1; omega) v'
  · subst hv
    intro k hk1 hk2
    have : g' = k := by simpa [Value.ownBlock] using hk2
    subst this
    rcases hg' with h | h
    · exact hap g' hk1 h
    · have := (hS.lt g' hk1).2; omega
  · have hb' : Below g w w1 := hb.mono (Nat.le_of_lt hg)
    exact (hb'.grown hgr (by omega) (fun k hk => by have := (hG.lt k hk).1; omega)).setCell (Nat.le_refl _) _
/-- The signals have grown, and are stored. -/
def SigGrown (g : Nat) (tG : TypeId) (LG : List Pl.Sig) (z : Pl.Sig) (vG : Value) (w3 w' : World) : Prop := ∃ (g' cap' : Nat) (w4 : World), w' = w4.setCell ⟨g, 11, none⟩ (.slice (some ⟨g', 0, none⟩) (LG.length + 1) cap') ∧ w4.ownsRow (g + 1) tG LSig.m (.slice (some ⟨g', 0, none⟩) (LG.length + 1) cap') (LG.length + 1) (LSig.all LG ++ LSig.enc z) ∧ (w3.drew.alloc (.cells (sigCells z).toArray tG)).grownBy w4 vG.ownBlock ∧ (vG.ownBlock = some g' ∨ w3.heap.size ≤ g')
set_option maxHeartbeats 8000000 in
set_option maxRecDepth 100000 in
theorem pSignal_any (g : Nat) (M : List It.Itm) (x : It.Itm) (w : World) (h : DrAt tyD tyS tyG w g M) (hM : Pl.Ok M) (hr : It.right x = true) (h9 : x.k = 9) :
    Calls Tryz.prog 47 #[.pointer (some ⟨g, 0, none⟩), itemV x] w (DrGives tyD tyS tyG g M x (Pl.sigErr M x) w) := by
  have hc0 := letter_ne (Pl.right_sig hr h9).2.2
  have hl : (Pl.dS M).length ≤ 1000 := by rw [Pl.dS_len]; have := hM.few; omega
  have hlG : (Pl.wG M).length ≤ 12 := by rw [Pl.wG_len]; exact hM.gfew
  obtain ⟨vS, vG, hX⟩ := h
  obtain ⟨-, A, cp, rfl, hcap, hR⟩ := Lies.Row.of_own hX.2.2.1
  obtain ⟨-, -, ⟨-, s11⟩, -, hg⟩ := draft_row hX.1
  have X0 := Lib.hid ((Below.refl w.heap.size w).alloc (Nat.le_refl _) (.cells (item7 x) 44))
  have R7 := Lib.hid (show (w.alloc (.cells (item7 x) 44)).heap[w.heap.size]? = some (.cells #[.int .i64 x.k, .string (txt x.name), .int .i64 x.n, .string (txt x.e0.n), .int .u8 x.e0.c.toNat, .string (txt x.e1.n), .int .u8 x.e1.c.toNat] 44 (0, 0)) from heap_alloc_new _ _)
  obtain ⟨⟨k0, k1, k2, k3, k4, k5, k6⟩, -, g2⟩ := row7 R7.out
  have K11 : (w.alloc (.cells (item7 x) 44)).cell? ⟨g, 11, none⟩ = some (.slice A (Pl.wG M).length cp) := by
    rw [X0.out.cell (show (⟨g, 11, none⟩ : Addr).block < w.heap.size from hg)]; exact s11
  have g1 : g < (w.alloc (.cells (item7 x) 44)).heap.size := Nat.lt_trans hg g2
  have eg1 : ∀ args w, (callFunc 81 args).run Tryz.prog w = .ok (.enter 81 args) w := enters_of Tryz.func81 (by kernel_rfl) rfl
  have eg2 : ∀ args w, (callFunc 82 args).run Tryz.prog w = .ok (.enter 82 args) w := enters_of Tryz.func82 (by kernel_rfl) rfl
  have CF := Lib.hid (pHasSig A cp (Pl.wG M) (fun s => decide (s.name = x.name)) _ _ _ eg1 (hR.below rfl X0.out) (by omega) (pNamedG x.name w.heap.size (w.alloc (.cells (item7 x) 44)) g2 k1))
  rw [Pl.named_iff] at CF
  have HX := Lib.hid hX
  have HL := Lib.hid hl
  have H9 := Lib.hid h9
  have HC0 := Lib.hid hc0
  have EG2 := Lib.hid eg2
  have HRr := Lib.hid hR
  clear hX hc0 hl h9 hr hcap eg1 eg2 hR
  by_cases hn : x.name ∈ Pl.nmG M
  · have P := Lib.hid (show Pl.sigErr M x = 3 by unfold Pl.sigErr; rw [if_pos hn])
    rw [decide_eq_true hn] at CF
    clear hn hM
    go_enter Tryz.func47, Tryz.ntmps47
    go_wp2_with fail
    refine CF.out.mono ?_; rintro e w1 ⟨rfl, hb1⟩
    have BF := Lib.hid ((X0.out.trans (hb1.mono X0.out.size)).mono (Nat.le_of_lt hg))
    clear hb1
    go_wp2_with fail
    go_ret
    exact ⟨by rw [P.out]; rfl, fun h => (by rw [P.out] at h; cases h), BF.out⟩
  · rw [decide_eq_false hn] at CF
    have SP := Lib.hid (fun W hW => pSpot_any g M vS (.slice A (Pl.wG M).length cp) (Pl.dS M) (Pl.wG M) x.e0 W hW HL.out HC0.out)
    have EI := endI_err hM x.e0
    rw [← endI_dS] at EI
    unfold SpotGives at SP
    obtain ⟨he1, he2⟩ := EI
    generalize hEI : endI (Pl.dS M) x.e0 = r at SP he1 he2
    obtain ⟨ra, rb, rc⟩ := r
    simp only at SP he1 he2
    have HN := Lib.hid hn
    by_cases hc : rc = 0
    · obtain ⟨i, e, y, hr, hy, he, ht⟩ := he2 hc
      cases hr
      have HY := Lib.hid hy
      have HE := Lib.hid he
      have HT := Lib.hid ht
      have HM := Lib.hid hM
      have HE1 := Lib.hid he1
      have ST := Lib.hid (Pl.stands_iff hM hy he)
      rw [← ht] at ST
      clear hy he ht hM he1 he2 hc hEI hn
      obtain ⟨i0, hi, hq0, hq1, hq2⟩ := info_parts infoSig
      go_enter Tryz.func47, Tryz.ntmps47
      go_wp2_with fail
      refine CF.out.mono ?_; rintro e' w1 ⟨rfl, hb1⟩
      obtain ⟨⟨j0, j1, j2, j3, j4, j5, j6⟩, -, gj⟩ := row7 ((hb1.block _ g2).trans R7.out)
      have hb01 := X0.out.trans (hb1.mono X0.out.size)
      have SS := Lib.hid (SP.out w1 (HX.out.below hb01))
      have BF := Lib.hid hb01
      have R71 := Lib.hid ((hb1.block _ g2).trans R7.out)
      clear hb1 hb01
      go_wp2_with fail
      refine SS.out.mono ?_; rintro e' w2 ⟨rfl, hb2⟩
      have BF2 := Lib.hid (BF.out.trans (hb2.mono BF.out.size))
      have hz2 := BF2.out.size
      have R72 := Lib.hid ((hb2.block _ gj).trans R71.out)
      have gw2 := (Array.getElem?_eq_some_iff.1 R72.out).1
      have S11 := (BF2.out.cell (show (⟨g, 11, none⟩ : Addr).block < w.heap.size from hg)).trans s11
      have gg2 : g < w2.heap.size := by omega
      have BA := Lib.hid (BF2.out.alloc hz2 (.cells #[.int .i64 i, .int .i64 e] 90))
      have HSP := Lib.hid (show (w2.alloc (.cells #[.int .i64 i, .int .i64 e] 90)).heap[w2.heap.size]? = some (.cells #[.int .i64 i, .int .i64 e] 90 (0, 0)) from heap_alloc_new _ _)
      have CG := Lib.hid (pHasSig A cp (Pl.wG M) _ _ _ _ EG2.out (HRr.out.below rfl BA.out) (by omega) (pAtG i e w2.heap.size (w2.alloc (.cells #[.int .i64 i, .int .i64 e] 90)) (by simp) (cell_of_row _ _ 0 _ _ _ HSP.out) (cell_of_row _ _ 1 _ _ _ HSP.out)))
      rw [ST.out] at CG
      clear hb2
      cases hsg : (Pl.sigAt M x.e0).isSome
      · rw [hsg] at CG
        have HSG := Lib.hid hsg
        clear hsg
        by_cases h12 : (Pl.wG M).length = 12
        · have q12 : (((Pl.wG M).length : Int) == 12) = true := by rw [beq_iff_eq]; omega
          have P := Lib.hid (show Pl.sigErr M x = 9 by unfold Pl.sigErr; rw [if_neg HN.out, ← HE1.out, HSG.out, if_neg (fun h => h rfl), if_neg (by decide), if_pos (by rw [← Pl.wG_len]; exact h12)])
          clear h12
          go_wp2_with fail
          refine CG.out.mono ?_; rintro e' w3 ⟨rfl, hb3⟩
          have BF3 := Lib.hid (BA.out.trans (hb3.mono BA.out.size))
          have T11 := (BF3.out.cell (show (⟨g, 11, none⟩ : Addr).block < w.heap.size from hg)).trans s11
          clear hb3
          go_wp2_with fail
          go_ret
          exact ⟨by rw [P.out]; rfl, fun h => (by rw [P.out] at h; cases h), BF3.out.mono (Nat.le_of_lt hg)⟩
        · have q12 : (((Pl.wG M).length : Int) == 12) = false := by rw [beq_eq_false_iff_ne]; omega
          have P := Lib.hid (show Pl.sigErr M x = 0 by unfold Pl.sigErr; rw [if_neg HN.out, ← HE1.out, HSG.out, if_neg (fun h => h rfl), if_neg (by decide), if_neg (by rw [← Pl.wG_len]; exact h12)])
          clear h12
          go_wp2_with fail
          refine CG.out.mono ?_; rintro e' w3 ⟨rfl, hb3⟩
          have BF3 := Lib.hid (BA.out.trans (hb3.mono BA.out.size))
          have T11 := (BF3.out.cell (show (⟨g, 11, none⟩ : Addr).block < w.heap.size from hg)).trans s11
          have HSP3 := Lib.hid ((hb3.block _ (by simp)).trans HSP.out)
          obtain ⟨⟨m0, m1⟩, gm⟩ := row2c HSP3.out
          have R73 := Lib.hid ((hb3.block _ (by simp; omega)).trans ((heap_alloc_old _ _ gw2).trans R72.out))
          obtain ⟨⟨-, n1, -, -, -, -, -⟩, -, gn⟩ := row7 R73.out
          have HN1 := Lib.hid (show some w.heap.size ≠ (Value.slice A (Pl.wG M).length cp).ownBlock from fun h => by have := (HX.out.2.2.1.lt _ h.symm).2; omega)
          have HN2 := Lib.hid (show some w2.heap.size ≠ (Value.slice A (Pl.wG M).length cp).ownBlock from fun h => by have := (HX.out.2.2.1.lt _ h.symm).2; omega)
          have hX3 := HX.out.below BF3.out
          obtain ⟨-, -, -, fz, gz⟩ := draft_row hX3.1
          have F11 := fz 11
          have NW := Lib.hid (show ∀ j u, ([.string (txt x.name), .int .i64 i, .int .i64 e] : List Value)[j]? = some u → (w3.drew.alloc (.cells #[.string (txt x.name), .int .i64 i, .int .i64 e] 53)).cell? ((⟨w3.heap.size, 0, none⟩ : Addr).add j) = some u from
            fun j u hu => World.news_of_block (B := w3.heap.size) (cs := #[.string (txt x.name), .int .i64 i, .int .i64 e]) (t := 53) (fr := (0, 0)) (heap_alloc_new w3.drew (.cells #[.string (txt x.name), .int .i64 i, .int .i64 e] 53)) j u (by simpa using hu))
          have ON := Lib.hid (show ∀ u ∈ ([.string (txt x.name), .int .i64 i, .int .i64 e] : List Value), u.oneCell' = true from fun u hu => by
            simp only [List.mem_cons, List.not_mem_nil, or_false] at hu
            rcases hu with rfl | rfl | rfl <;> rfl)
          have HNE := Lib.hid (show some g ≠ (Value.slice A (Pl.wG M).length cp).ownBlock from fun e => by have := (hX3.2.2.1.lt g e.symm).1; omega)
          have HX3 := Lib.hid hX3
          have gbz : g + 1 ≤ w3.heap.size := gz
          have V1 := Lib.hid (show (Pl.wG M).length + 1 ≤ maxLen by unfold maxLen; omega)
          have V2 := Lib.hid (show ((Pl.wG M).length + 1) * 32 ≤ 140737488355328 by omega)
          clear hb3 fz hX3 k0 k1 k2 k3 k4 k5 k6 K11 j0 j1 j2 j3 j4 j5 j6 S11 s11 gg2 gj g1 hlG CF SP SS CG EG2 HRr R7 R71 R72 HSP BF BF2 BA X0 HL HC0 ST HX HE1 gw2 hz2 gbz
          go_upto_region 10 with fail
          go_cut [] from 7 (fun w' => SigGrown g 53 (Pl.wG M) ⟨x.name, i, e⟩ (.slice A (Pl.wG M).length cp) w3 w')
          case first =>
            go_region_law (refine step_append_lies _ (by rfl) (.tmp 40) (.tmp 48) 26 (by rfl) (g + 1) 53 i0 _ 3 32 Tryz.underlying26 hi hq0 hq1 hq2 rfl (by decide) (.slice A (Pl.wG M).length cp) (Pl.wG M).length (LSig.all (Pl.wG M)) (by rfl) (HX3.out.2.2.1.drew.alloc _) ⟨w3.heap.size, 0, none⟩ 1 1 [.string (txt x.name), .int .i64 i, .int .i64 e] (by rfl) (by rfl) NW.out ON.out (by omega) V1.out V2.out (by simp; omega) _ rfl ?_; intro g' cap' w4 hown hgr hg' hlt2; have hr3 := (hgr.block g (by simp; omega) HNE.out).trans ((heap_alloc_old _ _ (show g < w3.drew.heap.size from gz)).trans HX3.out.1); have c3 := (draft_row hr3).2.2.1.2; have f3 := (draft_row hr3).2.2.2.1 11)
            all_goals go_wp2_with fail
            all_goals go_meet
            all_goals exact ⟨g', cap', w4, rfl, hown, hgr, by rcases hg' with h | h; exact .inl h; exact .inr (by rw [h]; simp)⟩
          case rest =>
            obtain ⟨g', cap', w4, rfl, hown, hgr, hg'⟩ := hcut
            have WS := DrX.signals (z := ⟨x.name, i, e⟩) HX3.out (((Below.refl w3.heap.size w3).drew).alloc (Nat.le_refl _) (.cells (sigCells ⟨x.name, i, e⟩).toArray 53)) hgr rfl hown hg'
            obtain ⟨e1, e2⟩ := Pl.d_sig HM.out (by unfold Pl.isG; exact decide_eq_true H9.out) HN.out (Pl.sigAt_none.1 HSG.out) HY.out HE.out HT.out
            have WS1 := Lib.hid WS
            have E12 := Lib.hid (And.intro e1 e2)
            clear WS e1 e2 hown hgr hg'
            go_wp2_with fail
            go_ret
            refine ⟨by rw [P.out]; rfl, fun _ => ⟨vS, .slice (some ⟨g', 0, none⟩) ((Pl.wG M).length + 1) cap', ?_⟩, (BF3.out.mono (Nat.le_of_lt hg)).trans WS1.out.2⟩
            rw [E12.out.1, E12.out.2]
            obtain ⟨d1, d2, d3, d4⟩ := WS1.out.1
            exact ⟨by rw [draft_keep (by unfold It.isNum; rw [H9.out]; decide)]; exact d1, d2, d3, d4⟩
      · rw [hsg] at CG
        have P := Lib.hid (show Pl.sigErr M x = 3 by unfold Pl.sigErr; rw [if_neg HN.out, ← HE1.out, hsg, if_neg (fun h => h rfl), if_pos rfl])
        clear hsg
        go_wp2_with fail
        refine CG.out.mono ?_; rintro e' w3 ⟨rfl, hb3⟩
        have BF3 := Lib.hid (BA.out.trans (hb3.mono BA.out.size))
        clear hb3
        go_wp2_with fail
        go_ret
        exact ⟨by rw [P.out]; rfl, fun h => (by rw [P.out] at h; cases h), BF3.out.mono (Nat.le_of_lt hg)⟩
    · have P := Lib.hid (show Pl.sigErr M x = rc by unfold Pl.sigErr; rw [if_neg hn, ← he1, if_pos hc])
      have hcn : (rc != 0) = true := by rw [bne_iff_ne]; exact hc
      have HC := Lib.hid hc
      clear hn hM he1 he2 hc hEI
      go_enter Tryz.func47, Tryz.ntmps47
      go_wp2_with fail
      refine CF.out.mono ?_; rintro e w1 ⟨rfl, hb1⟩
      obtain ⟨⟨j0, j1, j2, j3, j4, j5, j6⟩, -, gj⟩ := row7 ((hb1.block _ g2).trans R7.out)
      have hb01 := X0.out.trans (hb1.mono X0.out.size)
      have SS := Lib.hid (SP.out w1 (HX.out.below hb01))
      have BF := Lib.hid hb01
      clear hb1 hb01
      go_wp2_with fail
      refine SS.out.mono ?_; rintro e w2 ⟨rfl, hb2⟩
      have BF2 := Lib.hid (BF.out.trans (hb2.mono BF.out.size))
      have hz := BF2.out.size
      clear hb2
      go_wp2_with fail
      go_ret
      exact ⟨by rw [P.out]; rfl, fun h => absurd (P.out.symm.trans h) HC.out, (BF2.out.mono (Nat.le_of_lt hg)).alloc (by omega) _⟩
end Go.Proofs.YtaheiolbeiofpaaGreatDoor
/-
  The walk of the document's answer of layer 5: Build, over its sorted (whose contract is asked for here).
-/
namespace Go.Proofs.YtaheiolbeiofpaaGreatDoor
open Go.RowKit

/-- A plan's value. -/
def PlanAgg (p : Pl.Plan) (w : World) (e : Ending) (w' : World) : Prop :=
  ∃ A c A' c', p.secs.length ≤ c ∧ p.sigs.length ≤ c' ∧ e = .returned (.agg #[.int .i64 p.ov, .int .i64 p.ap, .int .i64 p.se, .int .i64 p.ho, .slice A p.secs.length c, .slice A' p.sigs.length c']) ∧ LSec.Row w' A p.secs ∧ LSig.Row w' A' p.sigs ∧ (∀ a, A = some a → w.heap.size ≤ a.block) ∧ (∀ a, A' = some a → w.heap.size ≤ a.block) ∧ Below w.heap.size w w'
/-- A row stays where another block changes. -/
theorem row_far {α : Type} {E : Lies α} {w : World} {A : Option Addr} {L : List α} (h : E.Row w A L) (p : Addr) (v : Value) (hp : ∀ a, A = some a → p.block < a.block) : E.Row (w.setCell p v) A L := by
  rcases h with h | ⟨b, o, hA, hlt, h⟩
  · exact .inl h
  · exact .inr ⟨b, o, hA, by simpa using hlt, fun k y hk j u hu => by rw [World.cell?_setCell_far _ _ _ _ (Nat.ne_of_lt (show p.block < b from hp _ hA))]; exact h k y hk j u hu⟩
/-- What is asked of sorted. -/
def SortedOk : Prop := ∀ (L : List It.Itm) (w : World) (A A' : Option Addr) (c c' : Nat), Pl.Ok L → LSec.Row w A (Pl.wS L) → LSig.Row w A' (Pl.wG L) →
  Calls Tryz.prog 30 #[.agg #[.int .i64 (Pl.num L 1), .int .i64 (Pl.num L 2), .int .i64 (Pl.num L 3), .int .i64 (Pl.num L 4), .slice A (Pl.wS L).length c, .slice A' (Pl.wG L).length c']] w (PlanAgg (Pl.fin L) w)
/-- Items whose texts are of moderate length. -/
def FitsR (y : It.Itm) : Prop := y.n ≤ 9223372036854775807 ∧ y.name.length ≤ 1000 ∧ y.e0.n.length ≤ 1000 ∧ y.e1.n.length ≤ 1000
theorem rpRight_y (y : It.Itm) (w : World) (h : FitsR y) :
    Calls Tryz.prog 21 #[itemV y] w fun e w' => e = .returned (.bool (It.right y)) ∧ Below w.heap.size w w' := by
  have := riright_any y.k (txt y.name) y.n (txt y.e0.n) y.e0.c (txt y.e1.n) y.e1.c w h.1 (by rw [txt_size]; exact h.2.1) (by rw [txt_size]; exact h.2.2.1) (by rw [txt_size]; exact h.2.2.2)
  rwa [ofV_txt] at this
theorem PlanGives.from {p : Pl.Plan × Int × Nat} {q : Pl.Plan} {w w' : World} {e : Ending} {A A' : Option Addr} {c c' : Nat} (hp : p = (q, 0, 0)) (h1 : q.secs.length ≤ c) (h2 : q.sigs.length ≤ c')
    (he : e = .returned (.tuple #[.agg #[.int .i64 q.ov, .int .i64 q.ap, .int .i64 q.se, .int .i64 q.ho, .slice A q.secs.length c, .slice A' q.sigs.length c'], .agg #[.int .i64 0, .int .i64 0]])) (hS : LSec.Row w' A q.secs) (hG : LSig.Row w' A' q.sigs) (hb : Below w.heap.size w w') : PlanGives p w e w' := by
  subst hp
  exact ⟨A, c, A', c', h1, h2, he, hS, hG, hb⟩
theorem errAt_take' {L : List It.Itm} {k : Nat} (hk : k < L.length) : Pl.errAt L k = Pl.lineErr (L.take k) L[k] := by
  unfold Pl.errAt
  rw [List.getElem?_eq_getElem hk]; rfl
theorem lackAt_eq {L : List It.Itm} {k : Nat} (hk : k < L.length) : Pl.lackAt L k = Pl.lackErr L L[k] := by
  unfold Pl.lackAt
  rw [List.getElem?_eq_getElem hk]; rfl
theorem build_line_at {L : List It.Itm} {k : Nat} {e : Int} (hk : k < L.length) (hO : Pl.Ok (L.take k)) (he : Pl.lineErr (L.take k) L[k] = e) (h0 : e ≠ 0) : Pl.build L = (Pl.Plan.zero, e, k + 1) := by
  refine Pl.build_at hk ((errAt_take' hk).trans he) h0 fun j hj => ?_
  have := (Pl.ok_iff _).2 hO j (by rw [List.length_take]; omega)
  rwa [Pl.errAt_take hj (by omega)] at this
theorem build_lack_at {L : List It.Itm} {k : Nat} {e : Int} (hk : k < L.length) (hO : Pl.Ok L) (he : Pl.lackErr L L[k] = e) (h0 : e ≠ 0) (hj : ∀ j < k, Pl.lackAt L j = 0) : Pl.build L = (Pl.Plan.zero, e, k + 1) := by
  unfold Pl.build
  rw [Pl.firstE_none.2 ((Pl.ok_iff L).2 hO)]
  simp only
  rw [Pl.firstE_some.2 ⟨hk, by rw [lackAt_eq hk, he]; exact h0, hj⟩]
  simp only [lackAt_eq hk, he]
theorem build_all {L : List It.Itm} (hO : Pl.Ok L) (hj : ∀ j < L.length, Pl.lackAt L j = 0) : Pl.build L = (Pl.fin L, 0, 0) :=
  Pl.build_ok hO fun x hx => by
    obtain ⟨j, hjl, rfl⟩ := List.getElem_of_mem hx
    rw [← lackAt_eq hjl]; exact hj j hjl
theorem row6 {w : World} {g : Nat} {a b c d e f : Value} {t : TypeId} (h : w.heap[g]? = some (.cells #[a, b, c, d, e, f] t (0, 0))) :
    (w.cell? ⟨g, 0, none⟩ = some a ∧ w.cell? ⟨g, 1, none⟩ = some b ∧ w.cell? ⟨g, 2, none⟩ = some c ∧ w.cell? ⟨g, 3, none⟩ = some d ∧ w.cell? ⟨g, 4, none⟩ = some e ∧ w.cell? ⟨g, 5, none⟩ = some f) ∧
    (w.frozen? ⟨g, 0, none⟩ = false ∧ w.frozen? ⟨g, 1, none⟩ = false ∧ w.frozen? ⟨g, 2, none⟩ = false ∧ w.frozen? ⟨g, 3, none⟩ = false ∧ w.frozen? ⟨g, 4, none⟩ = false ∧ w.frozen? ⟨g, 5, none⟩ = false) ∧ g < w.heap.size :=
  ⟨⟨cell_of_row w g 0 _ t _ h, cell_of_row w g 1 _ t _ h, cell_of_row w g 2 _ t _ h, cell_of_row w g 3 _ t _ h, cell_of_row w g 4 _ t _ h, cell_of_row w g 5 _ t _ h⟩,
    ⟨frozen_of_row w g 0 _ t h, frozen_of_row w g 1 _ t h, frozen_of_row w g 2 _ t h, frozen_of_row w g 3 _ t h, frozen_of_row w g 4 _ t h, frozen_of_row w g 5 _ t h⟩, (Array.getElem?_eq_some_iff.1 h).1⟩
theorem three_allocs (w : World) (a b c : Obj) : (((w.alloc a).alloc b).alloc c).heap[w.heap.size]? = some a ∧ (((w.alloc a).alloc b).alloc c).heap[w.heap.size + 1]? = some b ∧ (((w.alloc a).alloc b).alloc c).heap[w.heap.size + 2]? = some c ∧ Below w.heap.size w (((w.alloc a).alloc b).alloc c) := by
  have s1 : (w.alloc a).heap.size = w.heap.size + 1 := by simp
  have s2 : ((w.alloc a).alloc b).heap.size = w.heap.size + 2 := by simp
  refine ⟨?_, ?_, ?_, (((Below.refl _ _).alloc (Nat.le_refl _) _).alloc (by omega) _).alloc (by omega) _⟩
  · rw [heap_alloc_old _ _ (by omega), heap_alloc_old _ _ (by omega)]; exact heap_alloc_new _ _
  · rw [heap_alloc_old _ _ (by omega), ← s1]; exact heap_alloc_new _ _
  · rw [← s2]; exact heap_alloc_new _ _
set_option maxHeartbeats 8000000 in
set_option maxRecDepth 100000 in
theorem rpBuild_any (HSrt : SortedOk) (A : Option Addr) (c : Nat) (L : List It.Itm) (w : World) (h : Its w A L) (hl : L.length ≤ 100000) (hf : ∀ y ∈ L, FitsR y) :
    Calls Tryz.prog 11 #[.slice A L.length c] w (PlanGives (Pl.build L) w) := by
  have HF := Lib.hid hf
  have HI := Lib.hid h
  have HSr := Lib.hid HSrt
  clear hf h HSrt
  go_enter Tryz.func11, Tryz.ntmps11
  go_wp2_with fail
  go_loopw [5] (fun v wr => ∃ k : Nat, k ≤ L.length ∧ v = .int .i64 k ∧ Pl.Ok (L.take k) ∧ WorkAt 68 51 53 wr (w.heap.size + 2) (L.take k) ∧ wr.heap[w.heap.size]? = some (.cells #[.int .i64 0, .int .i64 0, .int .i64 0, .int .i64 0, .slice none 0 0, .slice none 0 0] 28 (0, 0)) ∧ wr.heap[w.heap.size + 1]? = some (.cells #[.int .i64 0, .int .i64 0] 31 (0, 0)) ∧ Below w.heap.size w wr) (fun v _ => L.length - (intOf v).toNat)
  case atStart =>
    refine ⟨0, Nat.zero_le _, rfl, Pl.Ok.nil, ⟨.slice none 0 0, .slice none 0 0, ?_, World.ownsRow_nil _ _ _ _, World.ownsRow_nil _ _ _ _, fun k hk => by simp [Value.ownBlock] at hk⟩, ?_, ?_, ?_⟩
    · exact (three_allocs w _ _ _).2.2.1
    · exact (three_allocs w _ _ _).1
    · exact (three_allocs w _ _ _).2.1
    · exact (three_allocs w _ _ _).2.2.2
  case round =>
    obtain ⟨k, hk, rfl, hO, hW, hP, hFt, hbel⟩ := hrel
    by_cases hlt : k < L.length
    · obtain ⟨b, o, rfl, hb, i7⟩ := (HI.out.below rfl hbel).at hlt
      obtain ⟨a0, a1, a2, a3, a4, a5, a6⟩ := i7.cells
      clear i7
      have RC := Lib.hid (rpRight_y L[k] wr (HF.out _ (List.getElem_mem hlt)))
      have TK := Lib.hid (show L.take (k + 1) = L.take k ++ [L[k]] by rw [List.take_succ_eq_append_getElem hlt])
      have hz := hbel.size
      cases hr : It.right L[k]
      · rw [hr] at RC
        have P := Lib.hid (build_line_at hlt hO ((Pl.lineErr_2 _ _).2 hr) (by decide))
        have HP := Lib.hid hP
        have HFt := Lib.hid hFt
        have HB := Lib.hid hbel
        clear hr hO hW hP hFt hbel TK
        go_wp2_with fail
        refine RC.out.mono ?_; rintro e w1 ⟨rfl, hb1⟩
        obtain ⟨⟨p0, p1, p2, p3, p4, p5⟩, ⟨f0, f1, f2, f3, f4, f5⟩, gp⟩ := row6 (stay_row HP.out hb1)
        obtain ⟨⟨q0, q1⟩, ⟨e0, e1⟩, gq⟩ := row2f (stay_row HFt.out hb1)
        have BF := Lib.hid (HB.out.trans (hb1.mono hz))
        clear hb1
        go_wp2_with fail
        refine bodyPost_ret ?_ rfl (PlanGives.bad _ _ P.out rfl ?_)
        · simp [results, Tryz.results11, go_sem, *]
        · (repeat (with_reducible refine Below.setCell ?_ (by first | exact Nat.le_refl _ | exact Nat.le_succ _) _)); exact BF.out
      · rw [hr] at RC
        have HO := Lib.hid hO
        have HW := Lib.hid hW
        have HP := Lib.hid hP
        have HFt := Lib.hid hFt
        have HB := Lib.hid hbel
        have HR := Lib.hid hr
        clear hr hO hW hP hFt hbel
        go_wp2_with fail
        refine RC.out.mono ?_; rintro e w1 ⟨rfl, hb1⟩
        have LN := Lib.hid (rpLine_any (w.heap.size + 2) (L.take k) L[k] w1 (WorkL.below HW.out hb1) HO.out HR.out)
        have HP1 := Lib.hid (stay_row HP.out hb1)
        have HF1 := Lib.hid (stay_row HFt.out hb1)
        have HB1 := Lib.hid (HB.out.trans (hb1.mono hz))
        have c0 := hb1.cell (p := ⟨b, o + k * 7, none⟩) hb
        have c1 := hb1.cell (p := ⟨b, o + k * 7 + 1, none⟩) hb
        have c2 := hb1.cell (p := ⟨b, o + k * 7 + 2, none⟩) hb
        have c3 := hb1.cell (p := ⟨b, o + k * 7 + 3, none⟩) hb
        have c4 := hb1.cell (p := ⟨b, o + k * 7 + 4, none⟩) hb
        have c5 := hb1.cell (p := ⟨b, o + k * 7 + 5, none⟩) hb
        have c6 := hb1.cell (p := ⟨b, o + k * 7 + 6, none⟩) hb
        rw [a0] at c0
        rw [a1] at c1
        rw [a2] at c2
        rw [a3] at c3
        rw [a4] at c4
        rw [a5] at c5
        rw [a6] at c6
        clear hb1 a0 a1 a2 a3 a4 a5 a6
        generalize her : Pl.lineErr (L.take k) L[k] = er at LN
        go_wp2_with fail
        refine LN.out.mono ?_; rintro e w2 ⟨rfl, hnext, hb2⟩
        have hP2 := (hb2.block _ (by omega)).trans HP1.out
        have hF2 := (hb2.block _ (by omega)).trans HF1.out
        have BF := Lib.hid (HB1.out.trans (hb2.mono (by omega)))
        by_cases h0 : er = 0
        · have hO' := Lib.hid (show Pl.Ok (L.take (k + 1)) by rw [TK.out]; exact HO.out.snoc (her.trans h0))
          have hW' := Lib.hid (show WorkAt 68 51 53 w2 (w.heap.size + 2) (L.take (k + 1)) by rw [TK.out]; exact hnext h0)
          have HP2 := Lib.hid hP2
          have HF2 := Lib.hid hF2
          subst h0
          clear hnext hb2 hP2 hF2 her c0 c1 c2 c3 c4 c5 c6
          go_wp2_with fail
          go_roundw
          case rel => exact ⟨k + 1, by omega, by go_num, hO'.out, hW'.out, HP2.out, HF2.out, BF.out⟩
          case measure => simp [intOf]; omega
        · have hcn : (er != 0) = true := by rw [bne_iff_ne]; exact h0
          have P := Lib.hid (build_line_at hlt HO.out her h0)
          obtain ⟨⟨p0, p1, p2, p3, p4, p5⟩, ⟨f0, f1, f2, f3, f4, f5⟩, gp⟩ := row6 hP2
          obtain ⟨⟨q0, q1⟩, ⟨e0, e1⟩, gq⟩ := row2f hF2
          clear hnext hb2 hP2 hF2 her c0 c1 c2 c3 c4 c5 c6
          go_wp2_with fail
          refine bodyPost_ret ?_ rfl (PlanGives.bad _ _ P.out rfl ?_)
          · simp [results, Tryz.results11, go_sem, *]
          · (repeat (with_reducible refine Below.setCell ?_ (by first | exact Nat.le_refl _ | exact Nat.le_succ _) _)); exact BF.out
    · obtain rfl : k = L.length := by omega
      rw [List.take_of_length_le (Nat.le_refl _)] at hO hW
      have HO := Lib.hid hO
      have HW := Lib.hid hW
      have HP := Lib.hid hP
      have HFt := Lib.hid hFt
      have HB := Lib.hid hbel
      clear hO hW hP hFt hbel
      go_wp2_with fail
      go_loopw [7] (fun v wr => ∃ k : Nat, k ≤ L.length ∧ v = .int .i64 k ∧ (∀ j < k, Pl.lackAt L j = 0) ∧ WorkAt 68 51 53 wr (w.heap.size + 2) L ∧ wr.heap[w.heap.size]? = some (.cells #[.int .i64 0, .int .i64 0, .int .i64 0, .int .i64 0, .slice none 0 0, .slice none 0 0] 28 (0, 0)) ∧ wr.heap[w.heap.size + 1]? = some (.cells #[.int .i64 0, .int .i64 0] 31 (0, 0)) ∧ Below w.heap.size w wr) (fun v _ => L.length - (intOf v).toNat)
      case atStart => exact ⟨0, Nat.zero_le _, rfl, fun j hj => absurd hj (Nat.not_lt_zero j), HW.out, HP.out, HFt.out, HB.out⟩
      case round =>
        clear HW HP HFt HB
        obtain ⟨k, hk, rfl, hj, hW, hP, hFt, hbel⟩ := hrel
        by_cases hlt : k < L.length
        · obtain ⟨b, o, rfl, hb, i7⟩ := (HI.out.below rfl hbel).at hlt
          obtain ⟨a0, a1, a2, a3, a4, a5, a6⟩ := i7.cells
          clear i7
          have LK := Lib.hid (rpLacks_any (w.heap.size + 2) L L[k] _ hW HO.out (List.getElem_mem hlt))
          have HJ := Lib.hid hj
          have HW := Lib.hid hW
          have HP := Lib.hid hP
          have HFt := Lib.hid hFt
          have HB := Lib.hid hbel
          have hz := hbel.size
          have hgz := (Array.getElem?_eq_some_iff.1 hP).1
          have hgf := (Array.getElem?_eq_some_iff.1 hFt).1
          clear hj hW hP hFt hbel
          unfold LackGives at LK
          generalize her : Pl.lackErr L L[k] = er at LK
          go_wp2_with fail
          refine LK.out.mono ?_; rintro e w2 ⟨rfl, hb2⟩
          have hP2 := (hb2.block _ hgz).trans HP.out
          have hF2 := (hb2.block _ hgf).trans HFt.out
          have BF := Lib.hid (HB.out.trans (hb2.mono hz))
          by_cases h0 : er = 0
          · have HJ' := Lib.hid (show ∀ j < k + 1, Pl.lackAt L j = 0 from fun j hj => by
              rcases Nat.lt_succ_iff_lt_or_eq.1 hj with h | rfl
              · exact HJ.out j h
              · rw [lackAt_eq hlt]; exact her.trans h0)
            have HW' := Lib.hid (WorkL.below HW.out hb2)
            have HP2 := Lib.hid hP2
            have HF2 := Lib.hid hF2
            subst h0
            clear hb2 hP2 hF2 her a0 a1 a2 a3 a4 a5 a6
            go_wp2_with fail
            go_roundw
            case rel => exact ⟨k + 1, by omega, by go_num, HJ'.out, HW'.out, HP2.out, HF2.out, BF.out⟩
            case measure => simp [intOf]; omega
          · have hcn : (er != 0) = true := by rw [bne_iff_ne]; exact h0
            have P := Lib.hid (build_lack_at hlt HO.out her h0 HJ.out)
            obtain ⟨⟨p0, p1, p2, p3, p4, p5⟩, ⟨f0, f1, f2, f3, f4, f5⟩, gp⟩ := row6 hP2
            obtain ⟨⟨q0, q1⟩, ⟨e0, e1⟩, gq⟩ := row2f hF2
            clear hb2 hP2 hF2 her a0 a1 a2 a3 a4 a5 a6
            go_wp2_with fail
            refine bodyPost_ret ?_ rfl (PlanGives.bad _ _ P.out rfl ?_)
            · simp [results, Tryz.results11, go_sem, *]
            · (repeat (with_reducible refine Below.setCell ?_ (by first | exact Nat.le_refl _ | exact Nat.le_succ _) _)); exact BF.out
        · obtain rfl : k = L.length := by omega
          have P := Lib.hid (build_all HO.out hj)
          obtain ⟨vS, vG, h1, h2, h3, h4⟩ := hW
          obtain ⟨-, AS, cS, rfl, -, hRS⟩ := Lies.Row.of_own h2
          obtain ⟨-, AG, cG, rfl, -, hRG⟩ := Lies.Row.of_own h3
          obtain ⟨⟨n0, n1, n2, n3, n4, n5⟩, -, hfz, hgw⟩ := work_row h1
          have SC := Lib.hid (HSr.out L wr AS AG cS cG HO.out hRS hRG)
          have hz := hbel.size
          have HB := Lib.hid hbel
          have HP := Lib.hid hP
          have HFt := Lib.hid hFt
          clear h1 h2 h3 h4 hRS hRG hfz hj hP hFt hbel
          go_wp2_with fail
          refine SC.out.mono ?_; rintro e w2 ⟨A1, c1, A2, c2, l1, l2, rfl, r1, r2, n1', n2', hb2⟩
          obtain ⟨⟨p0, p1, p2, p3, p4, p5⟩, ⟨f0, f1, f2, f3, f4, f5⟩, gp⟩ := row6 (stay_row HP.out hb2)
          obtain ⟨⟨q0, q1⟩, ⟨e0, e1⟩, gq⟩ := row2f (stay_row HFt.out hb2)
          have BF := Lib.hid (HB.out.trans (hb2.mono hz))
          have N1 := Lib.hid (show ∀ a, A1 = some a → w.heap.size + 1 < a.block from fun a ha => Nat.lt_of_lt_of_le (by omega) (n1' a ha))
          have N2 := Lib.hid (show ∀ a, A2 = some a → w.heap.size + 1 < a.block from fun a ha => Nat.lt_of_lt_of_le (by omega) (n2' a ha))
          have R1 := Lib.hid r1
          have R2 := Lib.hid r2
          clear r1 r2 hb2 n1' n2'
          go_wp2_with fail
          refine bodyPost_ret ?_ rfl (PlanGives.from (A := A1) (A' := A2) P.out l1 l2 rfl ?_ ?_ ?_)
          · simp [results, Tryz.results11, go_sem, *]
          · (repeat (refine row_far ?_ _ _ (fun a ha => by have := N1.out a ha; simp only; omega))); exact R1.out
          · (repeat (refine row_far ?_ _ _ (fun a ha => by have := N2.out a ha; simp only; omega))); exact R2.out
          · (repeat (with_reducible refine Below.setCell ?_ (by first | exact Nat.le_refl _ | exact Nat.le_succ _) _)); exact BF.out
end Go.Proofs.YtaheiolbeiofpaaGreatDoor
/-
  The walk of the program's draft of layer 5: a line more, whatever its kind.
-/
namespace Go.Proofs.YtaheiolbeiofpaaGreatDoor
open Go.RowKit

theorem pRight_y (y : It.Itm) (w : World) (hE : Env w) (h : FitsR y) :
    Calls Tryz.prog 43 #[itemV y] w fun e w' => e = .returned (.bool (It.right y)) ∧ Below w.heap.size w w' := by
  have := iright_any y.k (txt y.name) y.n (txt y.e0.n) y.e0.c (txt y.e1.n) y.e1.c w hE h.1 (by rw [txt_size]; exact h.2.1) (by rw [txt_size]; exact h.2.2.1) (by rw [txt_size]; exact h.2.2.2)
  rwa [ofV_txt] at this
set_option maxHeartbeats 8000000 in
set_option maxRecDepth 100000 in
theorem pAdd_any (g : Nat) (M : List It.Itm) (x : It.Itm) (w : World) (h : DrAt tyD tyS tyG w g M) (hM : Pl.Ok M) (hE : Env w) (hf : FitsR x) :
    Calls Tryz.prog 25 #[.pointer (some ⟨g, 0, none⟩), itemV x] w (DrGives tyD tyS tyG g M x (Pl.lineErr M x) w) := by
  have hg := (Array.getElem?_eq_some_iff.1 h.choose_spec.choose_spec.1).1
  have X0 := Lib.hid ((Below.refl w.heap.size w).alloc (Nat.le_refl _) (.cells (item7 x) 44))
  have R7 := Lib.hid (show (w.alloc (.cells (item7 x) 44)).heap[w.heap.size]? = some (.cells #[.int .i64 x.k, .string (txt x.name), .int .i64 x.n, .string (txt x.e0.n), .int .u8 x.e0.c.toNat, .string (txt x.e1.n), .int .u8 x.e1.c.toNat] 44 (0, 0)) from heap_alloc_new _ _)
  have g2 : w.heap.size < (w.alloc (.cells (item7 x) 44)).heap.size := by simp
  have RC := Lib.hid (pRight_y x (w.alloc (.cells (item7 x) 44)) (hE.below rfl X0.out) hf)
  have HD := Lib.hid h
  have HM := Lib.hid hM
  clear h hE hf hM
  cases hr : It.right x
  · rw [hr] at RC
    have P := Lib.hid ((Pl.lineErr_2 M x).2 hr)
    clear hr
    go_enter Tryz.func25, Tryz.ntmps25
    go_wp2_with fail
    refine RC.out.mono ?_; rintro e w1 ⟨rfl, hb1⟩
    have BF := Lib.hid ((X0.out.trans (hb1.mono X0.out.size)).mono (Nat.le_of_lt hg))
    clear hb1
    go_wp2_with fail
    go_ret
    exact ⟨by rw [P.out]; rfl, fun h => (by rw [P.out] at h; cases h), BF.out⟩
  · rw [hr] at RC
    have HR := Lib.hid hr
    have hk := Pl.right_kind hr
    have hk' : x.k = 5 ∨ x.k = 6 ∨ x.k = 7 ∨ x.k = 8 ∨ x.k = 9 ∨ (1 ≤ x.k ∧ x.k ≤ 4) := by omega
    clear hr hk
    rcases hk' with h5 | h6 | h7 | h8 | h9 | h14
    · have CL := Lib.hid (fun W (hW : DrAt tyD tyS tyG W g M) => pSection_any g M x W hW HM.out (by unfold Pl.isS It.isLen; exact decide_eq_true (by omega)))
      have EQ := Lib.hid (lineErr_sec (M := M) HR.out (by unfold Pl.isS It.isLen; exact decide_eq_true (by omega)))
      rw [← EQ.out] at CL
      have q5 : (x.k == 5) = true := by rw [beq_iff_eq]; omega
      have q6 : (x.k == 6) = false := by rw [beq_eq_false_iff_ne]; omega
      have q7 : (x.k == 7) = false := by rw [beq_eq_false_iff_ne]; omega
      have q8 : (x.k == 8) = false := by rw [beq_eq_false_iff_ne]; omega
      have q9 : (x.k == 9) = false := by rw [beq_eq_false_iff_ne]; omega
      clear h5
      go_enter Tryz.func25, Tryz.ntmps25
      go_wp2_with fail
      refine RC.out.mono ?_; rintro e w1 ⟨rfl, hb1⟩
      obtain ⟨⟨j0, j1, j2, j3, j4, j5, j6⟩, -, gj⟩ := row7 ((hb1.block _ g2).trans R7.out)
      have BF := Lib.hid (X0.out.trans (hb1.mono X0.out.size))
      have C := Lib.hid (CL.out w1 (HD.out.below BF.out))
      clear hb1
      go_wp2_with fail
      refine C.out.mono ?_; rintro e w2 ⟨rfl, hw2, hb2⟩
      have HN := Lib.hid hw2
      have BG := Lib.hid ((BF.out.mono (Nat.le_of_lt hg)).trans hb2)
      clear hw2 hb2
      go_wp2_with fail
      go_ret
      exact ⟨rfl, HN.out, BG.out⟩
    · have CL := Lib.hid (fun W (hW : DrAt tyD tyS tyG W g M) => pSection_any g M x W hW HM.out (by unfold Pl.isS It.isLen; exact decide_eq_true (by omega)))
      have EQ := Lib.hid (lineErr_sec (M := M) HR.out (by unfold Pl.isS It.isLen; exact decide_eq_true (by omega)))
      rw [← EQ.out] at CL
      have q5 : (x.k == 5) = false := by rw [beq_eq_false_iff_ne]; omega
      have q6 : (x.k == 6) = true := by rw [beq_iff_eq]; omega
      have q7 : (x.k == 7) = false := by rw [beq_eq_false_iff_ne]; omega
      have q8 : (x.k == 8) = false := by rw [beq_eq_false_iff_ne]; omega
      have q9 : (x.k == 9) = false := by rw [beq_eq_false_iff_ne]; omega
      clear h6
      go_enter Tryz.func25, Tryz.ntmps25
      go_wp2_with fail
      refine RC.out.mono ?_; rintro e w1 ⟨rfl, hb1⟩
      obtain ⟨⟨j0, j1, j2, j3, j4, j5, j6⟩, -, gj⟩ := row7 ((hb1.block _ g2).trans R7.out)
      have BF := Lib.hid (X0.out.trans (hb1.mono X0.out.size))
      have C := Lib.hid (CL.out w1 (HD.out.below BF.out))
      clear hb1
      go_wp2_with fail
      refine C.out.mono ?_; rintro e w2 ⟨rfl, hw2, hb2⟩
      have HN := Lib.hid hw2
      have BG := Lib.hid ((BF.out.mono (Nat.le_of_lt hg)).trans hb2)
      clear hw2 hb2
      go_wp2_with fail
      go_ret
      exact ⟨rfl, HN.out, BG.out⟩
    · have CL := Lib.hid (fun W (hW : DrAt tyD tyS tyG W g M) => pJoin_any g M x W hW HM.out HR.out h7)
      have EQ := Lib.hid (lineErr_join (M := M) HR.out h7)
      rw [← EQ.out] at CL
      have q5 : (x.k == 5) = false := by rw [beq_eq_false_iff_ne]; omega
      have q6 : (x.k == 6) = false := by rw [beq_eq_false_iff_ne]; omega
      have q7 : (x.k == 7) = true := by rw [beq_iff_eq]; omega
      have q8 : (x.k == 8) = false := by rw [beq_eq_false_iff_ne]; omega
      have q9 : (x.k == 9) = false := by rw [beq_eq_false_iff_ne]; omega
      clear h7
      go_enter Tryz.func25, Tryz.ntmps25
      go_wp2_with fail
      refine RC.out.mono ?_; rintro e w1 ⟨rfl, hb1⟩
      obtain ⟨⟨j0, j1, j2, j3, j4, j5, j6⟩, -, gj⟩ := row7 ((hb1.block _ g2).trans R7.out)
      have BF := Lib.hid (X0.out.trans (hb1.mono X0.out.size))
      have C := Lib.hid (CL.out w1 (HD.out.below BF.out))
      clear hb1
      go_wp2_with fail
      refine C.out.mono ?_; rintro e w2 ⟨rfl, hw2, hb2⟩
      have HN := Lib.hid hw2
      have BG := Lib.hid ((BF.out.mono (Nat.le_of_lt hg)).trans hb2)
      clear hw2 hb2
      go_wp2_with fail
      go_ret
      exact ⟨rfl, HN.out, BG.out⟩
    · have CL := Lib.hid (fun W (hW : DrAt tyD tyS tyG W g M) => pStop_any g M x W hW HM.out HR.out h8)
      have EQ := Lib.hid (lineErr_stop (M := M) HR.out h8)
      rw [← EQ.out] at CL
      have q5 : (x.k == 5) = false := by rw [beq_eq_false_iff_ne]; omega
      have q6 : (x.k == 6) = false := by rw [beq_eq_false_iff_ne]; omega
      have q7 : (x.k == 7) = false := by rw [beq_eq_false_iff_ne]; omega
      have q8 : (x.k == 8) = true := by rw [beq_iff_eq]; omega
      have q9 : (x.k == 9) = false := by rw [beq_eq_false_iff_ne]; omega
      clear h8
      go_enter Tryz.func25, Tryz.ntmps25
      go_wp2_with fail
      refine RC.out.mono ?_; rintro e w1 ⟨rfl, hb1⟩
      obtain ⟨⟨j0, j1, j2, j3, j4, j5, j6⟩, -, gj⟩ := row7 ((hb1.block _ g2).trans R7.out)
      have BF := Lib.hid (X0.out.trans (hb1.mono X0.out.size))
      have C := Lib.hid (CL.out w1 (HD.out.below BF.out))
      clear hb1
      go_wp2_with fail
      refine C.out.mono ?_; rintro e w2 ⟨rfl, hw2, hb2⟩
      have HN := Lib.hid hw2
      have BG := Lib.hid ((BF.out.mono (Nat.le_of_lt hg)).trans hb2)
      clear hw2 hb2
      go_wp2_with fail
      go_ret
      exact ⟨rfl, HN.out, BG.out⟩
    · have CL := Lib.hid (fun W (hW : DrAt tyD tyS tyG W g M) => pSignal_any g M x W hW HM.out HR.out h9)
      have EQ := Lib.hid (lineErr_sig (M := M) HR.out h9)
      rw [← EQ.out] at CL
      have q5 : (x.k == 5) = false := by rw [beq_eq_false_iff_ne]; omega
      have q6 : (x.k == 6) = false := by rw [beq_eq_false_iff_ne]; omega
      have q7 : (x.k == 7) = false := by rw [beq_eq_false_iff_ne]; omega
      have q8 : (x.k == 8) = false := by rw [beq_eq_false_iff_ne]; omega
      have q9 : (x.k == 9) = true := by rw [beq_iff_eq]; omega
      clear h9
      go_enter Tryz.func25, Tryz.ntmps25
      go_wp2_with fail
      refine RC.out.mono ?_; rintro e w1 ⟨rfl, hb1⟩
      obtain ⟨⟨j0, j1, j2, j3, j4, j5, j6⟩, -, gj⟩ := row7 ((hb1.block _ g2).trans R7.out)
      have BF := Lib.hid (X0.out.trans (hb1.mono X0.out.size))
      have C := Lib.hid (CL.out w1 (HD.out.below BF.out))
      clear hb1
      go_wp2_with fail
      refine C.out.mono ?_; rintro e w2 ⟨rfl, hw2, hb2⟩
      have HN := Lib.hid hw2
      have BG := Lib.hid ((BF.out.mono (Nat.le_of_lt hg)).trans hb2)
      clear hw2 hb2
      go_wp2_with fail
      go_ret
      exact ⟨rfl, HN.out, BG.out⟩
    · have CL := Lib.hid (fun W (hW : DrAt tyD tyS tyG W g M) => pNumber_any g M x W hW (by unfold It.isNum; exact decide_eq_true (by omega)))
      have EQ := Lib.hid (lineErr_num (M := M) HR.out (by unfold It.isNum; exact decide_eq_true (by omega)))
      rw [← EQ.out] at CL
      have q5 : (x.k == 5) = false := by rw [beq_eq_false_iff_ne]; omega
      have q6 : (x.k == 6) = false := by rw [beq_eq_false_iff_ne]; omega
      have q7 : (x.k == 7) = false := by rw [beq_eq_false_iff_ne]; omega
      have q8 : (x.k == 8) = false := by rw [beq_eq_false_iff_ne]; omega
      have q9 : (x.k == 9) = false := by rw [beq_eq_false_iff_ne]; omega
      clear h14
      go_enter Tryz.func25, Tryz.ntmps25
      go_wp2_with fail
      refine RC.out.mono ?_; rintro e w1 ⟨rfl, hb1⟩
      obtain ⟨⟨j0, j1, j2, j3, j4, j5, j6⟩, -, gj⟩ := row7 ((hb1.block _ g2).trans R7.out)
      have BF := Lib.hid (X0.out.trans (hb1.mono X0.out.size))
      have C := Lib.hid (CL.out w1 (HD.out.below BF.out))
      clear hb1
      go_wp2_with fail
      refine C.out.mono ?_; rintro e w2 ⟨rfl, hw2, hb2⟩
      have HN := Lib.hid hw2
      have BG := Lib.hid ((BF.out.mono (Nat.le_of_lt hg)).trans hb2)
      clear hw2 hb2
      go_wp2_with fail
      go_ret
      exact ⟨rfl, HN.out, BG.out⟩
end Go.Proofs.YtaheiolbeiofpaaGreatDoor
