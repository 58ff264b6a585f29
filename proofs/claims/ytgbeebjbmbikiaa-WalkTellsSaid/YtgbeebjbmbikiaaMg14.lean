/-
  Texts of this claim, merged: WkMade, PlRItB, WkRef, WkRefB, WkRefC.
-/
import Derived.Test.YtgbeebjbmbikiaaMg12
import Derived.Test.YtgbeebjbmbikiaaMg13
import Derived.BigQuiet
/-
  The walk of the law's made: the station of a text, or none.
-/
namespace Go.Proofs.Ytgbeebjbmbikiaa
open Go.RowKit

theorem sheet_fits {l : List UInt8} {L : List It.Itm} (h : Sh.parse l = (L, 0)) : ∀ y ∈ L, FitsR y := fun y hy => by
  have := sheet_right l y (by rw [h]; exact hy)
  exact (right_le8 this).1.fits
theorem set6_heap {W : World} {B b : Nat} {v0 v1 v2 v3 v4 v5 : Value} (h : b ≠ B) :
    ((((((W.setCell ⟨B, 0, none⟩ v0).setCell ⟨B, 1, none⟩ v1).setCell ⟨B, 2, none⟩ v2).setCell ⟨B, 3, none⟩ v3).setCell ⟨B, 4, none⟩ v4).setCell ⟨B, 5, none⟩ v5).drew.heap[b]? = W.heap[b]? := by
  have e : ∀ X : World, X.drew.heap = X.heap := fun _ => rfl
  rw [e]
  exact set6_other h
theorem set6_cell {W : World} {B b o : Nat} {v0 v1 v2 v3 v4 v5 : Value} (h : B ≠ b) :
    ((((((W.setCell ⟨B, 0, none⟩ v0).setCell ⟨B, 1, none⟩ v1).setCell ⟨B, 2, none⟩ v2).setCell ⟨B, 3, none⟩ v3).setCell ⟨B, 4, none⟩ v4).setCell ⟨B, 5, none⟩ v5).drew.cell? ⟨b, o, none⟩ = W.cell? ⟨b, o, none⟩ := by
  rw [World.cell?_drew]
  exact World.cell?_of_block (a := ⟨b, o, none⟩) (set6_other (fun e => h e.symm))
set_option maxHeartbeats 8000000 in
set_option maxRecDepth 100000 in
theorem made_some {s : ByteArray} {p : Pl.Plan} (h : madeP s.data.toList = some p) (w : World) : Calls Try.prog 7 #[.string s] w (MadeYes p w) := by
  unfold madeP at h
  split at h
  · rename_i h2
    obtain rfl := Option.some.inj h
    obtain ⟨hs, hz⟩ := h2
    have hsz : s.data.toList.length = s.size := by simp
    have h1 : decide (1500 < (s.size : Int)) = false := dec_f (by omega)
    have hfew := sheet_few s.data.toList
    rcases sheet_ways s.data.toList with hp | ⟨k, hp⟩
    · have P : Pl.builtP s.data.toList = Pl.build (Sh.parse s.data.toList).1 := by unfold Pl.builtP; rw [if_pos (by rw [hp])]
      have HR := Lib.hid (sheet_fits hp)
      have C := Lib.hid (fun W => sheet_yes hp (by omega) W)
      rw [P] at hz ⊢
      obtain ⟨-, -, hb⟩ := Pl.build_zero hz
      generalize (Sh.parse s.data.toList).1 = L at hp hfew HR C hb
      rw [hb]
      have HB := Lib.hid hb
      have gZ0 : w.heap.size < (w.alloc planZ).heap.size := by simp
      have X1 := Lib.hid ((Below.refl w.heap.size w).alloc (Nat.le_refl _) planZ)
      have H0 := Lib.hid (heap_alloc_new w planZ)
      clear P hp h hz hb
      go_enter Try.func7, Try.ntmps7
      go_wp2_with fail
      refine (C.out _).mono ?_; rintro e w1 ⟨A, c, hc, rfl, its, hb1⟩
      have HB2 := Lib.hid (hb1.alloc hb1.size faultZ)
      have IT2 := Lib.hid (its.below rfl ((Below.refl w1.heap.size w1).alloc (Nat.le_refl _) faultZ))
      have kf := Lib.hid (heap_alloc_new w1 faultZ)
      have PB := Lib.hid (rpBuild_any rpSorted_any A c L (w1.alloc faultZ) IT2.out (by omega) HR.out)
      rw [HB.out] at PB
      have gz1 : w.heap.size < w1.heap.size := by have := hb1.size; simp at this; omega
      clear its hb1 hc
      go_wp2_with fail
      refine PB.out.mono ?_; rintro e w3 ⟨S, cS, G, cG, l1, l2, rfl, rS, rG, hb3⟩
      obtain ⟨RP, RF, X3, XS⟩ := two_blocks w3 (planO (Pl.fin L) S cS G cG) faultZ
      have BB := hb3.trans (X3.mono hb3.size)
      have B1 := Lib.hid (HB2.out.trans (BB.mono HB2.out.size))
      have hF := (BB.block _ (by simp)).trans kf.out
      have hP := (B1.out.block _ gZ0).trans H0.out
      have hz3 : w1.heap.size < w3.heap.size := by have := hb3.size; simp at this; omega
      have hx0 : w.heap.size ≠ w1.heap.size := by omega
      have hx1 : w.heap.size ≠ w3.heap.size := by omega
      have hx2 : w.heap.size ≠ w3.heap.size + 1 := by omega
      obtain ⟨⟨q0, q1, q2, q3, q4, q5⟩, ⟨e0, e1, e2, e3, e4, e5⟩, gq⟩ := row6 hP
      obtain ⟨⟨t0, t1⟩, gt⟩ := row2c hF
      obtain ⟨⟨u0, u1⟩, gu⟩ := row2c RF
      obtain ⟨⟨p0, p1, p2, p3, p4, p5⟩, -, gp⟩ := row6 RP
      have RS := Lib.hid (rS.below rfl X3)
      have RG := Lib.hid (rG.below rfl X3)
      have HP := Lib.hid hP
      have K0 := Lib.hid (show (fun w' : World => (w'.cell? ⟨w3.heap.size, 0, none⟩ = some (.int .i64 (Pl.fin L).ov) ∧ w'.cell? ⟨w3.heap.size, 1, none⟩ = some (.int .i64 (Pl.fin L).ap) ∧ w'.cell? ⟨w3.heap.size, 2, none⟩ = some (.int .i64 (Pl.fin L).se) ∧ w'.cell? ⟨w3.heap.size, 3, none⟩ = some (.int .i64 (Pl.fin L).ho) ∧ w'.cell? ⟨w3.heap.size, 4, none⟩ = some (.slice S (Pl.fin L).secs.length cS) ∧ w'.cell? ⟨w3.heap.size, 5, none⟩ = some (.slice G (Pl.fin L).sigs.length cG)) ∧ w'.cell? ⟨w1.heap.size, 0, none⟩ = some (.int .i64 0) ∧ w'.cell? ⟨w3.heap.size + 1, 0, none⟩ = some (.int .i64 0)) ((w3.alloc (planO (Pl.fin L) S cS G cG)).alloc faultZ).drew from ⟨⟨p0, p1, p2, p3, p4, p5⟩, t0, u0⟩)
      have K00 := Lib.hid (show (fun w' : World => (w'.cell? ⟨w3.heap.size, 0, none⟩ = some (.int .i64 (Pl.fin L).ov) ∧ w'.cell? ⟨w3.heap.size, 1, none⟩ = some (.int .i64 (Pl.fin L).ap) ∧ w'.cell? ⟨w3.heap.size, 2, none⟩ = some (.int .i64 (Pl.fin L).se) ∧ w'.cell? ⟨w3.heap.size, 3, none⟩ = some (.int .i64 (Pl.fin L).ho) ∧ w'.cell? ⟨w3.heap.size, 4, none⟩ = some (.slice S (Pl.fin L).secs.length cS) ∧ w'.cell? ⟨w3.heap.size, 5, none⟩ = some (.slice G (Pl.fin L).sigs.length cG)) ∧ w'.cell? ⟨w1.heap.size, 0, none⟩ = some (.int .i64 0) ∧ w'.cell? ⟨w3.heap.size + 1, 0, none⟩ = some (.int .i64 0)) ((w3.alloc (planO (Pl.fin L) S cS G cG)).alloc faultZ) from ⟨⟨p0, p1, p2, p3, p4, p5⟩, t0, u0⟩)
      have K1 := Lib.hid (fun (w' : World) (v0 v1 v2 v3 v4 v5 : Value) (h : (fun w' : World => (w'.cell? ⟨w3.heap.size, 0, none⟩ = some (.int .i64 (Pl.fin L).ov) ∧ w'.cell? ⟨w3.heap.size, 1, none⟩ = some (.int .i64 (Pl.fin L).ap) ∧ w'.cell? ⟨w3.heap.size, 2, none⟩ = some (.int .i64 (Pl.fin L).se) ∧ w'.cell? ⟨w3.heap.size, 3, none⟩ = some (.int .i64 (Pl.fin L).ho) ∧ w'.cell? ⟨w3.heap.size, 4, none⟩ = some (.slice S (Pl.fin L).secs.length cS) ∧ w'.cell? ⟨w3.heap.size, 5, none⟩ = some (.slice G (Pl.fin L).sigs.length cG)) ∧ w'.cell? ⟨w1.heap.size, 0, none⟩ = some (.int .i64 0) ∧ w'.cell? ⟨w3.heap.size + 1, 0, none⟩ = some (.int .i64 0)) w') => show (fun w' : World => (w'.cell? ⟨w3.heap.size, 0, none⟩ = some (.int .i64 (Pl.fin L).ov) ∧ w'.cell? ⟨w3.heap.size, 1, none⟩ = some (.int .i64 (Pl.fin L).ap) ∧ w'.cell? ⟨w3.heap.size, 2, none⟩ = some (.int .i64 (Pl.fin L).se) ∧ w'.cell? ⟨w3.heap.size, 3, none⟩ = some (.int .i64 (Pl.fin L).ho) ∧ w'.cell? ⟨w3.heap.size, 4, none⟩ = some (.slice S (Pl.fin L).secs.length cS) ∧ w'.cell? ⟨w3.heap.size, 5, none⟩ = some (.slice G (Pl.fin L).sigs.length cG)) ∧ w'.cell? ⟨w1.heap.size, 0, none⟩ = some (.int .i64 0) ∧ w'.cell? ⟨w3.heap.size + 1, 0, none⟩ = some (.int .i64 0)) ((((((w'.setCell ⟨w.heap.size, 0, none⟩ v0).setCell ⟨w.heap.size, 1, none⟩ v1).setCell ⟨w.heap.size, 2, none⟩ v2).setCell ⟨w.heap.size, 3, none⟩ v3).setCell ⟨w.heap.size, 4, none⟩ v4).setCell ⟨w.heap.size, 5, none⟩ v5).drew from
        ⟨⟨(set6_cell hx1).trans h.1.1, (set6_cell hx1).trans h.1.2.1, (set6_cell hx1).trans h.1.2.2.1, (set6_cell hx1).trans h.1.2.2.2.1, (set6_cell hx1).trans h.1.2.2.2.2.1, (set6_cell hx1).trans h.1.2.2.2.2.2⟩, (set6_cell hx0).trans h.2.1, (set6_cell hx2).trans h.2.2⟩)
      clear rS rG hb3 X3 BB hF hP RP RF PB kf H0 IT2 C HR HB l1 l2 hz3 gz1 hfew
      go_wp2_with fail
      clear p0 p1 p2 p3 p4 p5 t0 t1 u0 u1 hx0 hx1 hx2
      go_region_held3 (fun w' => (w'.cell? ⟨w3.heap.size, 0, none⟩ = some (.int .i64 (Pl.fin L).ov) ∧ w'.cell? ⟨w3.heap.size, 1, none⟩ = some (.int .i64 (Pl.fin L).ap) ∧ w'.cell? ⟨w3.heap.size, 2, none⟩ = some (.int .i64 (Pl.fin L).se) ∧ w'.cell? ⟨w3.heap.size, 3, none⟩ = some (.int .i64 (Pl.fin L).ho) ∧ w'.cell? ⟨w3.heap.size, 4, none⟩ = some (.slice S (Pl.fin L).secs.length cS) ∧ w'.cell? ⟨w3.heap.size, 5, none⟩ = some (.slice G (Pl.fin L).sigs.length cG)) ∧ w'.cell? ⟨w1.heap.size, 0, none⟩ = some (.int .i64 0) ∧ w'.cell? ⟨w3.heap.size + 1, 0, none⟩ = some (.int .i64 0))
        (first | with_reducible exact K0.out | with_reducible exact K1.out _ _ _ _ _ _ _ K00.out)
        (fail)
      all_goals go_wp2_with fail
      all_goals refine bodyPost_ret ?_ rfl ⟨S, cS, G, cG, rfl, ⟨?_, ?_⟩, ?_⟩
      all_goals first
        | (simp [results, Try.results7, go_sem, *]; done)
        | exact row_same RS.out (by simp) fun hn b o hA => set6_heap (row_not sec_text RS.out hn hA HP.out no_text6)
        | exact row_same RG.out (by simp) fun hn b o hA => set6_heap (row_not sig_text RG.out hn hA HP.out no_text6)
        | ((repeat (first | (with_reducible refine Below.drew ?_) | (with_reducible refine Below.setCell ?_ (by exact Nat.le_refl _) _))); exact X1.out.trans (B1.out.mono X1.out.size))
        | trace_state
    · have : (Pl.builtP s.data.toList).2.1 = 2 := by unfold Pl.builtP; rw [hp]; rfl
      omega
  · cases h
set_option maxHeartbeats 8000000 in
set_option maxRecDepth 100000 in
theorem made_none {s : ByteArray} (h : madeP s.data.toList = none) (w : World) : Calls Try.prog 7 #[.string s] w (MadeNo w) := by
  have hsz : s.data.toList.length = s.size := by simp
  have X1 := Lib.hid ((Below.refl w.heap.size w).alloc (Nat.le_refl _) planZ)
  have H0 := Lib.hid (heap_alloc_new w planZ)
  have gZ0 : w.heap.size < (w.alloc planZ).heap.size := by simp
  by_cases hlong : 1500 < s.size
  · have h1 : decide (1500 < (s.size : Int)) = true := dec_t (by omega)
    obtain ⟨⟨q0, q1, q2, q3, q4, q5⟩, ⟨e0, e1, e2, e3, e4, e5⟩, gq⟩ := row6 H0.out
    clear h hlong hsz
    go_enter Try.func7, Try.ntmps7
    go_wp2_with fail
    refine bodyPost_ret ?_ rfl ⟨Pl.Plan.zero, none, 0, none, 0, rfl, ?_⟩
    · simp [results, Try.results7, go_sem, Pl.Plan.zero, *]
    · (repeat (with_reducible refine Below.setCell ?_ (by exact Nat.le_refl _) _)); exact X1.out
  have h1 : decide (1500 < (s.size : Int)) = false := dec_f (by omega)
  have hfew := sheet_few s.data.toList
  rcases sheet_ways s.data.toList with hp | ⟨k, hp⟩
  · have P : Pl.builtP s.data.toList = Pl.build (Sh.parse s.data.toList).1 := by unfold Pl.builtP; rw [if_pos (by rw [hp])]
    have HR := Lib.hid (sheet_fits hp)
    have C := Lib.hid (fun W => sheet_yes hp (by omega) W)
    have hz : (Pl.build (Sh.parse s.data.toList).1).2.1 ≠ 0 := fun hz => by
      unfold madeP at h
      rw [if_pos ⟨by omega, by rw [P]; exact hz⟩] at h
      cases h
    generalize (Sh.parse s.data.toList).1 = L at hp hfew HR C hz
    clear P hp h
    go_enter Try.func7, Try.ntmps7
    go_wp2_with fail
    refine (C.out _).mono ?_; rintro e w1 ⟨A, c, hc, rfl, its, hb1⟩
    have HB2 := Lib.hid (hb1.alloc hb1.size faultZ)
    have IT2 := Lib.hid (its.below rfl ((Below.refl w1.heap.size w1).alloc (Nat.le_refl _) faultZ))
    have kf := Lib.hid (heap_alloc_new w1 faultZ)
    have PB := Lib.hid (rpBuild_any rpSorted_any A c L (w1.alloc faultZ) IT2.out (by omega) HR.out)
    obtain ⟨⟨p, x, n⟩, hpl⟩ : ∃ y, Pl.build L = y := ⟨_, rfl⟩
    rw [hpl] at PB hz
    have D : (x == 0) = false := by rw [beq_eq_false_iff_ne]; exact hz
    have gz1 : w.heap.size < w1.heap.size := by have := hb1.size; simp at this; omega
    clear its hb1 hc hpl hz
    go_wp2_with fail
    refine PB.out.mono ?_; rintro e w3 ⟨S, cS, G, cG, l1, l2, rfl, rS, rG, hb3⟩
    simp only at hb3 l1 l2 rS rG ⊢
    obtain ⟨RP, RF, X3, XS⟩ := two_blocks w3 (planO p S cS G cG) (.cells #[.int .i64 x, .int .i64 n] 52)
    have BB := hb3.trans (X3.mono hb3.size)
    have B1 := Lib.hid (HB2.out.trans (BB.mono HB2.out.size))
    have hF := (BB.block _ (by simp)).trans kf.out
    have hP := (B1.out.block _ gZ0).trans H0.out
    have hz3 : w1.heap.size < w3.heap.size := by have := hb3.size; simp at this; omega
    have hx0 : w.heap.size ≠ w1.heap.size := by omega
    have hx1 : w.heap.size ≠ w3.heap.size := by omega
    have hx2 : w.heap.size ≠ w3.heap.size + 1 := by omega
    obtain ⟨⟨q0, q1, q2, q3, q4, q5⟩, ⟨e0, e1, e2, e3, e4, e5⟩, gq⟩ := row6 hP
    obtain ⟨⟨t0, t1⟩, gt⟩ := row2c hF
    obtain ⟨⟨u0, u1⟩, gu⟩ := row2c RF
    obtain ⟨⟨p0, p1, p2, p3, p4, p5⟩, -, gp⟩ := row6 RP
    have K0 := Lib.hid (show (fun w' : World => (w'.cell? ⟨w3.heap.size, 0, none⟩ = some (.int .i64 p.ov) ∧ w'.cell? ⟨w3.heap.size, 1, none⟩ = some (.int .i64 p.ap) ∧ w'.cell? ⟨w3.heap.size, 2, none⟩ = some (.int .i64 p.se) ∧ w'.cell? ⟨w3.heap.size, 3, none⟩ = some (.int .i64 p.ho) ∧ w'.cell? ⟨w3.heap.size, 4, none⟩ = some (.slice S p.secs.length cS) ∧ w'.cell? ⟨w3.heap.size, 5, none⟩ = some (.slice G p.sigs.length cG)) ∧ w'.cell? ⟨w1.heap.size, 0, none⟩ = some (.int .i64 0) ∧ w'.cell? ⟨w3.heap.size + 1, 0, none⟩ = some (.int .i64 x)) ((w3.alloc (planO p S cS G cG)).alloc (.cells #[.int .i64 x, .int .i64 n] 52)).drew from ⟨⟨p0, p1, p2, p3, p4, p5⟩, t0, u0⟩)
    have K00 := Lib.hid (show (fun w' : World => (w'.cell? ⟨w3.heap.size, 0, none⟩ = some (.int .i64 p.ov) ∧ w'.cell? ⟨w3.heap.size, 1, none⟩ = some (.int .i64 p.ap) ∧ w'.cell? ⟨w3.heap.size, 2, none⟩ = some (.int .i64 p.se) ∧ w'.cell? ⟨w3.heap.size, 3, none⟩ = some (.int .i64 p.ho) ∧ w'.cell? ⟨w3.heap.size, 4, none⟩ = some (.slice S p.secs.length cS) ∧ w'.cell? ⟨w3.heap.size, 5, none⟩ = some (.slice G p.sigs.length cG)) ∧ w'.cell? ⟨w1.heap.size, 0, none⟩ = some (.int .i64 0) ∧ w'.cell? ⟨w3.heap.size + 1, 0, none⟩ = some (.int .i64 x)) ((w3.alloc (planO p S cS G cG)).alloc (.cells #[.int .i64 x, .int .i64 n] 52)) from ⟨⟨p0, p1, p2, p3, p4, p5⟩, t0, u0⟩)
    have K1 := Lib.hid (fun (w' : World) (v0 v1 v2 v3 v4 v5 : Value) (h : (fun w' : World => (w'.cell? ⟨w3.heap.size, 0, none⟩ = some (.int .i64 p.ov) ∧ w'.cell? ⟨w3.heap.size, 1, none⟩ = some (.int .i64 p.ap) ∧ w'.cell? ⟨w3.heap.size, 2, none⟩ = some (.int .i64 p.se) ∧ w'.cell? ⟨w3.heap.size, 3, none⟩ = some (.int .i64 p.ho) ∧ w'.cell? ⟨w3.heap.size, 4, none⟩ = some (.slice S p.secs.length cS) ∧ w'.cell? ⟨w3.heap.size, 5, none⟩ = some (.slice G p.sigs.length cG)) ∧ w'.cell? ⟨w1.heap.size, 0, none⟩ = some (.int .i64 0) ∧ w'.cell? ⟨w3.heap.size + 1, 0, none⟩ = some (.int .i64 x)) w') => show (fun w' : World => (w'.cell? ⟨w3.heap.size, 0, none⟩ = some (.int .i64 p.ov) ∧ w'.cell? ⟨w3.heap.size, 1, none⟩ = some (.int .i64 p.ap) ∧ w'.cell? ⟨w3.heap.size, 2, none⟩ = some (.int .i64 p.se) ∧ w'.cell? ⟨w3.heap.size, 3, none⟩ = some (.int .i64 p.ho) ∧ w'.cell? ⟨w3.heap.size, 4, none⟩ = some (.slice S p.secs.length cS) ∧ w'.cell? ⟨w3.heap.size, 5, none⟩ = some (.slice G p.sigs.length cG)) ∧ w'.cell? ⟨w1.heap.size, 0, none⟩ = some (.int .i64 0) ∧ w'.cell? ⟨w3.heap.size + 1, 0, none⟩ = some (.int .i64 x)) ((((((w'.setCell ⟨w.heap.size, 0, none⟩ v0).setCell ⟨w.heap.size, 1, none⟩ v1).setCell ⟨w.heap.size, 2, none⟩ v2).setCell ⟨w.heap.size, 3, none⟩ v3).setCell ⟨w.heap.size, 4, none⟩ v4).setCell ⟨w.heap.size, 5, none⟩ v5).drew from
      ⟨⟨(set6_cell hx1).trans h.1.1, (set6_cell hx1).trans h.1.2.1, (set6_cell hx1).trans h.1.2.2.1, (set6_cell hx1).trans h.1.2.2.2.1, (set6_cell hx1).trans h.1.2.2.2.2.1, (set6_cell hx1).trans h.1.2.2.2.2.2⟩, (set6_cell hx0).trans h.2.1, (set6_cell hx2).trans h.2.2⟩)
    clear rS rG hb3 X3 BB hF hP RP RF PB kf H0 IT2 C HR l1 l2 hz3 gz1 hfew
    go_wp2_with fail
    clear p0 p1 p2 p3 p4 p5 t0 t1 u0 u1 hx0 hx1 hx2
    go_region_held3 (fun w' => (w'.cell? ⟨w3.heap.size, 0, none⟩ = some (.int .i64 p.ov) ∧ w'.cell? ⟨w3.heap.size, 1, none⟩ = some (.int .i64 p.ap) ∧ w'.cell? ⟨w3.heap.size, 2, none⟩ = some (.int .i64 p.se) ∧ w'.cell? ⟨w3.heap.size, 3, none⟩ = some (.int .i64 p.ho) ∧ w'.cell? ⟨w3.heap.size, 4, none⟩ = some (.slice S p.secs.length cS) ∧ w'.cell? ⟨w3.heap.size, 5, none⟩ = some (.slice G p.sigs.length cG)) ∧ w'.cell? ⟨w1.heap.size, 0, none⟩ = some (.int .i64 0) ∧ w'.cell? ⟨w3.heap.size + 1, 0, none⟩ = some (.int .i64 x))
      (first | with_reducible exact K0.out | with_reducible exact K1.out _ _ _ _ _ _ _ K00.out)
      (fail)
    all_goals go_wp2_with fail
    all_goals refine bodyPost_ret ?_ rfl ⟨p, S, cS, G, cG, rfl, ?_⟩
    all_goals first
      | (simp [results, Try.results7, go_sem, *]; done)
      | ((repeat (first | (with_reducible refine Below.drew ?_) | (with_reducible refine Below.setCell ?_ (by exact Nat.le_refl _) _))); exact X1.out.trans (B1.out.mono X1.out.size))
  · have C := Lib.hid (fun W => sheet_nay hp (by omega) W)
    clear hp h hfew
    go_enter Try.func7, Try.ntmps7
    go_wp2_with fail
    refine (C.out _).mono ?_; rintro e w1 ⟨A, c, rfl, hb1⟩
    have HB2 := Lib.hid (hb1.alloc hb1.size (.cells #[.int .i64 2, .int .i64 ((k : Int) + 1)] 52))
    have kf := Lib.hid (heap_alloc_new w1 (.cells #[.int .i64 2, .int .i64 ((k : Int) + 1)] 52))
    have PB := Lib.hid (rpBuild_any rpSorted_any A c [] (w1.alloc (.cells #[.int .i64 2, .int .i64 ((k : Int) + 1)] 52)) (.inl rfl) (by decide) (fun y hy => by cases hy))
    obtain ⟨⟨p, x, n⟩, hpl⟩ : ∃ y, Pl.build [] = y := ⟨_, rfl⟩
    rw [hpl] at PB
    have gz1 : w.heap.size < w1.heap.size := by have := hb1.size; simp at this; omega
    clear hb1 hpl
    go_wp2_with fail
    refine PB.out.mono ?_; rintro e w3 ⟨S, cS, G, cG, l1, l2, rfl, rS, rG, hb3⟩
    simp only at hb3 l1 l2 rS rG ⊢
    obtain ⟨RP, RF, X3, XS⟩ := two_blocks w3 (planO p S cS G cG) (.cells #[.int .i64 x, .int .i64 n] 52)
    have BB := hb3.trans (X3.mono hb3.size)
    have B1 := Lib.hid (HB2.out.trans (BB.mono HB2.out.size))
    have hF := (BB.block _ (by simp)).trans kf.out
    have hP := (B1.out.block _ gZ0).trans H0.out
    have hz3 : w1.heap.size < w3.heap.size := by have := hb3.size; simp at this; omega
    have hx0 : w1.heap.size ≠ w.heap.size := by omega
    have hx1 : w3.heap.size ≠ w.heap.size := by omega
    have hx3 : w.heap.size ≠ w1.heap.size := by omega
    have hx4 : w.heap.size ≠ w3.heap.size := by omega
    obtain ⟨⟨q0, q1, q2, q3, q4, q5⟩, ⟨e0, e1, e2, e3, e4, e5⟩, gq⟩ := row6 hP
    obtain ⟨⟨t0, t1⟩, gt⟩ := row2c hF
    obtain ⟨⟨p0, p1, p2, p3, p4, p5⟩, -, gp⟩ := row6 RP
    clear rS rG hb3 X3 BB hF hP RP RF PB kf H0 C l1 l2 hz3 gz1
    go_wp2_with fail
    go_region
    all_goals go_wp2_with fail
    all_goals refine bodyPost_ret ?_ rfl ⟨p, S, cS, G, cG, rfl, ?_⟩
    all_goals first
      | (simp [results, Try.results7, go_sem, *]; done)
      | ((repeat (first | (with_reducible refine Below.drew ?_) | (with_reducible refine Below.setCell ?_ (by exact Nat.le_refl _) _))); exact X1.out.trans (B1.out.mono X1.out.size))
end Go.Proofs.Ytgbeebjbmbikiaa
/-
  What the document's lines of a plan are gathered in: three rows of the call's own, one beside the other.
-/
namespace Go.Proofs.Ytgbeebjbmbikiaa
open Go.RowKit

/-- Two slices that don't lie in one block. -/
def Apart (v v' : Value) : Prop := ∀ b, v.ownBlock = some b → v'.ownBlock ≠ some b
theorem Apart.symm {v v' : Value} (h : Apart v v') : Apart v' v := fun b h1 h2 => h b h2 h1
theorem Apart.ne {v v' : Value} (h : Apart v v') : v'.ownBlock = none ∨ v'.ownBlock ≠ v.ownBlock := by
  cases hv : v'.ownBlock with
  | none => exact .inl rfl
  | some b => exact .inr fun e => h b e.symm hv
theorem Apart.nil (v : Value) : Apart v (.slice none 0 0) := fun _ _ h => by cases h
/-- A row that has grown is apart from one that hasn't. -/
theorem Apart.grown {w : World} {v v' v2 : Value} {base n : Nat} {e : TypeId} {size : Nat} {xs : List Value} (h : Apart v v2) (h2 : w.ownsRow base e size v2 n xs) {g : Nat} (hb : v'.ownBlock = some g) (hg : v.ownBlock = some g ∨ g = w.heap.size) : Apart v' v2 := fun b h1 h3 => by
  rw [hb] at h1
  cases h1
  rcases hg with hg | hg
  · exact h _ hg h3
  · have := (h2.lt _ h3).2
    omega
structure R3 (w wr : World) (O O2 : Obj) (v1 v2 v3 : Value) (X J S : List It.Itm) : Prop where
  bel : Below w.heap.size w wr
  box : wr.heap[w.heap.size]? = some O
  box2 : wr.heap[w.heap.size + 1]? = some O2
  o1 : wr.ownsRow (w.heap.size + 2) 70 7 v1 X.length (cellsL X)
  o2 : wr.ownsRow (w.heap.size + 2) 70 7 v2 J.length (cellsL J)
  o3 : wr.ownsRow (w.heap.size + 2) 70 7 v3 S.length (cellsL S)
  a12 : Apart v1 v2
  a13 : Apart v1 v3
  a23 : Apart v2 v3
theorem R3.start {w wr : World} {O O2 : Obj} (h1 : Below w.heap.size w wr) (h2 : wr.heap[w.heap.size]? = some O) (h3 : wr.heap[w.heap.size + 1]? = some O2) : R3 w wr O O2 (.slice none 0 0) (.slice none 0 0) (.slice none 0 0) [] [] [] :=
  ⟨h1, h2, h3, World.ownsRow_nil _ _ _ _, World.ownsRow_nil _ _ _ _, World.ownsRow_nil _ _ _ _, .nil _, .nil _, .nil _⟩
theorem R3.lt {w wr : World} {O O2 : Obj} {v1 v2 v3 : Value} {X J S : List It.Itm} (h : R3 w wr O O2 v1 v2 v3 X J S) : w.heap.size + 1 < wr.heap.size := (Array.getElem?_eq_some_iff.1 h.box2).1
theorem R3.below {w wr w2 : World} {O O2 : Obj} {v1 v2 v3 : Value} {X J S : List It.Itm} (h : R3 w wr O O2 v1 v2 v3 X J S) (hb : Below wr.heap.size wr w2) : R3 w w2 O O2 v1 v2 v3 X J S :=
  ⟨h.bel.trans (hb.mono h.bel.size), (hb.block _ (Nat.lt_of_succ_lt h.lt)).trans h.box, (hb.block _ h.lt).trans h.box2, ownsRow_below h.o1 hb, ownsRow_below h.o2 hb, ownsRow_below h.o3 hb, h.a12, h.a13, h.a23⟩
theorem R3.bel_grown {w wr w2 : World} {O O2 : Obj} {v1 v2 v3 v : Value} {X J S : List It.Itm} (h : R3 w wr O O2 v1 v2 v3 X J S) (hg : wr.grownBy w2 v.ownBlock) (hv : ∀ k, v.ownBlock = some k → w.heap.size + 2 ≤ k) : Below w.heap.size w w2 ∧ w2.heap[w.heap.size]? = some O ∧ w2.heap[w.heap.size + 1]? = some O2 := by
  have hl := h.lt
  refine ⟨h.bel.grown hg (by omega) (fun k hk => by have := hv k hk; omega), ?_, ?_⟩
  · rw [hg.block _ (by omega) (fun e => by have := hv _ e.symm; omega)]; exact h.box
  · rw [hg.block _ hl (fun e => by have := hv _ e.symm; omega)]; exact h.box2
theorem own_snoc {w2 : World} {base : Nat} {v : Value} {n : Nat} {X : List It.Itm} {y : It.Itm} (hn : n = X.length) (h : w2.ownsRow base 70 7 v (n + 1) (cellsL X ++ LItm.all [y])) : w2.ownsRow base 70 7 v (X ++ [y]).length (cellsL (X ++ [y])) := by
  subst hn
  rw [List.length_append, List.length_singleton, cellsL_append]
  exact h
theorem R3.one {w wr w2 : World} {O O2 : Obj} {v1 v2 v3 v' : Value} {X J S : List It.Itm} {y : It.Itm} {g : Nat} (h : R3 w wr O O2 v1 v2 v3 X J S) (ho : w2.ownsRow (w.heap.size + 2) 70 7 v' (X.length + 1) (cellsL X ++ LItm.all [y])) (hg : wr.grownBy w2 v1.ownBlock) (hb : v'.ownBlock = some g) (hgg : v1.ownBlock = some g ∨ g = wr.heap.size) : R3 w w2 O O2 v' v2 v3 (X ++ [y]) J S := by
  obtain ⟨b1, b2, b3⟩ := h.bel_grown hg fun k hk => (h.o1.lt k hk).1
  exact ⟨b1, b2, b3, own_snoc rfl ho, h.o2.kept hg h.a12.ne, h.o3.kept hg h.a13.ne, h.a12.grown h.o2 hb hgg, h.a13.grown h.o3 hb hgg, h.a23⟩
/-- The first row alone. -/
theorem R3.st {w wr : World} {O O2 : Obj} {v1 v2 v3 : Value} {X J S : List It.Itm} (h : R3 w wr O O2 v1 v2 v3 X J S) : ItSt w wr O v1 X := ⟨h.bel, h.box, own_mono h.o1 (Nat.le_succ _)⟩
theorem on_end3 {w : World} {b o : Nat} {s : Pl.Sec} (h : LSec.On w b o s) {e : Nat} (he : e < 3) : w.cell? ⟨b, o + 3 + e * 3, none⟩ = some (.int .i64 (s.get e).goes) ∧ w.cell? ⟨b, o + 3 + e * 3 + 1, none⟩ = some (.int .i64 (s.get e).at_) ∧ w.cell? ⟨b, o + 3 + e * 3 + 2, none⟩ = some (.int .i64 (s.get e).sig) := by
  obtain ⟨-, -, -, a3, a4, a5, a6, a7, a8, a9, a10, a11⟩ := sec_on h
  have : e = 0 ∨ e = 1 ∨ e = 2 := by omega
  rcases this with rfl | rfl | rfl
  · exact ⟨a3, a4, a5⟩
  · exact ⟨a6, a7, a8⟩
  · exact ⟨a9, a10, a11⟩
end Go.Proofs.Ytgbeebjbmbikiaa
/-
  The walks of the document's answers of layer 6.
-/
namespace Go.Proofs.Ytgbeebjbmbikiaa
open Go.RowKit

abbrev endZ : Obj := .cells #[.int .i64 0, .int .i64 0, .int .i64 0] 42
/-- An end, or none: what a call leaves. -/
def EndIs (x : Option Pl.En) (w : World) (e : Ending) (w' : World) : Prop := e = .returned (.tuple #[endV (x.getD ⟨0, 0, 0⟩), .bool x.isSome]) ∧ Below w.heap.size w w'
theorem row3 {w : World} {g : Nat} {a b c : Value} {t : TypeId} (h : w.heap[g]? = some (.cells #[a, b, c] t (0, 0))) :
    (w.cell? ⟨g, 0, none⟩ = some a ∧ w.cell? ⟨g, 1, none⟩ = some b ∧ w.cell? ⟨g, 2, none⟩ = some c) ∧ (w.frozen? ⟨g, 0, none⟩ = false ∧ w.frozen? ⟨g, 1, none⟩ = false ∧ w.frozen? ⟨g, 2, none⟩ = false) ∧ g < w.heap.size :=
  ⟨⟨cell_of_row w g 0 _ t _ h, cell_of_row w g 1 _ t _ h, cell_of_row w g 2 _ t _ h⟩, ⟨frozen_of_row w g 0 _ t h, frozen_of_row w g 1 _ t h, frozen_of_row w g 2 _ t h⟩, (Array.getElem?_eq_some_iff.1 h).1⟩
set_option maxHeartbeats 8000000 in
set_option maxRecDepth 100000 in
theorem rwAt_any (p : Pl.Plan) (A : Option Addr) (c : Nat) (A' : Option Addr) (c' : Nat) (s e : Int) (w : World) (h : PlanIn w p A A') :
    Calls Try.prog 23 #[planV p A c A' c', .int .i64 s, .int .i64 e] w (EndIs (Wk.endOf p s e) w) := by
  obtain ⟨R0, R1, XX, XS⟩ := two_blocks w (planO p A c A' c') endZ
  have X0 := Lib.hid XX
  obtain ⟨⟨-, -, -, -, p4, -⟩, -, gp⟩ := row6 R0
  obtain ⟨⟨z0, z1, z2⟩, ⟨f0, f1, f2⟩, gz⟩ := row3 R1
  have HI := Lib.hid (h.below XX)
  clear R0 R1 XX h
  rcases Wk.sec_ways p s with ⟨hs, hn⟩ | ⟨k, rfl, ⟨hk, hn⟩ | ⟨x, hx, hn⟩⟩
  · have D : decide (s < 0) = true := dec_t hs
    have E : Wk.endOf p s e = none := by unfold Wk.endOf; rw [hn]
    rw [E]
    clear hs hn E
    go_enter Try.func23, Try.ntmps23
    go_wp2_with fail
    refine bodyPost_ret ?_ rfl ⟨rfl, ?_⟩
    · simp [results, Try.results23, go_sem, *]
    · (repeat (with_reducible refine Below.setCell ?_ (by exact Nat.le_succ _) _)); exact X0.out
  · have D0 : decide ((k : Int) < 0) = false := dec_f (by omega)
    have D1 : decide ((p.secs.length : Int) ≤ (k : Int)) = true := dec_t (by omega)
    have E : Wk.endOf p k e = none := by unfold Wk.endOf; rw [hn]
    rw [E]
    clear hn E
    go_enter Try.func23, Try.ntmps23
    go_wp2_with fail
    refine bodyPost_ret ?_ rfl ⟨rfl, ?_⟩
    · simp [results, Try.results23, go_sem, *]
    · (repeat (with_reducible refine Below.setCell ?_ (by exact Nat.le_succ _) _)); exact X0.out
  · have hlt : k < p.secs.length := (List.getElem?_eq_some_iff.1 hx).1
    have D0 : decide ((k : Int) < 0) = false := dec_f (by omega)
    have D1 : decide ((p.secs.length : Int) ≤ (k : Int)) = false := dec_f (by omega)
    have N1 : ¬ p.secs.length ≤ k := by omega
    have E : Wk.endOf p k e = if Wk.isEnd x e then some (x.get e.toNat) else none := by unfold Wk.endOf; rw [hn]
    obtain ⟨b, o, rfl, hb, on⟩ := sec_cells HI.out.1 hx
    have HON := Lib.hid on
    obtain ⟨-, a1, -⟩ := sec_on on
    rw [E]
    clear hn E on
    by_cases h0 : e < 0
    · have D2 : decide (e < 0) = true := dec_t h0
      have E : Wk.isEnd x e = false := by unfold Wk.isEnd; rw [decide_eq_false (by omega)]; rfl
      rw [E]
      clear h0 hx E a1
      go_enter Try.func23, Try.ntmps23
      go_wp2_with fail
      refine bodyPost_ret ?_ rfl ⟨rfl, ?_⟩
      · simp [results, Try.results23, go_sem, *]
      · (repeat (with_reducible refine Below.setCell ?_ (by exact Nat.le_succ _) _)); exact X0.out
    have D2 : decide (e < 0) = false := dec_f h0
    by_cases h2 : 2 < e
    · have D3 : decide (2 < e) = true := dec_t h2
      have E : Wk.isEnd x e = false := by unfold Wk.isEnd; rw [decide_eq_false (show ¬ e ≤ 2 by omega), Bool.false_and, Bool.and_false]
      rw [E]
      clear h0 h2 hx E a1
      go_enter Try.func23, Try.ntmps23
      go_wp2_with fail
      refine bodyPost_ret ?_ rfl ⟨rfl, ?_⟩
      · simp [results, Try.results23, go_sem, *]
      · (repeat (with_reducible refine Below.setCell ?_ (by exact Nat.le_succ _) _)); exact X0.out
    have D3 : decide (2 < e) = false := dec_f h2
    obtain ⟨j, rfl⟩ : ∃ j : Nat, e = j := ⟨e.toNat, by omega⟩
    have hj : j < 3 := by omega
    by_cases hc : j = 2 ∧ x.pt = false
    · obtain ⟨rfl, hpt⟩ := hc
      have E : Wk.isEnd x (2 : Nat) = false := by unfold Wk.isEnd; rw [hpt]; rfl
      rw [hpt] at a1
      rw [E]
      clear h0 h2 hx E hpt HON D2 D3 hj
      go_enter Try.func23, Try.ntmps23
      go_wp2_with fail
      refine bodyPost_ret ?_ rfl ⟨rfl, ?_⟩
      · simp [results, Try.results23, go_sem, *]
      · (repeat (with_reducible refine Below.setCell ?_ (by exact Nat.le_succ _) _)); exact X0.out
    · obtain ⟨c0, c1, c2⟩ := on_end3 HON.out hj
      have hz : ((j : Int) = 2 → x.pt = true) := fun h => by
        cases hpt : x.pt
        · exact absurd ⟨by omega, hpt⟩ hc
        · rfl
      have E : Wk.isEnd x (j : Int) = true := by
        unfold Wk.isEnd
        rw [decide_eq_true (show (0 : Int) ≤ j by omega), decide_eq_true (show (j : Int) ≤ 2 by omega), Bool.true_and, Bool.true_and]
        by_cases hj2 : (j : Int) = 2
        · rw [hz hj2, Bool.or_true]
        · rw [decide_eq_true hj2, Bool.true_or]
      rw [E, if_pos rfl, Int.toNat_natCast]
      generalize x.get j = y at c0 c1 c2
      obtain ⟨y0, y1, y2⟩ := y
      simp only at c0 c1 c2
      have j3 : (j : Int) < 3 := by omega
      by_cases hj2 : j = 2
      · subst hj2
        rw [hz rfl] at a1
        clear h0 h2 hx E HON D2 D3 hj hz hc
        go_enter Try.func23, Try.ntmps23
        go_wp2_with fail
        refine bodyPost_ret ?_ rfl ⟨rfl, ?_⟩
        · simp [results, Try.results23, go_sem, *]
        · exact (two_blocks w _ _).2.2.1
      · have D4 : ((j : Int) == 2) = false := by rw [beq_eq_false_iff_ne]; omega
        clear h0 h2 hx E HON hz hc hj2 a1
        go_enter Try.func23, Try.ntmps23
        go_wp2_with fail
        refine bodyPost_ret ?_ rfl ⟨rfl, ?_⟩
        · simp [results, Try.results23, go_sem, *]
        · exact (two_blocks w _ _).2.2.1
end Go.Proofs.Ytgbeebjbmbikiaa
/-
  The walks of the document's answers of layer 6: where an end leads, what stands there, what a step asks, through what steps go.
-/
namespace Go.Proofs.Ytgbeebjbmbikiaa
open Go.RowKit

/-- Where an end leads: what a call leaves. -/
def NextIs (x : Int × Int × Bool) (w : World) (e : Ending) (w' : World) : Prop := e = .returned (.tuple #[.int .i64 x.1, .int .i64 x.2.1, .bool x.2.2]) ∧ Below w.heap.size w w'
/-- A value that a call leaves, with memory made. -/
def OneIs (v : Value) (w : World) (e : Ending) (w' : World) : Prop := e = .returned v ∧ Below w.heap.size w w'
set_option maxHeartbeats 8000000 in
set_option maxRecDepth 100000 in
theorem rwNext_any (p : Pl.Plan) (A : Option Addr) (c : Nat) (A' : Option Addr) (c' : Nat) (s e : Int) (w : World) (h : PlanIn w p A A') :
    Calls Try.prog 10 #[planV p A c A' c', .int .i64 s, .int .i64 e] w (NextIs (Wk.next p s e) w) := by
  have R0 := heap_alloc_new w (planO p A c A' c')
  have XX := (Below.refl w.heap.size w).alloc (Nat.le_refl _) (planO p A c A' c')
  have X0 := Lib.hid XX
  obtain ⟨⟨p0, p1, p2, p3, p4, p5⟩, -, gp⟩ := row6 R0
  have AT := Lib.hid (rwAt_any p A c A' c' s e _ (h.below XX))
  have E : Wk.next p s e = match Wk.endOf p s e with | none => (0, 0, false) | some x => if x.goes < 0 then (0, 0, false) else (x.goes, x.at_, true) := rfl
  rw [E]
  clear R0 XX h E
  cases hx : Wk.endOf p s e with
  | none =>
    rw [hx] at AT
    clear hx
    go_enter Try.func10, Try.ntmps10
    go_wp2_with fail
    refine AT.out.mono ?_; rintro e w1 ⟨rfl, hb1⟩
    have B1 := Lib.hid ((X0.out.trans (hb1.mono X0.out.size)).alloc (X0.out.trans (hb1.mono X0.out.size)).size endZ)
    clear p0 p1 p2 p3 p4 p5 hb1
    go_wp2_with fail
    refine bodyPost_ret ?_ rfl ⟨rfl, B1.out⟩
    simp [results, Try.results10, go_sem]
  | some y =>
    rw [hx] at AT
    obtain ⟨y0, y1, y2⟩ := y
    by_cases h0 : y0 < 0
    · have D : decide (y0 < 0) = true := dec_t h0
      simp only
      rw [if_pos h0]
      clear hx h0
      go_enter Try.func10, Try.ntmps10
      go_wp2_with fail
      refine AT.out.mono ?_; rintro e w1 ⟨rfl, hb1⟩
      have B1 := Lib.hid ((X0.out.trans (hb1.mono X0.out.size)).alloc (X0.out.trans (hb1.mono X0.out.size)).size (.cells #[.int .i64 y0, .int .i64 y1, .int .i64 y2] 42))
      clear p0 p1 p2 p3 p4 p5 hb1
      go_wp2_with fail
      refine bodyPost_ret ?_ rfl ⟨rfl, B1.out⟩
      simp [results, Try.results10, go_sem]
    · have D : decide (y0 < 0) = false := dec_f h0
      simp only
      rw [if_neg h0]
      clear hx h0
      go_enter Try.func10, Try.ntmps10
      go_wp2_with fail
      refine AT.out.mono ?_; rintro e w1 ⟨rfl, hb1⟩
      have B1 := Lib.hid ((X0.out.trans (hb1.mono X0.out.size)).alloc (X0.out.trans (hb1.mono X0.out.size)).size (.cells #[.int .i64 y0, .int .i64 y1, .int .i64 y2] 42))
      obtain ⟨⟨k0, k1, k2⟩, -, -⟩ := row3 (heap_alloc_new w1 (.cells #[.int .i64 y0, .int .i64 y1, .int .i64 y2] 42))
      clear p0 p1 p2 p3 p4 p5 hb1
      go_wp2_with fail
      go_quiet (fail)
      go_wp2_with fail
      refine bodyPost_ret ?_ rfl ⟨rfl, below_drewN B1.out _⟩
      simp [results, Try.results10, go_sem]
set_option maxHeartbeats 8000000 in
set_option maxRecDepth 100000 in
theorem rwSignal_any (p : Pl.Plan) (A : Option Addr) (c : Nat) (A' : Option Addr) (c' : Nat) (s e : Int) (w : World) (h : PlanIn w p A A') :
    Calls Try.prog 15 #[planV p A c A' c', .int .i64 s, .int .i64 e] w (OneIs (.int .i64 (Wk.signal p s e)) w) := by
  have R0 := heap_alloc_new w (planO p A c A' c')
  have XX := (Below.refl w.heap.size w).alloc (Nat.le_refl _) (planO p A c A' c')
  have X0 := Lib.hid XX
  obtain ⟨⟨p0, p1, p2, p3, p4, p5⟩, -, gp⟩ := row6 R0
  have AT := Lib.hid (rwAt_any p A c A' c' s e _ (h.below XX))
  have E : Wk.signal p s e = match Wk.endOf p s e with | none => -1 | some x => x.sig := rfl
  rw [E]
  clear R0 XX h E
  cases hx : Wk.endOf p s e with
  | none =>
    rw [hx] at AT
    clear hx
    go_enter Try.func15, Try.ntmps15
    go_wp2_with fail
    refine AT.out.mono ?_; rintro e w1 ⟨rfl, hb1⟩
    have B1 := Lib.hid ((X0.out.trans (hb1.mono X0.out.size)).alloc (X0.out.trans (hb1.mono X0.out.size)).size endZ)
    clear p0 p1 p2 p3 p4 p5 hb1
    go_wp2_with fail
    go_ret
    exact ⟨rfl, B1.out⟩
  | some y =>
    rw [hx] at AT
    obtain ⟨y0, y1, y2⟩ := y
    clear hx
    go_enter Try.func15, Try.ntmps15
    go_wp2_with fail
    refine AT.out.mono ?_; rintro e w1 ⟨rfl, hb1⟩
    have B1 := Lib.hid ((X0.out.trans (hb1.mono X0.out.size)).alloc (X0.out.trans (hb1.mono X0.out.size)).size (.cells #[.int .i64 y0, .int .i64 y1, .int .i64 y2] 42))
    obtain ⟨⟨k0, k1, k2⟩, -, -⟩ := row3 (heap_alloc_new w1 (.cells #[.int .i64 y0, .int .i64 y1, .int .i64 y2] 42))
    clear p0 p1 p2 p3 p4 p5 hb1
    go_wp2_with fail
    go_ret
    exact ⟨rfl, B1.out⟩
abbrev stpO (x : Wk.Stp) : Obj := .cells #[.int .i64 x.s, .int .i64 x.f, .int .i64 x.t] 34
set_option maxHeartbeats 8000000 in
set_option maxRecDepth 100000 in
theorem rwPosition_any (p : Pl.Plan) (A : Option Addr) (c : Nat) (A' : Option Addr) (c' : Nat) (x : Wk.Stp) (w : World) (h : PlanIn w p A A') :
    Calls Try.prog 17 #[planV p A c A' c', stpV x] w (OneIs (.int .i64 (Wk.position p x)) w) := by
  obtain ⟨s, f, t⟩ := x
  obtain ⟨R0, R1, XX, XS⟩ := two_blocks w (planO p A c A' c') (stpO ⟨s, f, t⟩)
  have X0 := Lib.hid XX
  obtain ⟨⟨-, -, -, -, p4, -⟩, -, gp⟩ := row6 R0
  obtain ⟨⟨z0, z1, z2⟩, -, gz⟩ := row3 R1
  have HI := Lib.hid (h.below XX)
  clear R0 R1 XX h
  have E : ∀ s, Wk.position p ⟨s, f, t⟩ = if ((Wk.secAt p s).map Pl.Sec.pt).getD false then max (max f t) 0 else 0 := fun _ => rfl
  rcases Wk.sec_ways p s with ⟨hs, hn⟩ | ⟨k, rfl, ⟨hk, hn⟩ | ⟨x, hx, hn⟩⟩
  · have D : decide (s < 0) = true := dec_t hs
    rw [E, hn]
    clear hs hn E
    go_enter Try.func17, Try.ntmps17
    go_wp2_with fail
    go_ret
    exact ⟨rfl, X0.out⟩
  · have D0 : decide ((k : Int) < 0) = false := dec_f (by omega)
    have D1 : decide ((p.secs.length : Int) ≤ (k : Int)) = true := dec_t (by omega)
    rw [E, hn]
    clear hn E
    go_enter Try.func17, Try.ntmps17
    go_wp2_with fail
    go_ret
    exact ⟨rfl, X0.out⟩
  · have hlt : k < p.secs.length := (List.getElem?_eq_some_iff.1 hx).1
    have D0 : decide ((k : Int) < 0) = false := dec_f (by omega)
    have D1 : decide ((p.secs.length : Int) ≤ (k : Int)) = false := dec_f (by omega)
    have N1 : ¬ p.secs.length ≤ k := by omega
    obtain ⟨b, o, rfl, hb, on⟩ := sec_cells HI.out.1 hx
    obtain ⟨-, a1, -⟩ := sec_on on
    rw [E, hn]
    clear hn on hx E
    cases hpt : x.pt
    · rw [hpt] at a1
      simp only [Option.map_some, Option.getD_some, hpt]
      clear hpt
      go_enter Try.func17, Try.ntmps17
      go_wp2_with fail
      go_ret
      exact ⟨rfl, X0.out⟩
    · rw [hpt] at a1
      simp only [Option.map_some, Option.getD_some, hpt]
      clear hpt
      go_enter Try.func17, Try.ntmps17
      go_wp2_with fail
      all_goals refine bodyPost_ret (v := .int .i64 (max f (max t 0))) ?_ rfl ⟨rfl, X0.out⟩
      all_goals simp [results, Try.results17, go_sem]
      all_goals omega
end Go.Proofs.Ytgbeebjbmbikiaa
/-
  The walks of the document's answers of layer 6: the steps through a section, whether steps go through one, whether they are the same.
-/
namespace Go.Proofs.Ytgbeebjbmbikiaa
open Go.RowKit

theorem within_at {L : List Wk.Stp} {s : Int} {k : Nat} {x : Wk.Stp} (hx : L[k]? = some x) (h : x.s = s) : Wk.within L s = true := by
  unfold Wk.within
  rw [List.any_eq_true]
  exact ⟨x, List.mem_of_getElem? hx, decide_eq_true h⟩
theorem within_none {L : List Wk.Stp} {s : Int} (h : ∀ j < L.length, ∀ x, L[j]? = some x → x.s ≠ s) : Wk.within L s = false := by
  unfold Wk.within
  rw [List.any_eq_false]
  intro x hx
  obtain ⟨j, hj, rfl⟩ := List.getElem_of_mem hx
  simpa using h j hj _ (List.getElem?_eq_getElem hj)
theorem row_one (w : World) (y : Wk.Stp) {g : Nat} (hg : w.heap.size = g) : LStp.Row (w.alloc (.cells #[.int .i64 y.s, .int .i64 y.f, .int .i64 y.t] 34)) (some ⟨g, 0, none⟩) [y] := hg ▸ Lies.Row.fresh (E := LStp) w [y] 34
theorem row_two (w : World) (y z : Wk.Stp) {g : Nat} (hg : w.heap.size = g) : LStp.Row (w.alloc (.cells #[.int .i64 y.s, .int .i64 y.f, .int .i64 y.t, .int .i64 z.s, .int .i64 z.f, .int .i64 z.t] 34)) (some ⟨g, 0, none⟩) [y, z] := hg ▸ Lies.Row.fresh (E := LStp) w [y, z] 34
set_option maxHeartbeats 8000000 in
set_option maxRecDepth 100000 in
theorem rwOuts_any (p : Pl.Plan) (A : Option Addr) (c : Nat) (A' : Option Addr) (c' : Nat) (s f : Int) (w : World) (h : PlanIn w p A A') :
    Calls Try.prog 13 #[planV p A c A' c', .int .i64 s, .int .i64 f] w (StepsYes (Wk.outs p s f) w) := by
  have R0 := heap_alloc_new w (planO p A c A' c')
  have XX := (Below.refl w.heap.size w).alloc (Nat.le_refl _) (planO p A c A' c')
  have X0 := Lib.hid XX
  obtain ⟨⟨-, -, -, -, p4, -⟩, -, gp⟩ := row6 R0
  have HI := Lib.hid (h.below XX)
  clear R0 XX h
  rcases Wk.sec_ways p s with ⟨hs, hn⟩ | ⟨k, rfl, ⟨hk, hn⟩ | ⟨x, hx, hn⟩⟩
  · have D : decide (s < 0) = true := dec_t hs
    have E : Wk.outs p s f = [] := by unfold Wk.outs; rw [hn]
    rw [E]
    clear hs hn E
    go_enter Try.func13, Try.ntmps13
    go_wp2_with fail
    go_ret
    exact ⟨none, 0, rfl, .inl rfl, X0.out⟩
  · have D0 : decide ((k : Int) < 0) = false := dec_f (by omega)
    have D1 : decide ((p.secs.length : Int) ≤ (k : Int)) = true := dec_t (by omega)
    have E : Wk.outs p k f = [] := by unfold Wk.outs; rw [hn]
    rw [E]
    clear hn E
    go_enter Try.func13, Try.ntmps13
    go_wp2_with fail
    go_ret
    exact ⟨none, 0, rfl, .inl rfl, X0.out⟩
  · have hlt : k < p.secs.length := (List.getElem?_eq_some_iff.1 hx).1
    have D0 : decide ((k : Int) < 0) = false := dec_f (by omega)
    have D1 : decide ((p.secs.length : Int) ≤ (k : Int)) = false := dec_f (by omega)
    have N1 : ¬ p.secs.length ≤ k := by omega
    obtain ⟨b, o, rfl, hb, on⟩ := sec_cells HI.out.1 hx
    obtain ⟨-, a1, -⟩ := sec_on on
    have E : Wk.outs p k f = if x.pt then (if f = 0 then [⟨k, 0, 1⟩, ⟨k, 0, 2⟩] else if f = 1 ∨ f = 2 then [⟨k, f, 0⟩] else []) else if f = 0 ∨ f = 1 then [⟨k, f, 1 - f⟩] else [] := by unfold Wk.outs; rw [hn]
    rw [E]
    have X1 := Lib.hid (X0.out.alloc X0.out.size)
    clear hn on hx E
    cases hpt : x.pt
    · rw [hpt] at a1
      rw [if_neg (by decide)]
      clear hpt
      by_cases h0 : f = 0
      · subst h0
        rw [if_pos (.inl rfl)]
        go_enter Try.func13, Try.ntmps13
        go_wp2_with fail
        go_ret
        exact ⟨_, _, rfl, row_one (w.alloc (planO p (some ⟨b, o, none⟩) c A' c')) ⟨k, 0, 1⟩ (by simp), X1.out _⟩
      by_cases h1 : f = 1
      · subst h1
        rw [if_pos (.inr rfl)]
        clear h0
        go_enter Try.func13, Try.ntmps13
        go_wp2_with fail
        go_ret
        exact ⟨_, _, rfl, row_one (w.alloc (planO p (some ⟨b, o, none⟩) c A' c')) ⟨k, 1, 0⟩ (by simp), X1.out _⟩
      have d0 : (f == 0) = false := by rw [beq_eq_false_iff_ne]; exact h0
      have d1 : (f == 1) = false := by rw [beq_eq_false_iff_ne]; exact h1
      rw [if_neg (by omega)]
      clear h0 h1
      go_enter Try.func13, Try.ntmps13
      go_wp2_with fail
      go_ret
      exact ⟨none, 0, rfl, .inl rfl, X0.out⟩
    · rw [hpt] at a1
      rw [if_pos rfl]
      clear hpt
      by_cases h0 : f = 0
      · subst h0
        rw [if_pos rfl]
        go_enter Try.func13, Try.ntmps13
        go_wp2_with fail
        go_ret
        exact ⟨_, _, rfl, row_two (w.alloc (planO p (some ⟨b, o, none⟩) c A' c')) ⟨k, 0, 1⟩ ⟨k, 0, 2⟩ (by simp), X1.out _⟩
      rw [if_neg h0]
      by_cases h1 : f = 1
      · subst h1
        rw [if_pos (.inl rfl)]
        clear h0
        go_enter Try.func13, Try.ntmps13
        go_wp2_with fail
        go_ret
        exact ⟨_, _, rfl, row_one (w.alloc (planO p (some ⟨b, o, none⟩) c A' c')) ⟨k, 1, 0⟩ (by simp), X1.out _⟩
      by_cases h2 : f = 2
      · subst h2
        rw [if_pos (.inr rfl)]
        clear h0 h1
        go_enter Try.func13, Try.ntmps13
        go_wp2_with fail
        go_ret
        exact ⟨_, _, rfl, row_one (w.alloc (planO p (some ⟨b, o, none⟩) c A' c')) ⟨k, 2, 0⟩ (by simp), X1.out _⟩
      have d0 : (f == 0) = false := by rw [beq_eq_false_iff_ne]; exact h0
      have d1 : (f == 1) = false := by rw [beq_eq_false_iff_ne]; exact h1
      have d2 : (f == 2) = false := by rw [beq_eq_false_iff_ne]; exact h2
      rw [if_neg (by omega)]
      clear h0 h1 h2
      go_enter Try.func13, Try.ntmps13
      go_wp2_with fail
      go_ret
      exact ⟨none, 0, rfl, .inl rfl, X0.out⟩
set_option maxHeartbeats 4000000 in
set_option maxRecDepth 100000 in
theorem rwWithin_any (A : Option Addr) (c : Nat) (L : List Wk.Stp) (s : Int) (w : World) (h : LStp.Row w A L) (hl : L.length ≤ 1000000) :
    Calls Try.prog 19 #[.slice A L.length c, .int .i64 s] w fun e w' => e = .returned (.bool (Wk.within L s)) ∧ w = w' := by
  go_enter Try.func19, Try.ntmps19
  go_wp2
  go_loop [5] (fun i => ∃ k : Nat, k ≤ L.length ∧ i = .int .i64 k ∧ ∀ j < k, ∀ t, L[j]? = some t → t.s ≠ s) (fun i => L.length - (intOf i).toNat)
  case atStart => exact ⟨0, Nat.zero_le _, rfl, fun j hj => absurd hj (by omega)⟩
  case round =>
    obtain ⟨k, hk, rfl, h0⟩ := hrel
    have H0 := Lib.hid h0
    clear h0
    by_cases hlt : k < L.length
    · obtain ⟨b, o, rfl, hb, on⟩ := h.at hlt
      have hx := List.getElem?_eq_getElem hlt
      generalize L[k] = x at hx on
      obtain ⟨a0, -⟩ := stp_on on
      rw [show k * LStp.m = k * 3 from rfl] at a0
      have HX := Lib.hid hx
      clear on hx
      by_cases he : x.s = s
      · have h1 : (x.s == s) = true := by rw [beq_iff_eq]; exact he
        have P := Lib.hid (within_at HX.out he)
        clear he
        go_wp2
        go_ret
        exact ⟨by rw [P.out]; rfl, rfl⟩
      · have h1 : (x.s == s) = false := by rw [beq_eq_false_iff_ne]; exact he
        have N := Lib.hid (fun j (hj : j < k + 1) t (ht : L[j]? = some t) => (show t.s ≠ s from by
          by_cases hjk : j = k
          · subst hjk
            rw [HX.out] at ht
            cases ht
            exact he
          · exact H0.out j (by omega) t ht))
        clear he
        go_wp2
        go_round
        case rel => exact ⟨k + 1, by omega, by go_num, N.out⟩
        case measure => simp [intOf]; omega
    · obtain rfl : k = L.length := by omega
      have P := Lib.hid (within_none H0.out)
      go_wp2
      go_ret
      exact ⟨by rw [P.out]; rfl, rfl⟩
theorem eq_stp_in (W : World) (d : Nat) (g h : Wk.Stp) : Sem.run Try.prog (Op.equalIn (d + 2) 34 (stpV g) (stpV h)) W = .ok (g.s == h.s && (g.f == h.f && g.t == h.t)) W := by
  cases h1 : g.s == h.s <;> cases h2 : g.f == h.f <;> cases h3 : g.t == h.t <;> go_simp
theorem stpB_eq (g h : Wk.Stp) : (g.s == h.s && (g.f == h.f && g.t == h.t)) = decide (g = h) := by
  rw [Bool.eq_iff_iff]
  obtain ⟨a, b, c⟩ := g
  obtain ⟨a', b', c'⟩ := h
  simp
theorem ne_stps (W : World) (g h : Wk.Stp) : Sem.run Try.prog (binOp .neq 34 (stpV g) (stpV h)) W = .ok (.bool (!decide (g = h))) W := by
  rw [run_neq_struct, show (10000 : Nat) = 9998 + 2 from rfl, eq_stp_in, stpB_eq]; rfl
theorem bin_stps (W : World) (g h : Wk.Stp) : Sem.run Try.prog (binOp .eql 34 (stpV g) (stpV h)) W = .ok (.bool (decide (g = h))) W := by
  rw [run_eql_struct, show (10000 : Nat) = 9998 + 2 from rfl, eq_stp_in, stpB_eq]; rfl
set_option maxHeartbeats 4000000 in
set_option maxRecDepth 100000 in
/-- Steps are the same as themselves, wherever they lie. -/
theorem rwSame_any (L : List Wk.Stp) (A : Option Addr) (c : Nat) (B : Option Addr) (d : Nat) (w : World) (hA : LStp.Row w A L) (hB : LStp.Row w B L) (hl : L.length ≤ 1000) :
    Calls Try.prog 11 #[.slice A L.length c, .slice B L.length d] w fun e w' => e = .returned (.bool true) ∧ Below w.heap.size w w' := by
  have IA := Lib.hid hA
  have IB := Lib.hid hB
  clear hA hB
  go_enter Try.func11, Try.ntmps11
  go_wp2_with fail
  go_loopw [5] (fun i wr => ∃ k : Nat, k ≤ L.length ∧ i = .int .i64 k ∧ Below w.heap.size w wr) (fun i _ => L.length - (intOf i).toNat)
  case atStart => exact ⟨0, Nat.zero_le _, rfl, Below.refl _ _⟩
  case round =>
    obtain ⟨k, hk, rfl, hB⟩ := hrel
    have HB := Lib.hid hB
    clear hB
    by_cases hlt : k < L.length
    · have hs := List.getElem?_eq_getElem hlt
      obtain ⟨b, o, rfl, hb, on⟩ := (IA.out.below rfl HB.out).at hlt
      obtain ⟨b', o', rfl, hb', on'⟩ := (IB.out.below rfl HB.out).at hlt
      generalize L[k] = s at hs on on'
      obtain ⟨a0, a1, a2⟩ := stp_on on
      obtain ⟨c0, c1, c2⟩ := stp_on on'
      rw [show k * LStp.m = k * 3 from rfl] at a0 a1 a2 c0 c1 c2
      have Q := fun W => (ne_stps W s s).trans (by rw [decide_eq_true rfl])
      clear on on' hs
      go_wp2_with fail
      go_quiet (fail)
      go_wp2_with fail
      go_roundw
      case rel => exact ⟨k + 1, by omega, by go_num, below_drewN HB.out _⟩
      case measure => simp [intOf]; omega
    · obtain rfl : k = L.length := by omega
      go_wp2_with fail
      go_ret
      exact ⟨rfl, HB.out⟩
end Go.Proofs.Ytgbeebjbmbikiaa
