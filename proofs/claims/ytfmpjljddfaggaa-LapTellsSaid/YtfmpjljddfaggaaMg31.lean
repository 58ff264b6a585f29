/-
  Texts of this claim, merged: LapTellsWalk.
-/
import Derived.Test.YtfmpjljddfaggaaMg29
/-
  The walk of the law LapTells: it returns true.
-/
namespace Go.Proofs.Ytfmpjljddfaggaa
open Go.RowKit

set_option maxHeartbeats 8000000 in
set_option maxRecDepth 100000 in
theorem lapTells_walk (s : ByteArray) (x y : Int) (A : Option Addr) (d n : Nat) (L : List Wk.Stp) (W : World) (_ws : s.size ≤ maxLen) (wx : (Lit.int .u8 x).wf = true) (wy : (Lit.int .u8 y).wf = true) (hn : L.length = n) (hI : LStp.Row W A L) (_hc : n ≤ d) (_hl : n ≤ maxLen) :
    Calls Try.prog 3 #[.string s, .agg #[.int .u8 x, .int .u8 y], .slice A n d] W fun e w' => e = .returned (.bool true) ∧ Below W.heap.size W w' := by
  subst hn
  have HL0 := Lib.hid hI
  clear hI
  have AW := Lib.hid lpAwake_any
  have bx := wf_u8 wx
  have bz := wf_u8 wy
  clear wx wy
  have XB := Lib.hid ((Below.refl W.heap.size W).alloc (Nat.le_refl _) (by2O x y))
  have RB := Lib.hid (heap_alloc_new W (by2O x y))
  have gb0 := (Array.getElem?_eq_some_iff.1 RB.out).1
  cases hm : madeP s.data.toList with
  | none =>
    have CM := Lib.hid (fun W => made_void hm W)
    go_enter Try.func3, Try.ntmps3
    go_wp2_with fail
    refine (CM.out _).mono ?_; rintro e w1 ⟨p, S, cS, G, cG, rfl, hv, hb1⟩
    have HVV := Lib.hid hv
    clear hv
    have X1 := (Below.refl w1.heap.size w1).alloc (Nat.le_refl _) (planO p S cS G cG)
    have B5 := Lib.hid ((XB.out.trans (hb1.mono XB.out.size)).trans (X1.mono (XB.out.trans (hb1.mono XB.out.size)).size))
    have RP := Lib.hid (heap_alloc_new w1 (planO p S cS G cG))
    have RB5 := Lib.hid ((X1.block _ (Nat.lt_of_lt_of_le gb0 hb1.size)).trans ((hb1.block _ gb0).trans RB.out))
    have I5 := Lib.hid (planIn_void HVV.out : PlanIn (w1.alloc (planO p S cS G cG)) p S G)
    obtain ⟨⟨p0, p1, p2, p3, p4, p5⟩, -, gx⟩ := row6 RP.out
    obtain ⟨⟨y0, y1⟩, -, gb⟩ := rowY RB5.out
    have CW := Lib.hid (way_any p S cS G cG x y _ I5.out (wayP_few HVV.out) bx bz)
    clear hb1 X1 CM XB RB gb0 bx bz
    go_wp2_with fail
    generalize w1.alloc (planO p S cS G cG) = w5 at B5 RP RB5 I5 p0 p1 p2 p3 p4 p5 y0 y1 gx gb CW ⊢
    refine CW.out.mono ?_; rintro e w6 ⟨hw, -⟩
    obtain ⟨rfl, hb6⟩ := hw (wayP_void HVV.out x y)
    have B7 := Lib.hid ((B5.out.trans (hb6.mono B5.out.size)).alloc (B5.out.trans (hb6.mono B5.out.size)).size wayZ)
    clear hb6 hw CW p0 p1 p2 p3 p4 p5 y0 y1 gx gb
    go_wp2_with fail
    refine (AW.out _).mono ?_; rintro e w8 ⟨rfl, hb8⟩
    go_wp2
    go_ret
    exact ⟨rfl, B7.out.trans (hb8.mono B7.out.size)⟩
  | some p =>
    obtain ⟨hfit, hmeas⟩ := madeP_meas hm
    have CM := Lib.hid (fun W => made_some hm W)
    go_enter Try.func3, Try.ntmps3
    go_wp2_with fail
    refine (CM.out _).mono ?_; rintro e w1 ⟨S, cS, G, cG, rfl, pin, hb1⟩
    have X1 := (Below.refl w1.heap.size w1).alloc (Nat.le_refl _) (planO p S cS G cG)
    have B5 := Lib.hid ((XB.out.trans (hb1.mono XB.out.size)).trans (X1.mono (XB.out.trans (hb1.mono XB.out.size)).size))
    have RP := Lib.hid (heap_alloc_new w1 (planO p S cS G cG))
    have RB5 := Lib.hid ((X1.block _ (Nat.lt_of_lt_of_le gb0 hb1.size)).trans ((hb1.block _ gb0).trans RB.out))
    have I5 := Lib.hid (pin.below X1 : PlanIn (w1.alloc (planO p S cS G cG)) p S G)
    obtain ⟨⟨p0, p1, p2, p3, p4, p5⟩, -, gx⟩ := row6 RP.out
    obtain ⟨⟨y0, y1⟩, -, gb⟩ := rowY RB5.out
    have CW := Lib.hid (way_any p S cS G cG x y _ I5.out (hfit.gfew) bx bz)
    clear hm pin hb1 X1 CM XB RB gb0 bx bz
    go_wp2_with fail
    generalize w1.alloc (planO p S cS G cG) = w5 at B5 RP RB5 I5 p0 p1 p2 p3 p4 p5 y0 y1 gx gb CW ⊢
    cases hwp : wayP p x y with
    | none =>
      refine CW.out.mono ?_; rintro e w6 ⟨hw, -⟩
      obtain ⟨rfl, hb6⟩ := hw (hwp)
      have B7 := Lib.hid ((B5.out.trans (hb6.mono B5.out.size)).alloc (B5.out.trans (hb6.mono B5.out.size)).size wayZ)
      clear hb6 hw CW p0 p1 p2 p3 p4 p5 y0 y1 gx gb
      go_wp2_with fail
      refine (AW.out _).mono ?_; rintro e w8 ⟨rfl, hb8⟩
      go_wp2
      go_ret
      exact ⟨rfl, B7.out.trans (hb8.mono B7.out.size)⟩
    | some iv =>
      obtain ⟨i, v⟩ := iv
      obtain ⟨hi, hv⟩ := wayP_some hwp
      have hst := Cr.of_steps hv
      have hex := Lp.way_exit hmeas hv
      have hsg := List.getElem?_eq_getElem hi
      refine CW.out.mono ?_; rintro e w6 ⟨-, hw⟩
      obtain ⟨Aw, cw, rfl, hR6, hcap, hb6⟩ := hw i v hwp
      have HF := Lib.hid hfit
      have HM := Lib.hid hmeas
      have HV := Lib.hid hv
      have X6 := (Below.refl w6.heap.size w6).alloc (Nat.le_refl _) (wayO Aw v.steps.length cw v.exit)
      have T7 := Lib.hid (hb6.trans (X6.mono hb6.size))
      have RW := Lib.hid (heap_alloc_new w6 (wayO Aw v.steps.length cw v.exit))
      have RR := Lib.hid (hR6.below X6)
      have HCAP := Lib.hid hcap
      clear hb6 hw CW p0 p1 p2 p3 p4 p5 y0 y1 gb hwp hv hcap hR6 X6 hfit hmeas
      obtain ⟨⟨p0, p1, p2, p3, p4, p5⟩, -, -⟩ := row6 ((T7.out.block _ gx).trans RP.out)
      obtain ⟨⟨y0, y1⟩, -, gw⟩ := rowY RW.out
      have KP := Lib.hid (fun W' (hW : Below w5.heap.size w5 W') => (row6 ((hW.block _ gx).trans RP.out)).1)
      go_upto_region 3 with fail
      generalize w6.alloc (wayO Aw v.steps.length cw v.exit) = w7 at T7 RW RR p0 p1 p2 p3 p4 p5 y0 y1 gw ⊢
      generalize w6.heap.size = gy at RW y0 y1 gw ⊢
      have KY := Lib.hid (fun W' (hW : Below w7.heap.size w7 W') => (rowY ((hW.block _ gw).trans RW.out)).1)
      have TW := Lib.hid (fun W' (hW : Below w7.heap.size w7 W') => T7.out.trans (hW.mono T7.out.size))
      have T0 := Lib.hid (Below.refl w7.heap.size w7)
      have B7 := Lib.hid (B5.out.trans (T7.out.mono B5.out.size))
      by_cases h30 : 30 < L.length
      · have N30 : decide (30 < (L.length : Int)) = true := dec_t (by omega)
        clear p0 p1 p2 p3 p4 p5 y0 y1
        go_wp2_with fail
        refine (AW.out _).mono ?_; rintro e w8 ⟨rfl, hb8⟩
        go_wp2
        go_ret
        exact ⟨rfl, B7.out.trans (hb8.mono B7.out.size)⟩
      have N30 : decide (30 < (L.length : Int)) = false := dec_f (by omega)
      have CP := Lib.hid (fun W (hW : Below w7.heap.size w7 W) => LapMade.of hW (plOf_any p HF.out HM.out S cS G cG i v Aw cw W (I5.out.below (TW.out _ hW)) (RR.out.below hW).row (by omega) hex.1))
      have CR := Lib.hid (fun W (hW : Below w7.heap.size w7 W) => LapMade.of hW (rlOf_any p HF.out HM.out S cS G cG i v Aw cw W (I5.out.below (TW.out _ hW)) (RR.out.below hW).row (by omega)))
      have hl16 := Lp.of_steps (p := p) (i := i) (w := v)
      generalize Lp.of p i v = u at CP CR hl16
      obtain ⟨l, er⟩ := u
      have hl16' : l.length ≤ 16 := hl16
      clear hl16
      go_wp2_with fail
      refine (CP.out _ T0.out).mono ?_; rintro e w8 ⟨B1, d1, rfl, hR1, -, hb8, hacc8, -⟩
      have T8 := Lib.hid hacc8
      have R8 := Lib.hid hR1
      clear p0 p1 p2 p3 p4 p5 y0 y1 hR1
      obtain ⟨p0, p1, p2, p3, p4, p5⟩ := KP.out _ (TW.out _ T8.out)
      obtain ⟨y0, y1⟩ := KY.out _ T8.out
      go_wp2_with fail
      refine (CR.out _ T8.out).mono ?_; rintro e w9 ⟨B2, d2, rfl, hR2, -, hb9, hacc9, -⟩
      have T9 := Lib.hid hacc9
      have R9 := Lib.hid hR2
      have R89 := Lib.hid (R8.out.below hb9)
      clear p0 p1 p2 p3 p4 p5 y0 y1 hR2 hb8 hb9 hacc8 hacc9 CP CR
      have R0 := Lib.hid (Below.refl w9.heap.size w9)
      have KS := Lib.hid (fun W (hW : Below w9.heap.size w9 W) => KP.out _ (TW.out _ (T9.out.trans (hW.mono T9.out.size))))
      have CA := Lib.hid (fun W (hW : Below w9.heap.size w9 W) => Made.of (w := w9) hW (AW.out W))
      have s1 := fun W hA hB => rwSame_all l l B1 d1 B2 d2 W hA hB (by omega)
      simp only [decide_true] at s1
      have CS := Lib.hid (fun W (hW : Below w9.heap.size w9 W) => Made.of (w := w9) hW (s1 W (R89.out.below hW).row (R9.out.below hW).row))
      have BL := Lib.hid (fun W' (hW : Below w9.heap.size w9 W') => B7.out.trans ((T9.out.trans (hW.mono T9.out.size)).mono B7.out.size))
      have C3 := Lib.hid (fun W' (hW : Below w9.heap.size w9 W') => Made.of (w := w9) hW (plLength_any p HM.out S cS G cG L A d W' (I5.out.below (TW.out _ (T9.out.trans (hW.mono T9.out.size)))) (HL0.out.below rfl (BL.out _ hW)) (by omega)))
      have C4 := Lib.hid (fun W' (hW : Below w9.heap.size w9 W') => Made.of (w := w9) hW (rlLength_any p HM.out S cS G cG L A d W' (I5.out.below (TW.out _ (T9.out.trans (hW.mono T9.out.size)))) (HL0.out.below rfl (BL.out _ hW)) (by omega)))
      have DE : (er == er) = true := beq_self_eq_true er
      generalize Lp.len p L = nn at C3 C4
      have DN : (nn == nn) = true := beq_self_eq_true nn
      clear s1 T8 T9 R8 R9 R89 hl16' N30 h30
      obtain ⟨p0, p1, p2, p3, p4, p5⟩ := KS.out _ R0.out
      go_upto_region 7 with fail
      clear p0 p1 p2 p3 p4 p5
      go_region_held3 (fun W' => W'.cell? ⟨w1.heap.size, 0, none⟩ = some (.int .i64 p.ov) ∧ W'.cell? ⟨w1.heap.size, 1, none⟩ = some (.int .i64 p.ap) ∧ W'.cell? ⟨w1.heap.size, 2, none⟩ = some (.int .i64 p.se) ∧ W'.cell? ⟨w1.heap.size, 3, none⟩ = some (.int .i64 p.ho) ∧ W'.cell? ⟨w1.heap.size, 4, none⟩ = some (.slice S p.secs.length cS) ∧ W'.cell? ⟨w1.heap.size, 5, none⟩ = some (.slice G p.sigs.length cG))
        (first | with_reducible exact KS.out _ R0.out.drew | with_reducible exact KS.out _ h4 | with_reducible exact KS.out _ h3 | with_reducible exact KS.out _ h2 | with_reducible exact KS.out _ h1)
        (first
          | (go_at_call 9; (with_reducible refine (CA.out _ R0.out.drew).mono ?_); rintro e1 z1 ⟨rfl, -, h1, -⟩)
          | (go_at_call 12; (with_reducible refine (CS.out _ h1).mono ?_); rintro e2 z2 ⟨rfl, -, h2, -⟩)
          | (go_at_call 13; (first | (with_reducible refine (C3.out _ h4).mono ?_) | (with_reducible refine (C3.out _ h2).mono ?_)); rintro e3 z3 ⟨rfl, -, h3, -⟩)
          | (go_at_call 14; (first | (with_reducible refine (C4.out _ h3).mono ?_) | (with_reducible refine (C4.out _ h2).mono ?_)); rintro e4 z4 ⟨rfl, -, h4, -⟩))
      all_goals go_wp2_with fail
      all_goals go_ret
      all_goals (first | with_reducible exact ⟨rfl, BL.out _ h4⟩ | with_reducible exact ⟨rfl, BL.out _ h3⟩)
end Go.Proofs.Ytfmpjljddfaggaa
