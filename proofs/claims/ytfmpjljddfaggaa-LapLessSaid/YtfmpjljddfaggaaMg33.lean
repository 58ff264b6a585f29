/-
  Texts of this claim, merged: LapLessWalk.
-/
import Derived.Test.YtfmpjljddfaggaaMg29
/-
  The walk of the law LapLess: it returns true.
-/
namespace Go.Proofs.Ytfmpjljddfaggaa
open Go.RowKit

set_option maxHeartbeats 8000000 in
set_option maxRecDepth 100000 in
theorem lapLess_walk (s : ByteArray) (x y k : Int) (W : World) (_ws : s.size ≤ maxLen) (wx : (Lit.int .u8 x).wf = true) (wy : (Lit.int .u8 y).wf = true) (wk : (Lit.int .u16 k).wf = true) :
    Calls Try.prog 5 #[.string s, .agg #[.int .u8 x, .int .u8 y], .int .u16 k] W fun e w' => e = .returned (.bool true) ∧ Below W.heap.size W w' := by
  have bk := wf_u16 wk
  clear wk
  have AW := Lib.hid lpAwake_any
  have bx := wf_u8 wx
  have bz := wf_u8 wy
  clear wx wy
  have XB := Lib.hid ((Below.refl W.heap.size W).alloc (Nat.le_refl _) (by2O x y))
  have RB := Lib.hid (heap_alloc_new W (by2O x y))
  have gb0 := (Array.getElem?_eq_some_iff.1 RB.out).1
  cases hm : madeP s.data.toList with
  | none =>
    have CM := Lib.hid (fun W => made_void hm W)
    go_enter Try.func5, Try.ntmps5
    go_wp2_with fail
    refine (CM.out _).mono ?_; rintro e w1 ⟨p, S, cS, G, cG, rfl, hv, hb1⟩
    have HVV := Lib.hid hv
    clear hv
    have X1 := (Below.refl w1.heap.size w1).alloc (Nat.le_refl _) (planO p S cS G cG)
    have B5 := Lib.hid ((XB.out.trans (hb1.mono XB.out.size)).trans (X1.mono (XB.out.trans (hb1.mono XB.out.size)).size))
    have RP := Lib.hid (heap_alloc_new w1 (planO p S cS G cG))
    have RB5 := Lib.hid ((X1.block _ (Nat.lt_of_lt_of_le gb0 hb1.size)).trans ((hb1.block _ gb0).trans RB.out))
    have I5 := Lib.hid (planIn_void HVV.out : PlanIn (w1.alloc (planO p S cS G cG)) p S G)
    obtain ⟨⟨p0, p1, p2, p3, p4, p5⟩, -, gx⟩ := row6 RP.out
    obtain ⟨⟨y0, y1⟩, -, gb⟩ := rowY RB5.out
    have CW := Lib.hid (way_any p S cS G cG x y _ I5.out (wayP_few HVV.out) bx bz)
    clear hb1 X1 CM XB RB gb0 bx bz
    go_wp2_with fail
    generalize w1.alloc (planO p S cS G cG) = w5 at B5 RP RB5 I5 p0 p1 p2 p3 p4 p5 y0 y1 gx gb CW ⊢
    refine CW.out.mono ?_; rintro e w6 ⟨hw, -⟩
    obtain ⟨rfl, hb6⟩ := hw (wayP_void HVV.out x y)
    have B7 := Lib.hid ((B5.out.trans (hb6.mono B5.out.size)).alloc (B5.out.trans (hb6.mono B5.out.size)).size wayZ)
    clear hb6 hw CW p0 p1 p2 p3 p4 p5 y0 y1 gx gb
    go_wp2_with fail
    refine (AW.out _).mono ?_; rintro e w8 ⟨rfl, hb8⟩
    go_wp2
    go_ret
    exact ⟨rfl, B7.out.trans (hb8.mono B7.out.size)⟩
  | some p =>
    obtain ⟨hfit, hmeas⟩ := madeP_meas hm
    have CM := Lib.hid (fun W => made_some hm W)
    go_enter Try.func5, Try.ntmps5
    go_wp2_with fail
    refine (CM.out _).mono ?_; rintro e w1 ⟨S, cS, G, cG, rfl, pin, hb1⟩
    have X1 := (Below.refl w1.heap.size w1).alloc (Nat.le_refl _) (planO p S cS G cG)
    have B5 := Lib.hid ((XB.out.trans (hb1.mono XB.out.size)).trans (X1.mono (XB.out.trans (hb1.mono XB.out.size)).size))
    have RP := Lib.hid (heap_alloc_new w1 (planO p S cS G cG))
    have RB5 := Lib.hid ((X1.block _ (Nat.lt_of_lt_of_le gb0 hb1.size)).trans ((hb1.block _ gb0).trans RB.out))
    have I5 := Lib.hid (pin.below X1 : PlanIn (w1.alloc (planO p S cS G cG)) p S G)
    obtain ⟨⟨p0, p1, p2, p3, p4, p5⟩, -, gx⟩ := row6 RP.out
    obtain ⟨⟨y0, y1⟩, -, gb⟩ := rowY RB5.out
    have CW := Lib.hid (way_any p S cS G cG x y _ I5.out (hfit.gfew) bx bz)
    clear hm pin hb1 X1 CM XB RB gb0 bx bz
    go_wp2_with fail
    generalize w1.alloc (planO p S cS G cG) = w5 at B5 RP RB5 I5 p0 p1 p2 p3 p4 p5 y0 y1 gx gb CW ⊢
    cases hwp : wayP p x y with
    | none =>
      refine CW.out.mono ?_; rintro e w6 ⟨hw, -⟩
      obtain ⟨rfl, hb6⟩ := hw (hwp)
      have B7 := Lib.hid ((B5.out.trans (hb6.mono B5.out.size)).alloc (B5.out.trans (hb6.mono B5.out.size)).size wayZ)
      clear hb6 hw CW p0 p1 p2 p3 p4 p5 y0 y1 gx gb
      go_wp2_with fail
      refine (AW.out _).mono ?_; rintro e w8 ⟨rfl, hb8⟩
      go_wp2
      go_ret
      exact ⟨rfl, B7.out.trans (hb8.mono B7.out.size)⟩
    | some iv =>
      obtain ⟨i, v⟩ := iv
      obtain ⟨hi, hv⟩ := wayP_some hwp
      have hst := Cr.of_steps hv
      have hex := Lp.way_exit hmeas hv
      have hsg := List.getElem?_eq_getElem hi
      refine CW.out.mono ?_; rintro e w6 ⟨-, hw⟩
      obtain ⟨Aw, cw, rfl, hR6, hcap, hb6⟩ := hw i v hwp
      have HF := Lib.hid hfit
      have HM := Lib.hid hmeas
      have HV := Lib.hid hv
      have X6 := (Below.refl w6.heap.size w6).alloc (Nat.le_refl _) (wayO Aw v.steps.length cw v.exit)
      have T7 := Lib.hid (hb6.trans (X6.mono hb6.size))
      have RW := Lib.hid (heap_alloc_new w6 (wayO Aw v.steps.length cw v.exit))
      have RR := Lib.hid (hR6.below X6)
      have HCAP := Lib.hid hcap
      clear hb6 hw CW p0 p1 p2 p3 p4 p5 y0 y1 gb hwp hv hcap hR6 X6 hfit hmeas
      obtain ⟨⟨p0, p1, p2, p3, p4, p5⟩, -, -⟩ := row6 ((T7.out.block _ gx).trans RP.out)
      obtain ⟨⟨y0, y1⟩, -, gw⟩ := rowY RW.out
      have KP := Lib.hid (fun W' (hW : Below w5.heap.size w5 W') => (row6 ((hW.block _ gx).trans RP.out)).1)
      go_upto_region 3 with fail
      generalize w6.alloc (wayO Aw v.steps.length cw v.exit) = w7 at T7 RW RR p0 p1 p2 p3 p4 p5 y0 y1 gw ⊢
      generalize w6.heap.size = gy at RW y0 y1 gw ⊢
      have KY := Lib.hid (fun W' (hW : Below w7.heap.size w7 W') => (rowY ((hW.block _ gw).trans RW.out)).1)
      have TW := Lib.hid (fun W' (hW : Below w7.heap.size w7 W') => T7.out.trans (hW.mono T7.out.size))
      have T0 := Lib.hid (Below.refl w7.heap.size w7)
      have B7 := Lib.hid (B5.out.trans (T7.out.mono B5.out.size))
      have CP := Lib.hid (fun W (hW : Below w7.heap.size w7 W) => LapMade.of hW (plOf_any p HF.out HM.out S cS G cG i v Aw cw W (I5.out.below (TW.out _ hW)) (RR.out.below hW).row (by omega) hex.1))
      have hov := HM.out.ov
      have hg := sigAt_get hi
      have H1 := Lp.of_cases HM.out hg hex.2
      have ho : max 0 (p.ov - k) ≤ p.ov ∧ 0 ≤ max 0 (p.ov - k) := by omega
      have H2 := Lib.hid (fun h0 h2 => Lp.of_less (p := p) (o := max 0 (p.ov - k)) ho.1 h0 hg (w := v) hex.2 h2)
      have H3 := Lib.hid (fun h => Lp.of_nought (p := Lp.with_ p (max 0 (p.ov - k))) (i := i) (g := p.sigs[i]) hg (w := v) hex.2 h)
      have CQ := Lib.hid (fun W (hW : Below w7.heap.size w7 W) => LapMade.of hW (plOf_any (Lp.with_ p (max 0 (p.ov - k))) (Lp.fit_with HF.out _) (Lp.meas_with HM.out ho.2 (by omega)) S cS G cG i v Aw cw W (I5.out.below (TW.out _ hW)) (RR.out.below hW).row (by omega) hex.1))
      have qs : IntKind.i64.wrap (p.ov - k) = p.ov - k := IntWalk.i64_in _ (by omega)
      have qk : IntKind.i64.wrap k = k := IntWalk.i64_in _ (by omega)
      have HER := Lib.hid (show ((Lp.of p i v).2 = 10 ∧ (Lp.of p i v).1 = []) ∨ (Lp.of p i v).2 = 0 from by
        rcases H1 with h | h | ⟨h, -⟩
        · rw [h]; exact .inl ⟨rfl, rfl⟩
        · rw [h]; exact .inr rfl
        · exact .inr h)
      clear H1 hov hg
      generalize Lp.of p i v = u at CP HER H2
      obtain ⟨l, er⟩ := u
      have HL := Lib.hid (show max 0 (p.ov - k) ≠ 0 → l ≠ [] → (Lp.of (Lp.with_ p (max 0 (p.ov - k))) i v).2 = 0 ∧ (Lp.of (Lp.with_ p (max 0 (p.ov - k))) i v).1 ≠ [] from fun a b => H2.out a b)
      have HN := Lib.hid (show v.exit < 0 ∨ max 0 (p.ov - k) = 0 → Lp.of (Lp.with_ p (max 0 (p.ov - k))) i v = ([], 0) from fun h => H3.out h)
      clear H2 H3
      generalize Lp.of (Lp.with_ p (max 0 (p.ov - k))) i v = u2 at CQ HL HN
      obtain ⟨l2, er2⟩ := u2
      go_wp2_with fail
      refine (CP.out _ T0.out).mono ?_; rintro e w8 ⟨B1, d1, rfl, -, -, hb8, hacc8, -⟩
      have T8 := Lib.hid hacc8
      have HQ := Lib.hid (heap_alloc_new w8 (planO p S cS G cG))
      have TQ := Lib.hid (T8.out.alloc T8.out.size (planO p S cS G cG))
      clear p0 p1 p2 p3 p4 p5 y0 y1 hb8 hacc8
      obtain ⟨p0, p1, p2, p3, p4, p5⟩ := KP.out _ (TW.out _ T8.out)
      go_upto_region 7 with fail
      have HGQ := Lib.hid T8.out.size
      generalize w8.alloc (planO p S cS G cG) = w9 at HQ TQ ⊢
      generalize w8.heap.size = gq at HQ HGQ ⊢
      clear p0 p1 p2 p3 p4 p5
      obtain ⟨p0, p1, p2, p3, p4, p5⟩ := KP.out _ (TW.out _ TQ.out)
      obtain ⟨⟨q0, q1, q2, q3, q4, q5⟩, ⟨f0, -, -, -, -, -⟩, gq9⟩ := row6 HQ.out
      go_upto_region 8 with fail
      clear p0 p1 p2 p3 p4 p5 q0 q1 q2 q3 q4 q5 f0 gq9 qs qk bk ho
      generalize max 0 (p.ov - k) = o at CQ HL HN ⊢
      have HQX := Lib.hid (show (w9.setCell ⟨gq, 0, none⟩ (.int .i64 o)).heap[gq]? = some (planO (Lp.with_ p o) S cS G cG) from by rw [heap_setCell_same _ _ _ _ _ _ HQ.out]; rfl)
      have TX := Lib.hid (TQ.out.setCell (p := ⟨gq, 0, none⟩) HGQ.out (.int .i64 o))
      clear HQ TQ
      generalize w9.setCell ⟨gq, 0, none⟩ (.int .i64 o) = w10 at HQX TX ⊢
      obtain ⟨⟨q0, q1, q2, q3, q4, q5⟩, -, gq9⟩ := row6 HQX.out
      obtain ⟨y0, y1⟩ := KY.out _ TX.out
      go_wp2_with fail
      refine (CQ.out _ TX.out).mono ?_; rintro e w11 ⟨B2, d2, rfl, -, -, hb11, hacc11, -⟩
      have T11 := Lib.hid hacc11
      obtain ⟨⟨r0, -, -, -, -, -⟩, -, -⟩ := row6 ((hb11.block _ gq9).trans HQX.out)
      have r0' : w11.cell? ⟨gq, 0, none⟩ = some (.int .i64 o) := r0
      clear q0 q1 q2 q3 q4 q5 gq9 y0 y1 hb11 hacc11 r0 CP CQ HQX
      obtain ⟨y0, y1⟩ := KY.out _ T11.out
      have BE := Lib.hid (fun W' (hW : Below w11.heap.size w11 W') => B7.out.trans ((T11.out.trans (hW.mono T11.out.size)).mono B7.out.size))
      by_cases hx : v.exit < 0
      · have D : decide (v.exit < 0) = true := dec_t hx
        have hn := HN.out (.inl hx)
        obtain rfl : l2 = [] := congrArg Prod.fst hn
        obtain rfl : er2 = 0 := congrArg Prod.snd hn
        clear hn hx hex HN HL
        go_wp2_with fail
        refine (AW.out _).mono ?_; rintro e w12 ⟨rfl, hb12⟩
        go_wp2
        go_ret
        exact ⟨rfl, BE.out _ hb12⟩
      have D : decide (v.exit < 0) = false := dec_f hx
      by_cases h0 : o = 0
      · have D0 : (o == 0) = true := by rw [beq_iff_eq]; exact h0
        have hn := HN.out (.inr h0)
        obtain rfl : l2 = [] := congrArg Prod.fst hn
        obtain rfl : er2 = 0 := congrArg Prod.snd hn
        clear hn hx hex HN HL h0
        go_wp2_with fail
        refine (AW.out _).mono ?_; rintro e w12 ⟨rfl, hb12⟩
        go_wp2
        go_ret
        exact ⟨rfl, BE.out _ hb12⟩
      have D0 : (o == 0) = false := by rw [beq_eq_false_iff_ne]; exact h0
      rcases HER.out with ⟨he, hl⟩ | he
      · obtain rfl : er = 10 := he
        clear hx hex HN HL h0 HER hl
        go_wp2_with fail
        refine (AW.out _).mono ?_; rintro e w12 ⟨rfl, hb12⟩
        go_wp2
        go_ret
        exact ⟨rfl, BE.out _ hb12⟩
      obtain rfl : er = 0 := he
      by_cases hl : l.length = 0
      · have DL : ((l.length : Int) == 0) = true := by rw [beq_iff_eq]; omega
        clear hx hex HN HL h0 HER hl
        go_wp2_with fail
        refine (AW.out _).mono ?_; rintro e w12 ⟨rfl, hb12⟩
        go_wp2
        go_ret
        exact ⟨rfl, BE.out _ hb12⟩
      have DL : ((l.length : Int) == 0) = false := by rw [beq_eq_false_iff_ne]; omega
      obtain ⟨e2, n2⟩ := HL.out h0 (fun h => hl (by rw [h]; rfl))
      obtain rfl : er2 = 0 := e2
      have hl2 : 0 < l2.length := List.length_pos_iff.2 n2
      have DM : decide (0 < (l2.length : Int)) = true := dec_t (by omega)
      clear hx hex HN HL h0 HER hl n2
      go_wp2_with fail
      refine (AW.out _).mono ?_; rintro e w12 ⟨rfl, hb12⟩
      go_wp2
      go_ret
      exact ⟨rfl, BE.out _ hb12⟩
end Go.Proofs.Ytfmpjljddfaggaa
