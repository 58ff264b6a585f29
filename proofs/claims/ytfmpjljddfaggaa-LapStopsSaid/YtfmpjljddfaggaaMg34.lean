/-
  Texts of this claim, merged: LapStopsWalk.
-/
import Derived.Test.YtfmpjljddfaggaaMg29
/-
  The walk of the law LapStops: it returns true.
-/
namespace Go.Proofs.Ytfmpjljddfaggaa
open Go.RowKit

set_option maxHeartbeats 8000000 in
set_option maxRecDepth 100000 in
theorem lapStops_walk (s : ByteArray) (x y : Int) (W : World) (_ws : s.size ≤ maxLen) (wx : (Lit.int .u8 x).wf = true) (wy : (Lit.int .u8 y).wf = true) :
    Calls Try.prog 6 #[.string s, .agg #[.int .u8 x, .int .u8 y]] W fun e w' => e = .returned (.bool true) ∧ Below W.heap.size W w' := by
  have AW := Lib.hid lpAwake_any
  have bx := wf_u8 wx
  have bz := wf_u8 wy
  clear wx wy
  have XB := Lib.hid ((Below.refl W.heap.size W).alloc (Nat.le_refl _) (by2O x y))
  have RB := Lib.hid (heap_alloc_new W (by2O x y))
  have gb0 := (Array.getElem?_eq_some_iff.1 RB.out).1
  cases hm : madeP s.data.toList with
  | none =>
    have CM := Lib.hid (fun W => made_void hm W)
    go_enter Try.func6, Try.ntmps6
    go_wp2_with fail
    refine (CM.out _).mono ?_; rintro e w1 ⟨p, S, cS, G, cG, rfl, hv, hb1⟩
    have HVV := Lib.hid hv
    clear hv
    have X1 := (Below.refl w1.heap.size w1).alloc (Nat.le_refl _) (planO p S cS G cG)
    have B5 := Lib.hid ((XB.out.trans (hb1.mono XB.out.size)).trans (X1.mono (XB.out.trans (hb1.mono XB.out.size)).size))
    have RP := Lib.hid (heap_alloc_new w1 (planO p S cS G cG))
    have RB5 := Lib.hid ((X1.block _ (Nat.lt_of_lt_of_le gb0 hb1.size)).trans ((hb1.block _ gb0).trans RB.out))
    have I5 := Lib.hid (planIn_void HVV.out : PlanIn (w1.alloc (planO p S cS G cG)) p S G)
    obtain ⟨⟨p0, p1, p2, p3, p4, p5⟩, -, gx⟩ := row6 RP.out
    obtain ⟨⟨y0, y1⟩, -, gb⟩ := rowY RB5.out
    have CW := Lib.hid (way_any p S cS G cG x y _ I5.out (wayP_few HVV.out) bx bz)
    clear hb1 X1 CM XB RB gb0 bx bz
    go_wp2_with fail
    generalize w1.alloc (planO p S cS G cG) = w5 at B5 RP RB5 I5 p0 p1 p2 p3 p4 p5 y0 y1 gx gb CW ⊢
    refine CW.out.mono ?_; rintro e w6 ⟨hw, -⟩
    obtain ⟨rfl, hb6⟩ := hw (wayP_void HVV.out x y)
    have B7 := Lib.hid ((B5.out.trans (hb6.mono B5.out.size)).alloc (B5.out.trans (hb6.mono B5.out.size)).size wayZ)
    clear hb6 hw CW p0 p1 p2 p3 p4 p5 y0 y1 gx gb
    go_wp2_with fail
    refine (AW.out _).mono ?_; rintro e w8 ⟨rfl, hb8⟩
    go_wp2
    go_ret
    exact ⟨rfl, B7.out.trans (hb8.mono B7.out.size)⟩
  | some p =>
    obtain ⟨hfit, hmeas⟩ := madeP_meas hm
    have CM := Lib.hid (fun W => made_some hm W)
    go_enter Try.func6, Try.ntmps6
    go_wp2_with fail
    refine (CM.out _).mono ?_; rintro e w1 ⟨S, cS, G, cG, rfl, pin, hb1⟩
    have X1 := (Below.refl w1.heap.size w1).alloc (Nat.le_refl _) (planO p S cS G cG)
    have B5 := Lib.hid ((XB.out.trans (hb1.mono XB.out.size)).trans (X1.mono (XB.out.trans (hb1.mono XB.out.size)).size))
    have I1 := Lib.hid pin
    have XX1 := Lib.hid X1
    have BW1 := Lib.hid (XB.out.trans (hb1.mono XB.out.size))
    have RP := Lib.hid (heap_alloc_new w1 (planO p S cS G cG))
    have RB5 := Lib.hid ((X1.block _ (Nat.lt_of_lt_of_le gb0 hb1.size)).trans ((hb1.block _ gb0).trans RB.out))
    have I5 := Lib.hid (pin.below X1 : PlanIn (w1.alloc (planO p S cS G cG)) p S G)
    obtain ⟨⟨p0, p1, p2, p3, p4, p5⟩, -, gx⟩ := row6 RP.out
    obtain ⟨⟨y0, y1⟩, -, gb⟩ := rowY RB5.out
    have CW := Lib.hid (way_any p S cS G cG x y _ I5.out (hfit.gfew) bx bz)
    clear hm pin hb1 X1 CM XB RB gb0 bx bz
    go_wp2_with fail
    generalize w1.alloc (planO p S cS G cG) = w5 at B5 RP RB5 I5 XX1 p0 p1 p2 p3 p4 p5 y0 y1 gx gb CW ⊢
    cases hwp : wayP p x y with
    | none =>
      refine CW.out.mono ?_; rintro e w6 ⟨hw, -⟩
      obtain ⟨rfl, hb6⟩ := hw (hwp)
      have B7 := Lib.hid ((B5.out.trans (hb6.mono B5.out.size)).alloc (B5.out.trans (hb6.mono B5.out.size)).size wayZ)
      clear hb6 hw CW p0 p1 p2 p3 p4 p5 y0 y1 gx gb
      go_wp2_with fail
      refine (AW.out _).mono ?_; rintro e w8 ⟨rfl, hb8⟩
      go_wp2
      go_ret
      exact ⟨rfl, B7.out.trans (hb8.mono B7.out.size)⟩
    | some iv =>
      obtain ⟨i, v⟩ := iv
      obtain ⟨hi, hv⟩ := wayP_some hwp
      have hst := Cr.of_steps hv
      have hex := Lp.way_exit hmeas hv
      have hsg := List.getElem?_eq_getElem hi
      refine CW.out.mono ?_; rintro e w6 ⟨-, hw⟩
      obtain ⟨Aw, cw, rfl, hR6, hcap, hb6⟩ := hw i v hwp
      have HF := Lib.hid hfit
      have HM := Lib.hid hmeas
      have HV := Lib.hid hv
      have X6 := (Below.refl w6.heap.size w6).alloc (Nat.le_refl _) (wayO Aw v.steps.length cw v.exit)
      have T7 := Lib.hid (hb6.trans (X6.mono hb6.size))
      have RW := Lib.hid (heap_alloc_new w6 (wayO Aw v.steps.length cw v.exit))
      have RR := Lib.hid (hR6.below X6)
      have HCAP := Lib.hid hcap
      clear hb6 hw CW p0 p1 p2 p3 p4 p5 y0 y1 gb hwp hv hcap hR6 X6 hfit hmeas
      obtain ⟨⟨p0, p1, p2, p3, p4, p5⟩, -, -⟩ := row6 ((T7.out.block _ gx).trans RP.out)
      obtain ⟨⟨y0, y1⟩, -, gw⟩ := rowY RW.out
      have KP := Lib.hid (fun W' (hW : Below w5.heap.size w5 W') => (row6 ((hW.block _ gx).trans RP.out)).1)
      go_upto_region 3 with fail
      generalize w6.alloc (wayO Aw v.steps.length cw v.exit) = w7 at T7 RW RR p0 p1 p2 p3 p4 p5 y0 y1 gw ⊢
      generalize w6.heap.size = gy at RW y0 y1 gw ⊢
      have KY := Lib.hid (fun W' (hW : Below w7.heap.size w7 W') => (rowY ((hW.block _ gw).trans RW.out)).1)
      have TW := Lib.hid (fun W' (hW : Below w7.heap.size w7 W') => T7.out.trans (hW.mono T7.out.size))
      have T0 := Lib.hid (Below.refl w7.heap.size w7)
      have B7 := Lib.hid (B5.out.trans (T7.out.mono B5.out.size))
      have HP7 := Lib.hid ((T7.out.block _ gx).trans RP.out)
      have TB7 := Lib.hid (XX1.out.trans (T7.out.mono XX1.out.size))
      have hne : gy ≠ w1.heap.size := fun h => by
        have h1 := RW.out
        rw [h, HP7.out] at h1
        cases h1
      have H8 := Lib.hid (show (w7.setCell ⟨w1.heap.size, 0, none⟩ (.int .i64 1)).heap[w1.heap.size]? = some (planO (Lp.with_ p (1 + Lp.sumTo p 0)) S cS G cG) ∧ (w7.setCell ⟨w1.heap.size, 0, none⟩ (.int .i64 1)).heap[gy]? = some (wayO Aw v.steps.length cw v.exit) ∧ Below w1.heap.size w1 (w7.setCell ⟨w1.heap.size, 0, none⟩ (.int .i64 1)) ∧ TRow 47 LStp (w7.setCell ⟨w1.heap.size, 0, none⟩ (.int .i64 1)) Aw v.steps from
        ⟨by rw [heap_setCell_same _ _ _ _ _ _ HP7.out]; rfl, (heap_setCell_other _ _ _ _ hne).trans RW.out, TB7.out.setCell (p := ⟨w1.heap.size, 0, none⟩) (Nat.le_refl _) _, RR.out.set HP7.out (by decide)⟩)
      have hstop := Lib.hid (Lp.of_stops HM.out (sigAt_get hi) (w := v) hex.2)
      have hfew := HF.out.few
      have HNE := Lib.hid hne
      obtain ⟨-, ⟨f0, -, -, -, -, -⟩, gx7⟩ := row6 HP7.out
      clear hne hsg
      go_upto_region 6 with fail
      clear p0 p1 p2 p3 p4 p5 y0 y1 f0 gx7 gx gw KP KY TW T0 RW RR HP7 TB7 T7 RP RB5 I5 XX1 B5 B7
      generalize w7.setCell ⟨w1.heap.size, 0, none⟩ (.int .i64 1) = w8 at H8 ⊢
      go_wp2_with fail
      go_loopw [10] (fun z w' => ∃ k : Nat, k ≤ p.secs.length ∧ z = .int .i64 k ∧ w'.heap[w1.heap.size]? = some (planO (Lp.with_ p (1 + Lp.sumTo p k)) S cS G cG) ∧ w'.heap[gy]? = some (wayO Aw v.steps.length cw v.exit) ∧ Below w1.heap.size w1 w' ∧ TRow 47 LStp w' Aw v.steps) (fun z _ => p.secs.length - (intOf z).toNat)
      case atStart => exact ⟨0, Nat.zero_le _, rfl, H8.out⟩
      case round =>
        clear H8
        obtain ⟨k, hk, rfl, hP, hY, hT, hR⟩ := hrel
        have HP := Lib.hid hP
        have HY := Lib.hid hY
        have HT := Lib.hid hT
        have HR := Lib.hid hR
        clear hP hY hT hR
        obtain ⟨⟨p0, p1, p2, p3, p4, p5⟩, ⟨f0, -, -, -, -, -⟩, gx⟩ := row6 HP.out
        obtain ⟨⟨y0, y1⟩, -, gw⟩ := rowY HY.out
        have hsb := Lp.sumTo_bd HM.out k
        by_cases hlt : k < p.secs.length
        · have d1 : decide ((k : Int) < (p.secs.length : Int)) = true := dec_t (by omega)
          obtain ⟨bS, oS, rfl, gS, onS⟩ := (I1.out.below HT.out).1.at hlt
          have onl := (sec_on onS).2.2.1
          rw [show k * LSec.m = k * 12 from rfl, show (p.secs[k]).len = Lp.secLen p (k : Int) from (Lp.secLen_at (List.getElem?_eq_getElem hlt)).symm] at onl
          have hlb := Lp.secLen_bd HM.out (k : Int)
          have q : IntKind.i64.wrap (1 + Lp.sumTo p k + Lp.secLen p (k : Int)) = 1 + Lp.sumTo p k + Lp.secLen p (k : Int) := IntWalk.i64_in _ (by omega)
          have HS := Lib.hid (show 1 + Lp.sumTo p k + Lp.secLen p (k : Int) = 1 + Lp.sumTo p (k + 1) from by show _ = 1 + (Lp.sumTo p k + Lp.secLen p (k : Int)); omega)
          have p0' : wr.cell? ⟨w1.heap.size, 0, none⟩ = some (.int .i64 (1 + Lp.sumTo p k)) := p0
          have p4' : wr.cell? ⟨w1.heap.size, 4, none⟩ = some (.slice (some ⟨bS, oS, none⟩) p.secs.length cS) := p4
          generalize hsl : Lp.secLen p (k : Int) = sl at onl q HS
          generalize 1 + Lp.sumTo p k = so at p0' q HS HP
          clear p0 p1 p2 p3 p4 p5 y0 y1 gw onS hlb hsb hsl
          go_upto_region 9 with fail
          go_region
          have HX := Lib.hid (show (wr.setCell ⟨w1.heap.size, 0, none⟩ (.int .i64 (so + sl))).heap[w1.heap.size]? = some (planO (Lp.with_ p (1 + Lp.sumTo p (k + 1))) (some ⟨bS, oS, none⟩) cS G cG) ∧ (wr.setCell ⟨w1.heap.size, 0, none⟩ (.int .i64 (so + sl))).heap[gy]? = some (wayO Aw v.steps.length cw v.exit) ∧ Below w1.heap.size w1 (wr.setCell ⟨w1.heap.size, 0, none⟩ (.int .i64 (so + sl))) ∧ TRow 47 LStp (wr.setCell ⟨w1.heap.size, 0, none⟩ (.int .i64 (so + sl))) Aw v.steps from
            ⟨by rw [heap_setCell_same _ _ _ _ _ _ HP.out, ← HS.out]; rfl, (heap_setCell_other _ _ _ _ HNE.out).trans HY.out, HT.out.setCell (p := ⟨w1.heap.size, 0, none⟩) (Nat.le_refl _) _, HR.out.set HP.out (by decide)⟩)
          go_wp2_with fail
          go_roundw
          case rel => exact ⟨k + 1, by omega, by go_num, HX.out.1, HX.out.2.1, HX.out.2.2.1.drew, HX.out.2.2.2.drew⟩
          case measure => simp [intOf]; omega
        · obtain rfl : k = p.secs.length := by omega
          have d1 : decide ((p.secs.length : Int) < (p.secs.length : Int)) = false := dec_f (by omega)
          clear d1
          have hfit2 := Lp.fit_with HF.out (1 + Lp.sumTo p p.secs.length)
          have hmeas2 := Lp.meas_with (o := 1 + Lp.sumTo p p.secs.length) HM.out (by omega) (by omega)
          have CP := Lib.hid (fun W (hW : Below wr.heap.size wr W) => LapMade.of hW (plOf_any (Lp.with_ p (1 + Lp.sumTo p p.secs.length)) hfit2 hmeas2 S cS G cG i v Aw cw W (I1.out.below (HT.out.trans (hW.mono HT.out.size))) (HR.out.below hW).row (by omega) hex.1))
          have hl16 := Lp.of_steps (p := Lp.with_ p (1 + Lp.sumTo p p.secs.length)) (i := i) (w := v)
          have HX := hstop.out
          have d1 : decide ((p.secs.length : Int) < (p.secs.length : Int)) = false := dec_f (by omega)
          have p0' : wr.cell? ⟨w1.heap.size, 0, none⟩ = some (.int .i64 (1 + Lp.sumTo p p.secs.length)) := p0
          clear hstop hsb hmeas2 hfit2 p0 f0
          generalize Lp.of (Lp.with_ p (1 + Lp.sumTo p p.secs.length)) i v = u at CP HX hl16
          obtain ⟨l, er⟩ := u
          generalize 1 + Lp.sumTo p p.secs.length = o at CP p0' HP
          have hl16' : l.length ≤ 16 := hl16
          have T0 := Lib.hid (Below.refl wr.heap.size wr)
          clear hl16
          go_wp2_with fail
          refine (CP.out _ T0.out).mono ?_; rintro e w9 ⟨B1, d1', rfl, hR1, -, hb9, -, -⟩
          have R9 := Lib.hid hR1
          have HP9 := Lib.hid ((hb9.block _ gx).trans HP.out)
          have HY9 := Lib.hid ((hb9.block _ gw).trans HY.out)
          have T9 := Lib.hid (HT.out.trans (hb9.mono HT.out.size))
          have BE := Lib.hid (fun W' (hW : Below w9.heap.size w9 W') => BW1.out.trans ((T9.out.trans (hW.mono T9.out.size)).mono BW1.out.size))
          clear p0' p1 p2 p3 p4 p5 gx y0 y1 gw hb9 hR1 CP HP HY HT HR
          rcases HX with hx | hx | ⟨he, hex0, z, hz, hnz⟩
          · obtain rfl : l = [] := congrArg Prod.fst hx
            obtain rfl : er = 10 := congrArg Prod.snd hx
            clear hx
            go_wp2_with fail
            refine (AW.out _).mono ?_; rintro e w12 ⟨rfl, hb12⟩
            go_wp2
            go_ret
            exact ⟨rfl, BE.out _ hb12⟩
          · obtain rfl : l = [] := congrArg Prod.fst hx
            obtain rfl : er = 0 := congrArg Prod.snd hx
            clear hx
            go_wp2_with fail
            refine (AW.out _).mono ?_; rintro e w12 ⟨rfl, hb12⟩
            go_wp2
            go_ret
            exact ⟨rfl, BE.out _ hb12⟩
          obtain rfl : er = 0 := he
          have hz' : l[l.length - 1]? = some z := by rw [← List.getLast?_eq_getElem?]; exact hz
          have hlz : l.length - 1 < l.length := (List.getElem?_eq_some_iff.1 hz').1
          have DL : ((l.length : Int) == 0) = false := by rw [beq_eq_false_iff_ne]; omega
          have qn : IntKind.i64.wrap ((l.length : Int) - 1) = ((l.length - 1 : Nat) : Int) := by rw [IntWalk.i64_in _ (by omega)]; omega
          have qi0 : (0 : Int) ≤ ((l.length - 1 : Nat) : Int) := Int.natCast_nonneg _
          have qi1 : ((l.length - 1 : Nat) : Int) < (l.length : Int) := by omega
          obtain ⟨b2, o2, rfl, g2, on2⟩ := R9.out.row.at hlz
          rw [(List.getElem?_eq_some_iff.1 hz').2] at on2
          obtain ⟨z0, z1, z2⟩ := stp_on on2
          rw [show (l.length - 1) * LStp.m = (l.length - 1) * 3 from rfl] at z0 z1 z2
          have HE := Lib.hid hex0
          have DX : decide (0 ≤ v.exit) = true := dec_t hex0
          have HNZ := Lib.hid hnz
          obtain ⟨zs, zf, zt⟩ := z
          simp only at z0 z1 z2
          have HZ := Lib.hid (heap_alloc_new w9 (stpO ⟨zs, zf, zt⟩))
          have XZ := Lib.hid ((Below.refl w9.heap.size w9).alloc (Nat.le_refl _) (stpO ⟨zs, zf, zt⟩))
          clear on2 hz hz' hlz hex0 hnz g2
          generalize hlm : l.length - 1 = lm at qn qi0 qi1 z0 z1 z2
          clear hlm
          go_upto_region 14 with fail
          generalize w9.alloc (.cells #[.int .i64 zs, .int .i64 zf, .int .i64 zt] 47) = wZ at HZ XZ ⊢
          generalize w9.heap.size = gz at HZ ⊢
          clear z0 z1 z2
          obtain ⟨⟨z0, z1, z2⟩, -, -⟩ := row3 HZ.out
          have HPZ := Lib.hid ((XZ.out.block _ (Array.getElem?_eq_some_iff.1 HP9.out).1).trans HP9.out)
          obtain ⟨⟨p0, p1, p2, p3, p4, p5⟩, -, -⟩ := row6 HPZ.out
          have CN := Lib.hid (rwNext_any (Lp.with_ p o) S cS G cG zs zt wZ (I1.out.below (T9.out.trans (XZ.out.mono T9.out.size))))
          have HNX := Lib.hid (show (Wk.next (Lp.with_ p o) zs zt).2.2 = false from HNZ.out)
          generalize Wk.next (Lp.with_ p o) zs zt = nx at CN HNX
          obtain ⟨n1, n2, n3⟩ := nx
          obtain rfl : n3 = false := HNX.out
          go_wp2_with fail
          refine CN.out.mono ?_; rintro e w10 ⟨rfl, hb10⟩
          have BZ := Lib.hid (XZ.out.trans (hb10.mono XZ.out.size))
          have HYZ := Lib.hid ((BZ.out.block _ (Array.getElem?_eq_some_iff.1 HY9.out).1).trans HY9.out)
          clear p0 p1 p2 p3 p4 p5 z0 z1 z2 hb10
          go_wp2_with fail
          refine (AW.out _).mono ?_; rintro e w12 ⟨rfl, hb12⟩
          obtain ⟨⟨y0, y1⟩, -, -⟩ := rowY ((hb12.block _ (Array.getElem?_eq_some_iff.1 HYZ.out).1).trans HYZ.out)
          go_wp2_with fail
          go_ret
          exact ⟨rfl, BE.out _ (BZ.out.trans (hb12.mono BZ.out.size))⟩
end Go.Proofs.Ytfmpjljddfaggaa
