/-
  Texts of this claim, merged: LapWaysWalk.
-/
import Derived.Test.YtfmpjljddfaggaaMg29
/-
  The walk of the law LapWays: it returns true.
-/
namespace Go.Proofs.Ytfmpjljddfaggaa
open Go.RowKit

theorem Lp.outs_at {p : Pl.Plan} {s f : Int} {y : Wk.Stp} (h : y ∈ Wk.outs p s f) : ∃ i : Nat, y.s = i ∧ i < p.secs.length := by
  have hs := Cr.outs_sec h
  unfold Wk.outs at h
  rcases Wk.sec_ways p s with ⟨-, h1⟩ | ⟨i, rfl, ⟨-, h1⟩ | ⟨z, hz, -⟩⟩
  · rw [h1] at h; cases h
  · rw [h1] at h; cases h
  · exact ⟨i, hs, (List.getElem?_eq_some_iff.1 hz).1⟩
set_option maxHeartbeats 8000000 in
set_option maxRecDepth 100000 in
theorem lapWays_walk (s : ByteArray) (x y : Int) (W : World) (_ws : s.size ≤ maxLen) (wx : (Lit.int .u8 x).wf = true) (wy : (Lit.int .u8 y).wf = true) :
    Calls Try.prog 4 #[.string s, .agg #[.int .u8 x, .int .u8 y]] W fun e w' => e = .returned (.bool true) ∧ Below W.heap.size W w' := by
  have AW := Lib.hid lpAwake_any
  have bx := wf_u8 wx
  have bz := wf_u8 wy
  clear wx wy
  have XB := Lib.hid ((Below.refl W.heap.size W).alloc (Nat.le_refl _) (by2O x y))
  have RB := Lib.hid (heap_alloc_new W (by2O x y))
  have gb0 := (Array.getElem?_eq_some_iff.1 RB.out).1
  cases hm : madeP s.data.toList with
  | none =>
    have CM := Lib.hid (fun W => made_void hm W)
    go_enter Try.func4, Try.ntmps4
    go_wp2_with fail
    refine (CM.out _).mono ?_; rintro e w1 ⟨p, S, cS, G, cG, rfl, hv, hb1⟩
    have HVV := Lib.hid hv
    clear hv
    have X1 := (Below.refl w1.heap.size w1).alloc (Nat.le_refl _) (planO p S cS G cG)
    have B5 := Lib.hid ((XB.out.trans (hb1.mono XB.out.size)).trans (X1.mono (XB.out.trans (hb1.mono XB.out.size)).size))
    have RP := Lib.hid (heap_alloc_new w1 (planO p S cS G cG))
    have RB5 := Lib.hid ((X1.block _ (Nat.lt_of_lt_of_le gb0 hb1.size)).trans ((hb1.block _ gb0).trans RB.out))
    have I5 := Lib.hid (planIn_void HVV.out : PlanIn (w1.alloc (planO p S cS G cG)) p S G)
    obtain ⟨⟨p0, p1, p2, p3, p4, p5⟩, -, gx⟩ := row6 RP.out
    obtain ⟨⟨y0, y1⟩, -, gb⟩ := rowY RB5.out
    have CW := Lib.hid (way_any p S cS G cG x y _ I5.out (wayP_few HVV.out) bx bz)
    clear hb1 X1 CM XB RB gb0 bx bz
    go_wp2_with fail
    generalize w1.alloc (planO p S cS G cG) = w5 at B5 RP RB5 I5 p0 p1 p2 p3 p4 p5 y0 y1 gx gb CW ⊢
    refine CW.out.mono ?_; rintro e w6 ⟨hw, -⟩
    obtain ⟨rfl, hb6⟩ := hw (wayP_void HVV.out x y)
    have B7 := Lib.hid ((B5.out.trans (hb6.mono B5.out.size)).alloc (B5.out.trans (hb6.mono B5.out.size)).size wayZ)
    clear hb6 hw CW p0 p1 p2 p3 p4 p5 y0 y1 gx gb
    go_wp2_with fail
    refine (AW.out _).mono ?_; rintro e w8 ⟨rfl, hb8⟩
    go_wp2
    go_ret
    exact ⟨rfl, B7.out.trans (hb8.mono B7.out.size)⟩
  | some p =>
    obtain ⟨hfit, hmeas⟩ := madeP_meas hm
    have CM := Lib.hid (fun W => made_some hm W)
    go_enter Try.func4, Try.ntmps4
    go_wp2_with fail
    refine (CM.out _).mono ?_; rintro e w1 ⟨S, cS, G, cG, rfl, pin, hb1⟩
    have X1 := (Below.refl w1.heap.size w1).alloc (Nat.le_refl _) (planO p S cS G cG)
    have B5 := Lib.hid ((XB.out.trans (hb1.mono XB.out.size)).trans (X1.mono (XB.out.trans (hb1.mono XB.out.size)).size))
    have RP := Lib.hid (heap_alloc_new w1 (planO p S cS G cG))
    have RB5 := Lib.hid ((X1.block _ (Nat.lt_of_lt_of_le gb0 hb1.size)).trans ((hb1.block _ gb0).trans RB.out))
    have I5 := Lib.hid (pin.below X1 : PlanIn (w1.alloc (planO p S cS G cG)) p S G)
    obtain ⟨⟨p0, p1, p2, p3, p4, p5⟩, -, gx⟩ := row6 RP.out
    obtain ⟨⟨y0, y1⟩, -, gb⟩ := rowY RB5.out
    have CW := Lib.hid (way_any p S cS G cG x y _ I5.out (hfit.gfew) bx bz)
    clear hm pin hb1 X1 CM XB RB gb0 bx bz
    go_wp2_with fail
    generalize w1.alloc (planO p S cS G cG) = w5 at B5 RP RB5 I5 p0 p1 p2 p3 p4 p5 y0 y1 gx gb CW ⊢
    cases hwp : wayP p x y with
    | none =>
      refine CW.out.mono ?_; rintro e w6 ⟨hw, -⟩
      obtain ⟨rfl, hb6⟩ := hw (hwp)
      have B7 := Lib.hid ((B5.out.trans (hb6.mono B5.out.size)).alloc (B5.out.trans (hb6.mono B5.out.size)).size wayZ)
      clear hb6 hw CW p0 p1 p2 p3 p4 p5 y0 y1 gx gb
      go_wp2_with fail
      refine (AW.out _).mono ?_; rintro e w8 ⟨rfl, hb8⟩
      go_wp2
      go_ret
      exact ⟨rfl, B7.out.trans (hb8.mono B7.out.size)⟩
    | some iv =>
      obtain ⟨i, v⟩ := iv
      obtain ⟨hi, hv⟩ := wayP_some hwp
      have hst := Cr.of_steps hv
      have hex := Lp.way_exit hmeas hv
      have hsg := List.getElem?_eq_getElem hi
      refine CW.out.mono ?_; rintro e w6 ⟨-, hw⟩
      obtain ⟨Aw, cw, rfl, hR6, hcap, hb6⟩ := hw i v hwp
      have HF := Lib.hid hfit
      have HM := Lib.hid hmeas
      have HV := Lib.hid hv
      have X6 := (Below.refl w6.heap.size w6).alloc (Nat.le_refl _) (wayO Aw v.steps.length cw v.exit)
      have T7 := Lib.hid (hb6.trans (X6.mono hb6.size))
      have RW := Lib.hid (heap_alloc_new w6 (wayO Aw v.steps.length cw v.exit))
      have RR := Lib.hid (hR6.below X6)
      have HCAP := Lib.hid hcap
      clear hb6 hw CW p0 p1 p2 p3 p4 p5 y0 y1 gb hwp hv hcap hR6 X6 hfit hmeas
      obtain ⟨⟨p0, p1, p2, p3, p4, p5⟩, -, -⟩ := row6 ((T7.out.block _ gx).trans RP.out)
      obtain ⟨⟨y0, y1⟩, -, gw⟩ := rowY RW.out
      have KP := Lib.hid (fun W' (hW : Below w5.heap.size w5 W') => (row6 ((hW.block _ gx).trans RP.out)).1)
      go_upto_region 3 with fail
      generalize w6.alloc (wayO Aw v.steps.length cw v.exit) = w7 at T7 RW RR p0 p1 p2 p3 p4 p5 y0 y1 gw ⊢
      generalize w6.heap.size = gy at RW y0 y1 gw ⊢
      have KY := Lib.hid (fun W' (hW : Below w7.heap.size w7 W') => (rowY ((hW.block _ gw).trans RW.out)).1)
      have TW := Lib.hid (fun W' (hW : Below w7.heap.size w7 W') => T7.out.trans (hW.mono T7.out.size))
      have T0 := Lib.hid (Below.refl w7.heap.size w7)
      have B7 := Lib.hid (B5.out.trans (T7.out.mono B5.out.size))
      have CP := Lib.hid (fun W (hW : Below w7.heap.size w7 W) => LapMade.of hW (plOf_any p HF.out HM.out S cS G cG i v Aw cw W (I5.out.below (TW.out _ hW)) (RR.out.below hW).row (by omega) hex.1))
      have HX := Lp.of_cases HM.out (sigAt_get hi) (w := v) hex.2
      have hl16 := Lp.of_steps (p := p) (i := i) (w := v)
      have hov := HM.out.ov
      generalize Lp.of p i v = u at CP HX hl16
      obtain ⟨l, er⟩ := u
      have hl16' : l.length ≤ 16 := hl16
      clear hl16
      go_wp2_with fail
      refine (CP.out _ T0.out).mono ?_; rintro e w9 ⟨B1, d1, rfl, hR1, hd1, -, hacc9, -⟩
      have T9 := Lib.hid hacc9
      have R9 := Lib.hid hR1
      have BE := Lib.hid (fun W' (hW : Below w9.heap.size w9 W') => B7.out.trans ((T9.out.trans (hW.mono T9.out.size)).mono B7.out.size))
      clear p0 p1 p2 p3 p4 p5 y0 y1 hR1 hacc9 CP
      rcases HX with hx | hx | ⟨he, hex0, hov0, g, hg, hpos, hre⟩
      · obtain rfl : l = [] := congrArg Prod.fst hx
        obtain rfl : er = 10 := congrArg Prod.snd hx
        clear hx
        go_wp2_with fail
        refine (AW.out _).mono ?_; rintro e w12 ⟨rfl, hb12⟩
        go_wp2
        go_ret
        exact ⟨rfl, BE.out _ hb12⟩
      · obtain rfl : l = [] := congrArg Prod.fst hx
        obtain rfl : er = 0 := congrArg Prod.snd hx
        clear hx
        go_wp2_with fail
        refine (AW.out _).mono ?_; rintro e w12 ⟨rfl, hb12⟩
        go_wp2
        go_ret
        exact ⟨rfl, BE.out _ hb12⟩
      obtain rfl : er = 0 := he
      obtain ⟨ex, hexn⟩ : ∃ n : Nat, v.exit = n := ⟨v.exit.toNat, by omega⟩
      have hxl : ex < p.sigs.length := by omega
      have hgx : p.sigs[ex]? = some g := by
        rw [hexn, Cr.sigAt, if_neg (by omega), Int.toNat_natCast] at hg
        exact hg
      have DL : ((l.length : Int) == 0) = false := by rw [beq_eq_false_iff_ne]; have h : 0 < l.length := hpos; omega
      have DX : decide ((ex : Int) < 0) = false := dec_f (by omega)
      have i0 : (0 : Int) ≤ (ex : Int) := Int.natCast_nonneg _
      have i1 : (ex : Int) < (p.sigs.length : Int) := by omega
      have j0 : (0 : Int) ≤ (i : Int) := Int.natCast_nonneg _
      have j1 : (i : Int) < (p.sigs.length : Int) := by omega
      have HOV := Lib.hid (And.intro hov hov0)
      have HRE := Lib.hid (show Lp.Reach p (p.sigs[i]).sec v.steps l 0 g.sec g.en from hre)
      have HPOS := Lib.hid (show 0 < l.length from hpos)
      have KP9 := Lib.hid (fun W' (hW : Below w9.heap.size w9 W') => KP.out _ (TW.out _ (T9.out.trans (hW.mono T9.out.size))))
      have KY9 := Lib.hid (fun W' (hW : Below w9.heap.size w9 W') => show W'.cell? ⟨gy, 0, none⟩ = some (.slice Aw v.steps.length cw) ∧ W'.cell? ⟨gy, 1, none⟩ = some (.int .i64 ex) from by
        have h := KY.out _ (T9.out.trans (hW.mono T9.out.size))
        rw [hexn] at h
        exact h)
      have I9 := Lib.hid (fun W' (hW : Below w9.heap.size w9 W') => I5.out.below (TW.out _ (T9.out.trans (hW.mono T9.out.size))))
      have RR9 := Lib.hid (fun W' (hW : Below w9.heap.size w9 W') => ((RR.out.below T9.out).below hW).row)
      have RL9 := Lib.hid (fun W' (hW : Below w9.heap.size w9 W') => (R9.out.below hW).row)
      have E0 := Lib.hid (Below.refl w9.heap.size w9)
      obtain ⟨bG, oG, rfl, gG, onG⟩ := (I9.out _ E0.out).2.at hxl
      rw [(List.getElem?_eq_some_iff.1 hgx).2] at onG
      obtain ⟨-, a1, a2⟩ := sig_on onG
      rw [show ex * LSig.m = ex * 3 from rfl] at a1 a2
      obtain ⟨bG', oG', hbo, -, onI⟩ := (I9.out _ E0.out).2.at hi
      cases hbo
      obtain ⟨-, c1, -⟩ := sig_on onI
      rw [show i * LSig.m = i * 3 from rfl] at c1
      have KG := Lib.hid (fun W' (hW : Below w9.heap.size w9 W') => show W'.cell? ⟨bG, oG + i * 3 + 1, none⟩ = some (.int .i64 (p.sigs[i]).sec) from (hW.cell (p := ⟨bG, oG + i * 3 + 1, none⟩) gG).trans c1)
      clear hre hov hov0 hg hgx hex0 hex hexn onG onI hpos c1 hsg
      obtain ⟨p0, p1, p2, p3, p4, p5⟩ := KP9.out _ E0.out
      obtain ⟨y0, y1⟩ := KY9.out _ E0.out
      obtain ⟨gn, gs, ge⟩ := g
      simp only at a1 a2
      generalize (p.sigs[i]).sec = bs at HRE KG
      go_upto_region 10 with fail
      go_quiet (fail)
      have E1 := Lib.hid (below_drewN E0.out nq)
      clear a1 a2 p0 p1 p2 p3 p4 p5 y0 y1
      go_wp2_with fail
      go_loopw [12, 13, 14] (fun v1 v2 v3 w' => ∃ (k : Nat) (a e : Int), k ≤ l.length ∧ v1 = .int .i64 a ∧ v2 = .int .i64 e ∧ v3 = .int .i64 k ∧ Lp.Reach p bs v.steps l k a e ∧ (k = 0 ∨ ∃ n : Nat, a = n ∧ n < p.secs.length) ∧ Below w9.heap.size w9 w') (fun _ _ v3 _ => l.length - (intOf v3).toNat)
      case atStart => exact ⟨0, _, _, Nat.zero_le _, rfl, rfl, rfl, HRE.out, .inl rfl, E1.out⟩
      case round =>
        obtain ⟨k, a, e, hk, rfl, rfl, rfl, hRe, hat, hBk⟩ := hrel
        have HRe := Lib.hid hRe
        have HBk := Lib.hid hBk
        have HAT := Lib.hid hat
        clear hRe hBk hat
        obtain ⟨p0, p1, p2, p3, p4, p5⟩ := KP9.out _ HBk.out
        have CN := Lib.hid (fun W' (hW : Below w9.heap.size w9 W') => rwNext_any p S cS (some ⟨bG, oG, none⟩) cG a e W' (I9.out _ hW))
        by_cases hkl : k < l.length
        · have hy := List.getElem?_eq_getElem hkl
          obtain ⟨b1, o1, rfl, g1, on1⟩ := (RL9.out _ HBk.out).at hkl
          generalize l[k] = z at hy on1
          obtain ⟨r0, r1, r2⟩ := stp_on on1
          rw [show k * LStp.m = k * 3 from rfl] at r0 r1 r2
          obtain ⟨x1, x2, x3, x4, x5, x6⟩ := Lp.reach_next HRe.out hy
          have dk : decide ((k : Int) < (l.length : Int)) = true := dec_t (by omega)
          have hk0 : (0 : Int) ≤ (k : Int) := Int.natCast_nonneg _
          have hk1 : (k : Int) < (l.length : Int) := by omega
          have hkd : (k : Int) ≤ (d1 : Int) := by have h : l.length ≤ d1 := hd1; omega
          obtain ⟨ni, hni, hnl⟩ := Lp.outs_at x2
          have HX2 := Lib.hid x2
          have HX6 := Lib.hid (show Lp.Reach p bs v.steps l (k + 1) z.s z.t ∧ (k + 1 = 0 ∨ ∃ n : Nat, z.s = n ∧ n < p.secs.length) from ⟨x6, .inr ⟨ni, hni, hnl⟩⟩)
          have E1' : (z.s == bs) = false := by rw [beq_eq_false_iff_ne]; exact x3
          have HX4 := Lib.hid x4
          have HX5 := Lib.hid x5
          generalize hnx : Wk.next p a e = nx at CN x1 HX2
          obtain ⟨n1, n2, n3⟩ := nx
          obtain rfl : n3 = true := x1
          have CO := Lib.hid (fun W' (hW : Below w9.heap.size w9 W') => rwOuts_any p S cS (some ⟨bG, oG, none⟩) cG n1 n2 W' (I9.out _ hW))
          have HMM := Lib.hid (show z ∈ Wk.outs p n1 n2 from HX2.out)
          have hlo := Wk.outs_len p n1 n2
          generalize Wk.outs p n1 n2 = lo at CO HMM hlo
          obtain ⟨ys, yf, yt⟩ := z
          simp only at r0 r1 r2 E1'
          clear hnx x2 x3 x4 x5 x6 on1 HX2 hy hni hnl
          have KX := Lib.hid (fun W' (hW : Below wr.heap.size wr W') => show W'.cell? ⟨b1, o1 + k * 3, none⟩ = some (.int .i64 ys) ∧ W'.cell? ⟨b1, o1 + k * 3 + 1, none⟩ = some (.int .i64 yf) ∧ W'.cell? ⟨b1, o1 + k * 3 + 2, none⟩ = some (.int .i64 yt) from ⟨(hW.cell (p := ⟨b1, o1 + k * 3, none⟩) g1).trans r0, (hW.cell (p := ⟨b1, o1 + k * 3 + 1, none⟩) g1).trans r1, (hW.cell (p := ⟨b1, o1 + k * 3 + 2, none⟩) g1).trans r2⟩)
          have KB := Lib.hid (fun W' (hW : Below wr.heap.size wr W') => HBk.out.trans (hW.mono HBk.out.size))
          clear r0 r1 r2 g1
          go_wp2_with fail
          refine (CN.out _ HBk.out).mono ?_; rintro e' w10 ⟨rfl, hb10⟩
          have TB := Lib.hid hb10
          clear p0 p1 p2 p3 p4 p5 hb10
          obtain ⟨p0, p1, p2, p3, p4, p5⟩ := KP9.out _ (KB.out _ TB.out)
          go_wp2_with fail
          refine (CO.out _ (KB.out _ TB.out)).mono ?_; rintro e' w11 ⟨Ao, co, rfl, hRo, hb11⟩
          have TD := Lib.hid (TB.out.trans (hb11.mono TB.out.size))
          have RO := Lib.hid hRo
          have V0 := Lib.hid (Below.refl w11.heap.size w11)
          have KW := Lib.hid (fun W' (hW : Below w11.heap.size w11 W') => TD.out.trans (hW.mono TD.out.size))
          clear hb11 hRo p0 p1 p2 p3 p4 p5 CN CO
          go_wp2_with fail
          go_loopw [19, 20] (fun v1 v2 w' => ∃ jj : Nat, jj ≤ lo.length ∧ v1 = .bool (metS lo ⟨ys, yf, yt⟩ jj) ∧ v2 = .int .i64 jj ∧ Below w11.heap.size w11 w') (fun _ v2 _ => lo.length - (intOf v2).toNat)
          case atStart => exact ⟨0, Nat.zero_le _, rfl, rfl, V0.out⟩
          case round =>
            obtain ⟨jj, hjj, rfl, rfl, hBj⟩ := hrel
            have HBj := Lib.hid hBj
            clear hBj
            obtain ⟨r0, r1, r2⟩ := KX.out _ (KW.out _ HBj.out)
            by_cases hjl : jj < lo.length
            · have hq := List.getElem?_eq_getElem hjl
              obtain ⟨b2, o2, rfl, g2, on2⟩ := (RO.out.below rfl HBj.out).at hjl
              generalize lo[jj] = q at hq on2
              obtain ⟨t0, t1, t2⟩ := stp_on on2
              rw [show jj * LStp.m = jj * 3 from rfl] at t0 t1 t2
              have dj : decide ((jj : Int) < (lo.length : Int)) = true := dec_t (by omega)
              have HN := Lib.hid (metS_next (z := ⟨ys, yf, yt⟩) hq)
              clear hq on2
              --[
              cases hsn : metS lo ⟨ys, yf, yt⟩ jj with
              | true =>
                rw [hsn, Bool.true_or] at HN
                clear hsn
                go_upto_region 20 with fail
                go_quiet (fail)
                go_wp2_with fail
                go_roundw
                case rel => exact ⟨jj + 1, by omega, by rw [HN.out], by go_num, below_drewN HBj.out _⟩
                case measure => simp [intOf]; omega
              | false =>
                rw [hsn, Bool.false_or] at HN
                have Q := fun W => bin_stps W q ⟨ys, yf, yt⟩
                generalize decide (q = (⟨ys, yf, yt⟩ : Wk.Stp)) = bq at Q HN
                clear hsn
                go_upto_region 20 with fail
                go_quiet (fail)
                go_wp2_with fail
                go_roundw
                case rel => exact ⟨jj + 1, by omega, by rw [HN.out], by go_num, below_drewN HBj.out _⟩
                case measure => simp [intOf]; omega
              --]
            · obtain rfl : jj = lo.length := by omega
              have dj : decide ((lo.length : Int) < (lo.length : Int)) = false := dec_f (by omega)
              rw [metS_all HMM.out]
              have TE := Lib.hid (KB.out _ (KW.out _ HBj.out))
              have R0 := Lib.hid (Below.refl wr.heap.size wr)
              have HJ := Lib.hid (fun W' (hW : Below wr.heap.size wr W') => KW.out _ (HBj.out.trans (hW.mono HBj.out.size)))
              go_upto_region 21 with fail
              go_cut [165] from 89 to 175 (fun s165 w' => s165 = .bool false ∧ Below wr.heap.size wr w')
              case first =>
                --[
                have KK := Lib.hid (fun W' (hW : Below wr.heap.size wr W') => show W'.cell? ⟨b1, o1 + k * 3, none⟩ = some (.int .i64 ys) ∧ W'.cell? ⟨w1.heap.size, 5, none⟩ = some (.slice (some ⟨bG, oG, none⟩) p.sigs.length cG) ∧ W'.cell? ⟨bG, oG + i * 3 + 1, none⟩ = some (.int .i64 bs) ∧ W'.cell? ⟨gy, 0, none⟩ = some (.slice Aw v.steps.length cw) from
                  ⟨(KX.out _ (HJ.out _ hW)).1, (KP9.out _ (KB.out _ (HJ.out _ hW))).2.2.2.2.2, KG.out _ (KB.out _ (HJ.out _ hW)), (KY9.out _ (KB.out _ (HJ.out _ hW))).1⟩)
                have C1 := Lib.hid (fun W' (hW : Below wr.heap.size wr W') => Made.of (w := wr) hW (show Calls Try.prog 17 #[.slice Aw v.steps.length cw, .int .i64 ys] W' (fun e w' => e = .returned (.bool false) ∧ Below W'.heap.size W' w') from by
                  have h := rwWithin_any Aw cw v.steps ys W' (RR9.out _ (KB.out _ (HJ.out _ hW))) (by omega)
                  have h4 : Wk.within v.steps ys = false := HX4.out
                  rw [h4] at h
                  exact h.mono fun e2 w2 hh => ⟨hh.1, hh.2 ▸ Below.refl _ _⟩))
                have C2 := Lib.hid (fun W' (hW : Below wr.heap.size wr W') => Made.of (w := wr) hW (show Calls Try.prog 17 #[.slice (some ⟨b1, o1, none⟩) k d1, .int .i64 ys] W' (fun e w' => e = .returned (.bool false) ∧ Below W'.heap.size W' w') from by
                  have h := rwWithin_any (some ⟨b1, o1, none⟩) d1 (l.take k) ys W' (row_take (RL9.out _ (KB.out _ (HJ.out _ hW))) k) (by rw [List.length_take]; omega)
                  have h4 : Wk.within (l.take k) ys = false := HX5.out
                  rw [h4, List.length_take, Nat.min_eq_left (Nat.le_of_lt hkl)] at h
                  exact h.mono fun e2 w2 hh => ⟨hh.1, hh.2 ▸ Below.refl _ _⟩))
                clear r0 r1 r2
                go_region_held3 (fun W' => W'.cell? ⟨b1, o1 + k * 3, none⟩ = some (.int .i64 ys) ∧ W'.cell? ⟨w1.heap.size, 5, none⟩ = some (.slice (some ⟨bG, oG, none⟩) p.sigs.length cG) ∧ W'.cell? ⟨bG, oG + i * 3 + 1, none⟩ = some (.int .i64 bs) ∧ W'.cell? ⟨gy, 0, none⟩ = some (.slice Aw v.steps.length cw))
                  (first | with_reducible exact KK.out _ R0.out.drew | with_reducible exact KK.out _ h2 | with_reducible exact KK.out _ h1)
                  (first
                    | (go_at_call 17; (with_reducible refine (C1.out _ R0.out.drew).mono ?_); rintro e1 z1 ⟨rfl, -, h1, -⟩)
                    | (go_at_call 17; (with_reducible refine (C2.out _ h1).mono ?_); rintro e2 z2 ⟨rfl, -, h2, -⟩))
                all_goals go_wp2_with fail
                all_goals go_meet
                all_goals exact ⟨rfl, h2⟩
                --]
              case rest =>
              obtain ⟨rfl, hb21⟩ := hcut
              have TF := Lib.hid (KB.out _ (HJ.out _ hb21))
              have KXF := KX.out _ (HJ.out _ hb21)
              clear hb21 r0 r1 r2
              generalize wc = w21 at TF KXF ⊢
              obtain ⟨r0, r1, r2⟩ := KXF
              go_upto_region 23 with fail
              go_quiet (fail)
              go_wp2_with fail
              go_roundw
              case rel => exact ⟨k + 1, ys, yt, by omega, rfl, rfl, by go_num, HX6.out.1, HX6.out.2, below_drewN TF.out _⟩
              case measure => simp [intOf]; omega
        · obtain rfl : k = l.length := by omega
          have dk : decide ((l.length : Int) < (l.length : Int)) = false := dec_f (by omega)
          obtain ⟨n, hn, hnl⟩ : ∃ n : Nat, a = n ∧ n < p.secs.length := by
            rcases HAT.out with h | h
            · exact absurd h (by have := HPOS.out; omega)
            · exact h
          subst hn
          obtain ⟨hend, hless⟩ := Lp.reach_end HRe.out
          have CR := Lib.hid (fun W' (hW : Below w9.heap.size w9 W') => rlLength_any p HM.out S cS (some ⟨bG, oG, none⟩) cG l B1 d1 W' (I9.out _ hW) (RL9.out _ hW) (by omega))
          have hlb := Lp.len_bd HM.out l
          have hsb := Lp.secLen_bd HM.out (n : Int)
          obtain ⟨bS, oS, rfl, gS, onS⟩ := (I9.out _ E0.out).1.at hnl
          have onl := (sec_on onS).2.2.1
          rw [show n * LSec.m = n * 12 from rfl, show (p.secs[n]).len = Lp.secLen p (n : Int) from (Lp.secLen_at (List.getElem?_eq_getElem hnl)).symm] at onl
          have qs : IntKind.i64.wrap (Lp.len p l - Lp.secLen p (n : Int)) = Lp.len p l - Lp.secLen p (n : Int) := IntWalk.i64_in _ (by omega)
          have DS : decide (Lp.len p l - Lp.secLen p (n : Int) < p.ov) = true := dec_t hless
          have D16 : decide ((l.length : Int) ≤ 16) = true := dec_t (by omega)
          have n0 : (0 : Int) ≤ (n : Int) := Int.natCast_nonneg _
          have n1' : (n : Int) < (p.secs.length : Int) := by omega
          generalize hnx : Wk.next p (n : Int) e = nx at CN hend
          obtain ⟨n1, n2, n3⟩ := nx
          simp only at hend
          generalize Lp.len p l = ln at CR hend hless hlb qs DS
          generalize hsl : Lp.secLen p (n : Int) = sl at hless hsb qs DS onl
          have KS0 := Lib.hid (fun W' (hW : Below w9.heap.size w9 W') => show W'.cell? ⟨w1.heap.size, 0, none⟩ = some (.int .i64 p.ov) ∧ W'.cell? ⟨w1.heap.size, 4, none⟩ = some (.slice (some ⟨bS, oS, none⟩) p.secs.length cS) ∧ W'.cell? ⟨bS, oS + n * 12 + 2, none⟩ = some (.int .i64 sl) from ⟨(KP9.out _ hW).1, (KP9.out _ hW).2.2.2.2.1, (hW.cell (p := ⟨bS, oS + n * 12 + 2, none⟩) gS).trans onl⟩)
          clear hnx hsl onS hless hsb hlb onl
          go_wp2_with fail
          refine (CN.out _ HBk.out).mono ?_; rintro e' w10 ⟨rfl, hb10⟩
          have TE := Lib.hid (HBk.out.trans (hb10.mono HBk.out.size))
          clear p0 p1 p2 p3 p4 p5 hb10
          obtain ⟨p0, p1, p2, p3, p4, p5⟩ := KP9.out _ TE.out
          go_wp2_with fail
          refine (CR.out _ TE.out).mono ?_; rintro e' w11 ⟨rfl, hb11⟩
          have TF := Lib.hid (TE.out.trans (hb11.mono TE.out.size))
          clear p0 p1 p2 p3 p4 p5 hb11
          have R0 := Lib.hid (Below.refl w11.heap.size w11)
          have KS := Lib.hid (fun W' (hW : Below w11.heap.size w11 W') => KS0.out _ (TF.out.trans (hW.mono TF.out.size)))
          have CA := Lib.hid (fun W' (hW : Below w11.heap.size w11 W') => Made.of (w := w11) hW (AW.out W'))
          by_cases hov : p.ov ≤ ln
          · have DG : decide (p.ov ≤ ln) = true := dec_t hov
            clear hov hend
            --[
            go_upto_region 26 with fail
            refine wp_region_held_drew (S := (fun W' => W'.cell? ⟨w1.heap.size, 0, none⟩ = some (.int .i64 p.ov) ∧ W'.cell? ⟨w1.heap.size, 4, none⟩ = some (.slice (some ⟨bS, oS, none⟩) p.secs.length cS) ∧ W'.cell? ⟨bS, oS + n * 12 + 2, none⟩ = some (.int .i64 sl))) (by kernel_rfl) ?_ (fun hHeld => ?_)
            · with_reducible exact KS.out _ R0.out.drew
            (refine wpAnyH_ready (rs := [0]) (by kernel_rfl) (by simp) ?_; refine AllReadyH.cons rfl (fun K hK => ?_) AllReadyH.nil; ((try simp only [List.getElem_toArray, List.getElem_cons_zero]); go_simp; first | (go_at_call 9; (with_reducible refine (CA.out _ R0.out.drew).mono ?_); rintro e1 z1 ⟨rfl, -, hacc, -⟩)); (refine hK.out _ _ ?_ (fun hHeld => ?_)); (focus ((try dsimp only); exact KS.out _ hacc)); clear hK K; (try simp only [Act.put, List.getElem_toArray, List.getElem_cons_succ, List.getElem_cons_zero, List.setIfInBounds_toArray, List.set_cons_zero, List.set_cons_succ]))
            (refine wpAnyH_take (i := 1) (v := ?_) rfl (by kernel_rfl) (by kernel_rfl) (by kernel_rfl) (fun _ _ _ h => h) (Or.inl ⟨by rfl, ?_⟩) (by assumption) ?_; rotate_left; (focus (intro w hSw; (try dsimp only at hSw); (try simp only [List.getElem_toArray, List.getElem_cons_succ, List.getElem_cons_zero]); go_simp; try with_reducible rfl)); (try simp only [Act.put, List.getElem_toArray, List.getElem_cons_succ, List.getElem_cons_zero, List.setIfInBounds_toArray, List.set_cons_zero, List.set_cons_succ]))
            (refine wpAnyH_take (i := 2) (v := ?_) rfl (by kernel_rfl) (by kernel_rfl) (by kernel_rfl) (fun _ _ _ h => h) (Or.inl ⟨by rfl, ?_⟩) (by assumption) ?_; rotate_left; (focus (intro w hSw; (try dsimp only at hSw); (try simp only [List.getElem_toArray, List.getElem_cons_succ, List.getElem_cons_zero]); go_simp; try with_reducible rfl)); (try simp only [Act.put, List.getElem_toArray, List.getElem_cons_succ, List.getElem_cons_zero, List.setIfInBounds_toArray, List.set_cons_zero, List.set_cons_succ]))
            (refine wpAnyH_take (i := 3) (v := ?_) rfl (by kernel_rfl) (by kernel_rfl) (by kernel_rfl) (fun _ _ _ h => h) (Or.inl ⟨by rfl, ?_⟩) (by assumption) ?_; rotate_left; (focus (intro w hSw; (try dsimp only at hSw); (try simp only [List.getElem_toArray, List.getElem_cons_succ, List.getElem_cons_zero]); go_simp; try with_reducible rfl)); (try simp only [Act.put, List.getElem_toArray, List.getElem_cons_succ, List.getElem_cons_zero, List.setIfInBounds_toArray, List.set_cons_zero, List.set_cons_succ]))
            (refine wpAnyH_take (i := 4) (v := ?_) rfl (by kernel_rfl) (by kernel_rfl) (by kernel_rfl) (fun _ _ _ h => h) (Or.inl ⟨by rfl, ?_⟩) (by assumption) ?_; rotate_left; (focus (intro w hSw; (try dsimp only at hSw); (try simp only [List.getElem_toArray, List.getElem_cons_succ, List.getElem_cons_zero]); go_simp; try with_reducible rfl)); (try simp only [Act.put, List.getElem_toArray, List.getElem_cons_succ, List.getElem_cons_zero, List.setIfInBounds_toArray, List.set_cons_zero, List.set_cons_succ]))
            (refine wpAnyH_take (i := 5) (v := ?_) rfl (by kernel_rfl) (by kernel_rfl) (by kernel_rfl) (fun _ _ _ h => h) (Or.inl ⟨by rfl, ?_⟩) (by assumption) ?_; rotate_left; (focus (intro w hSw; (try dsimp only at hSw); (try simp only [List.getElem_toArray, List.getElem_cons_succ, List.getElem_cons_zero]); go_simp; try with_reducible rfl)); (try simp only [Act.put, List.getElem_toArray, List.getElem_cons_succ, List.getElem_cons_zero, List.setIfInBounds_toArray, List.set_cons_zero, List.set_cons_succ]))
            (refine wpAnyH_take (i := 6) (v := ?_) rfl (by kernel_rfl) (by kernel_rfl) (by kernel_rfl) (fun _ _ _ h => h) (Or.inl ⟨by rfl, ?_⟩) (by assumption) ?_; rotate_left; (focus (intro w hSw; (try dsimp only at hSw); (try simp only [List.getElem_toArray, List.getElem_cons_succ, List.getElem_cons_zero]); go_simp; try with_reducible rfl)); (try simp only [Act.put, List.getElem_toArray, List.getElem_cons_succ, List.getElem_cons_zero, List.setIfInBounds_toArray, List.set_cons_zero, List.set_cons_succ]))
            (refine wpAnyH_take (i := 7) (v := ?_) rfl (by kernel_rfl) (by kernel_rfl) (by kernel_rfl) (fun _ _ _ h => h) (Or.inl ⟨by rfl, ?_⟩) (by assumption) ?_; rotate_left; (focus (intro w hSw; (try dsimp only at hSw); (try simp only [List.getElem_toArray, List.getElem_cons_succ, List.getElem_cons_zero]); go_simp; try with_reducible rfl)); (try simp only [Act.put, List.getElem_toArray, List.getElem_cons_succ, List.getElem_cons_zero, List.setIfInBounds_toArray, List.set_cons_zero, List.set_cons_succ]))
            (refine wpAnyH_take (i := 8) (v := ?_) rfl (by kernel_rfl) (by kernel_rfl) (by kernel_rfl) (fun _ _ _ h => h) (Or.inl ⟨by rfl, ?_⟩) (by assumption) ?_; rotate_left; (focus (intro w hSw; (try dsimp only at hSw); (try simp only [List.getElem_toArray, List.getElem_cons_succ, List.getElem_cons_zero]); go_simp; try with_reducible rfl)); (try simp only [Act.put, List.getElem_toArray, List.getElem_cons_succ, List.getElem_cons_zero, List.setIfInBounds_toArray, List.set_cons_zero, List.set_cons_succ]))
            (refine wpAnyH_take (i := 9) (v := ?_) rfl (by kernel_rfl) (by kernel_rfl) (by kernel_rfl) (fun _ _ _ h => h) (Or.inl ⟨by rfl, ?_⟩) (by assumption) ?_; rotate_left; (focus (intro w hSw; (try dsimp only at hSw); (try simp only [List.getElem_toArray, List.getElem_cons_succ, List.getElem_cons_zero]); go_simp; try with_reducible rfl)); (try simp only [Act.put, List.getElem_toArray, List.getElem_cons_succ, List.getElem_cons_zero, List.setIfInBounds_toArray, List.set_cons_zero, List.set_cons_succ]))
            (refine wpAnyH_take (i := 10) (v := ?_) rfl (by kernel_rfl) (by kernel_rfl) (by kernel_rfl) (fun _ _ _ h => h) (Or.inl ⟨by rfl, ?_⟩) (by assumption) ?_; rotate_left; (focus (intro w hSw; (try dsimp only at hSw); (try simp only [List.getElem_toArray, List.getElem_cons_succ, List.getElem_cons_zero]); go_simp; try with_reducible rfl)); (try simp only [Act.put, List.getElem_toArray, List.getElem_cons_succ, List.getElem_cons_zero, List.setIfInBounds_toArray, List.set_cons_zero, List.set_cons_succ]))
            (refine wpAnyH_take (i := 11) (v := ?_) rfl (by kernel_rfl) (by kernel_rfl) (by kernel_rfl) (fun _ _ _ h => h) (Or.inl ⟨by rfl, ?_⟩) (by assumption) ?_; rotate_left; (focus (intro w hSw; (try dsimp only at hSw); (try simp only [List.getElem_toArray, List.getElem_cons_succ, List.getElem_cons_zero]); go_simp; try with_reducible rfl)); (try simp only [Act.put, List.getElem_toArray, List.getElem_cons_succ, List.getElem_cons_zero, List.setIfInBounds_toArray, List.set_cons_zero, List.set_cons_succ]))
            (refine wpAnyH_take (i := 12) (v := undef) rfl (by kernel_rfl) (by kernel_rfl) (by kernel_rfl) (fun _ _ _ h => h) (Or.inr ⟨by rfl, rfl⟩) (by assumption) ?_; (try simp only [Act.put, List.getElem_toArray, List.getElem_cons_succ, List.getElem_cons_zero, List.setIfInBounds_toArray, List.set_cons_zero, List.set_cons_succ]))
            (refine wpAnyH_take (i := 13) (v := undef) rfl (by kernel_rfl) (by kernel_rfl) (by kernel_rfl) (fun _ _ _ h => h) (Or.inr ⟨by rfl, rfl⟩) (by assumption) ?_; (try simp only [Act.put, List.getElem_toArray, List.getElem_cons_succ, List.getElem_cons_zero, List.setIfInBounds_toArray, List.set_cons_zero, List.set_cons_succ]))
            (refine wpAnyH_take (i := 14) (v := ?_) rfl (by kernel_rfl) (by kernel_rfl) (by kernel_rfl) (fun _ _ _ h => h) (Or.inl ⟨by rfl, ?_⟩) (by assumption) ?_; rotate_left; (focus (intro w hSw; (try dsimp only at hSw); (try simp only [List.getElem_toArray, List.getElem_cons_succ, List.getElem_cons_zero]); go_simp; try with_reducible rfl)); (try simp only [Act.put, List.getElem_toArray, List.getElem_cons_succ, List.getElem_cons_zero, List.setIfInBounds_toArray, List.set_cons_zero, List.set_cons_succ]))
            (refine wpAnyH_take (i := 15) (v := ?_) rfl (by kernel_rfl) (by kernel_rfl) (by kernel_rfl) (fun _ _ _ h => h) (Or.inl ⟨by rfl, ?_⟩) (by assumption) ?_; rotate_left; (focus (intro w hSw; (try dsimp only at hSw); (try simp only [List.getElem_toArray, List.getElem_cons_succ, List.getElem_cons_zero]); go_simp; try with_reducible rfl)); (try simp only [Act.put, List.getElem_toArray, List.getElem_cons_succ, List.getElem_cons_zero, List.setIfInBounds_toArray, List.set_cons_zero, List.set_cons_succ]))
            (refine wpAnyH_take (i := 16) (v := ?_) rfl (by kernel_rfl) (by kernel_rfl) (by kernel_rfl) (fun _ _ _ h => h) (Or.inl ⟨by rfl, ?_⟩) (by assumption) ?_; rotate_left; (focus (intro w hSw; (try dsimp only at hSw); (try simp only [List.getElem_toArray, List.getElem_cons_succ, List.getElem_cons_zero]); go_simp; try with_reducible rfl)); (try simp only [Act.put, List.getElem_toArray, List.getElem_cons_succ, List.getElem_cons_zero, List.setIfInBounds_toArray, List.set_cons_zero, List.set_cons_succ]))
            (refine wpAnyH_take (i := 17) (v := ?_) rfl (by kernel_rfl) (by kernel_rfl) (by kernel_rfl) (fun _ _ _ h => h) (Or.inl ⟨by rfl, ?_⟩) (by assumption) ?_; rotate_left; (focus (intro w hSw; (try dsimp only at hSw); (try simp only [List.getElem_toArray, List.getElem_cons_succ, List.getElem_cons_zero]); go_simp; try with_reducible rfl)); (try simp only [Act.put, List.getElem_toArray, List.getElem_cons_succ, List.getElem_cons_zero, List.setIfInBounds_toArray, List.set_cons_zero, List.set_cons_succ]))
            (refine wpAnyH_take (i := 18) (v := ?_) rfl (by kernel_rfl) (by kernel_rfl) (by kernel_rfl) (fun _ _ _ h => h) (Or.inl ⟨by rfl, ?_⟩) (by assumption) ?_; rotate_left; (focus (intro w hSw; (try dsimp only at hSw); (try simp only [List.getElem_toArray, List.getElem_cons_succ, List.getElem_cons_zero]); go_simp; try with_reducible rfl)); (try simp only [Act.put, List.getElem_toArray, List.getElem_cons_succ, List.getElem_cons_zero, List.setIfInBounds_toArray, List.set_cons_zero, List.set_cons_succ]))
            (refine wpAnyH_take (i := 19) (v := ?_) rfl (by kernel_rfl) (by kernel_rfl) (by kernel_rfl) (fun _ _ _ h => h) (Or.inl ⟨by rfl, ?_⟩) (by assumption) ?_; rotate_left; (focus (intro w hSw; (try dsimp only at hSw); (try simp only [List.getElem_toArray, List.getElem_cons_succ, List.getElem_cons_zero]); go_simp; try with_reducible rfl)); (try simp only [Act.put, List.getElem_toArray, List.getElem_cons_succ, List.getElem_cons_zero, List.setIfInBounds_toArray, List.set_cons_zero, List.set_cons_succ]))
            (refine wpAnyH_take (i := 20) (v := ?_) rfl (by kernel_rfl) (by kernel_rfl) (by kernel_rfl) (fun _ _ _ h => h) (Or.inl ⟨by rfl, ?_⟩) (by assumption) ?_; rotate_left; (focus (intro w hSw; (try dsimp only at hSw); (try simp only [List.getElem_toArray, List.getElem_cons_succ, List.getElem_cons_zero]); go_simp; try with_reducible rfl)); (try simp only [Act.put, List.getElem_toArray, List.getElem_cons_succ, List.getElem_cons_zero, List.setIfInBounds_toArray, List.set_cons_zero, List.set_cons_succ]))
            (refine wpAnyH_take (i := 21) (v := ?_) rfl (by kernel_rfl) (by kernel_rfl) (by kernel_rfl) (fun _ _ _ h => h) (Or.inl ⟨by rfl, ?_⟩) (by assumption) ?_; rotate_left; (focus (intro w hSw; (try dsimp only at hSw); (try simp only [List.getElem_toArray, List.getElem_cons_succ, List.getElem_cons_zero]); go_simp; try with_reducible rfl)); (try simp only [Act.put, List.getElem_toArray, List.getElem_cons_succ, List.getElem_cons_zero, List.setIfInBounds_toArray, List.set_cons_zero, List.set_cons_succ]))
            (refine wpAnyH_take (i := 22) (v := ?_) rfl (by kernel_rfl) (by kernel_rfl) (by kernel_rfl) (fun _ _ _ h => h) (Or.inl ⟨by rfl, ?_⟩) (by assumption) ?_; rotate_left; (focus (intro w hSw; (try dsimp only at hSw); (try simp only [List.getElem_toArray, List.getElem_cons_succ, List.getElem_cons_zero]); go_simp; try with_reducible rfl)); (try simp only [Act.put, List.getElem_toArray, List.getElem_cons_succ, List.getElem_cons_zero, List.setIfInBounds_toArray, List.set_cons_zero, List.set_cons_succ]))
            (refine wpAnyH_take (i := 23) (v := ?_) rfl (by kernel_rfl) (by kernel_rfl) (by kernel_rfl) (fun _ _ _ h => h) (Or.inl ⟨by rfl, ?_⟩) (by assumption) ?_; rotate_left; (focus (intro w hSw; (try dsimp only at hSw); (try simp only [List.getElem_toArray, List.getElem_cons_succ, List.getElem_cons_zero]); go_simp; try with_reducible rfl)); (try simp only [Act.put, List.getElem_toArray, List.getElem_cons_succ, List.getElem_cons_zero, List.setIfInBounds_toArray, List.set_cons_zero, List.set_cons_succ]))
            (refine wpAnyH_take (i := 24) (v := ?_) rfl (by kernel_rfl) (by kernel_rfl) (by kernel_rfl) (fun _ _ _ h => h) (Or.inl ⟨by rfl, ?_⟩) (by assumption) ?_; rotate_left; (focus (intro w hSw; (try dsimp only at hSw); (try simp only [List.getElem_toArray, List.getElem_cons_succ, List.getElem_cons_zero]); go_simp; try with_reducible rfl)); (try simp only [Act.put, List.getElem_toArray, List.getElem_cons_succ, List.getElem_cons_zero, List.setIfInBounds_toArray, List.set_cons_zero, List.set_cons_succ]))
            (refine wpAnyH_take (i := 25) (v := ?_) rfl (by kernel_rfl) (by kernel_rfl) (by kernel_rfl) (fun _ _ _ h => h) (Or.inl ⟨by rfl, ?_⟩) (by assumption) ?_; rotate_left; (focus (intro w hSw; (try dsimp only at hSw); (try simp only [List.getElem_toArray, List.getElem_cons_succ, List.getElem_cons_zero]); go_simp; try with_reducible rfl)); (try simp only [Act.put, List.getElem_toArray, List.getElem_cons_succ, List.getElem_cons_zero, List.setIfInBounds_toArray, List.set_cons_zero, List.set_cons_succ]))
            (refine wpAnyH_take (i := 26) (v := ?_) rfl (by kernel_rfl) (by kernel_rfl) (by kernel_rfl) (fun _ _ _ h => h) (Or.inl ⟨by rfl, ?_⟩) (by assumption) ?_; rotate_left; (focus (intro w hSw; (try dsimp only at hSw); (try simp only [List.getElem_toArray, List.getElem_cons_succ, List.getElem_cons_zero]); go_simp; try with_reducible rfl)); (try simp only [Act.put, List.getElem_toArray, List.getElem_cons_succ, List.getElem_cons_zero, List.setIfInBounds_toArray, List.set_cons_zero, List.set_cons_succ]))
            (refine wpAnyH_take (i := 27) (v := ?_) rfl (by kernel_rfl) (by kernel_rfl) (by kernel_rfl) (fun _ _ _ h => h) (Or.inl ⟨by rfl, ?_⟩) (by assumption) ?_; rotate_left; (focus (intro w hSw; (try dsimp only at hSw); (try simp only [List.getElem_toArray, List.getElem_cons_succ, List.getElem_cons_zero]); go_simp; try with_reducible rfl)); (try simp only [Act.put, List.getElem_toArray, List.getElem_cons_succ, List.getElem_cons_zero, List.setIfInBounds_toArray, List.set_cons_zero, List.set_cons_succ]))
            (refine wpAnyH_take (i := 28) (v := ?_) rfl (by kernel_rfl) (by kernel_rfl) (by kernel_rfl) (fun _ _ _ h => h) (Or.inl ⟨by rfl, ?_⟩) (by assumption) ?_; rotate_left; (focus (intro w hSw; (try dsimp only at hSw); (try simp only [List.getElem_toArray, List.getElem_cons_succ, List.getElem_cons_zero]); go_simp; try with_reducible rfl)); (try simp only [Act.put, List.getElem_toArray, List.getElem_cons_succ, List.getElem_cons_zero, List.setIfInBounds_toArray, List.set_cons_zero, List.set_cons_succ]))
            (refine wpAnyH_take (i := 29) (v := ?_) rfl (by kernel_rfl) (by kernel_rfl) (by kernel_rfl) (fun _ _ _ h => h) (Or.inl ⟨by rfl, ?_⟩) (by assumption) ?_; rotate_left; (focus (intro w hSw; (try dsimp only at hSw); (try simp only [List.getElem_toArray, List.getElem_cons_succ, List.getElem_cons_zero]); go_simp; try with_reducible rfl)); (try simp only [Act.put, List.getElem_toArray, List.getElem_cons_succ, List.getElem_cons_zero, List.setIfInBounds_toArray, List.set_cons_zero, List.set_cons_succ]))
            (refine wpAnyH_done (by kernel_rfl) ?_ _)
            all_goals go_wp2_with fail
            all_goals go_ret
            all_goals exact ⟨rfl, BE.out _ (TF.out.trans (hacc.mono TF.out.size))⟩
            --]
          · have DG : decide (p.ov ≤ ln) = false := dec_f hov
            obtain rfl : n3 = false := hend.resolve_right hov
            clear hov hend
            --[
            go_upto_region 26 with fail
            go_region_held3 (fun W' => W'.cell? ⟨w1.heap.size, 0, none⟩ = some (.int .i64 p.ov) ∧ W'.cell? ⟨w1.heap.size, 4, none⟩ = some (.slice (some ⟨bS, oS, none⟩) p.secs.length cS) ∧ W'.cell? ⟨bS, oS + n * 12 + 2, none⟩ = some (.int .i64 sl))
              (first | with_reducible exact KS.out _ R0.out.drew | with_reducible exact KS.out _ hacc)
              (first | (go_at_call 9; (with_reducible refine (CA.out _ R0.out.drew).mono ?_); rintro e1 z1 ⟨rfl, -, hacc, -⟩))
            all_goals go_wp2_with fail
            all_goals go_ret
            all_goals exact ⟨rfl, BE.out _ (TF.out.trans (hacc.mono TF.out.size))⟩
            --]
end Go.Proofs.Ytfmpjljddfaggaa
