/-
  Texts of this claim, merged: CourseWaysWalk.
-/
import Derived.Test.YtakdpggdjllnpaaMg22
/-
  The walk of the law CourseWays: it returns true.
-/
namespace Go.Proofs.Ytakdpggdjllnpaa
open Go.RowKit

set_option maxHeartbeats 8000000 in
set_option maxRecDepth 100000 in
theorem courseWays_walk (s : ByteArray) (i : Int) (W : World) (_ws : s.size ≤ maxLen) (wi : (Lit.int .u8 i).wf = true) :
    Calls Try.prog 4 #[.string s, .int .u8 i] W fun e w' => e = .returned (.bool true) ∧ Below W.heap.size W w' := by
  have AW := Lib.hid crAwake_any
  have bi := wf_u8 wi
  cases hm : madeP s.data.toList with
  | none =>
    have CM := Lib.hid (fun W => made_none hm W)
    clear hm bi wi
    go_enter Try.func4, Try.ntmps4
    go_wp2_with fail
    refine (CM.out _).mono ?_; rintro e w1 ⟨p, S, cS, G, cG, rfl, hb1⟩
    have B1 := Lib.hid (hb1.alloc hb1.size (planO p S cS G cG))
    clear hb1
    go_wp2_with fail
    refine (AW.out _).mono ?_; rintro e w2 ⟨rfl, hb2⟩
    go_wp2
    go_ret
    exact ⟨rfl, B1.out.trans (hb2.mono B1.out.size)⟩
  | some p =>
    have CM := Lib.hid (fun W => made_some hm W)
    obtain ⟨hfit, -⟩ := madeP_some hm
    have hfew := hfit.few
    have hgfew := hfit.gfew
    clear hm hfit wi
    by_cases hz : p.sigs.length = 0
    · have DZ : ((p.sigs.length : Int) == 0) = true := by rw [beq_iff_eq]; omega
      clear hz bi
      go_enter Try.func4, Try.ntmps4
      go_wp2_with fail
      refine (CM.out _).mono ?_; rintro e w1 ⟨S, cS, G, cG, rfl, pin, hb1⟩
      have B1 := Lib.hid (hb1.alloc hb1.size (planO p S cS G cG))
      obtain ⟨⟨p0, p1, p2, p3, p4, p5⟩, -, gp⟩ := row6 (heap_alloc_new w1 (planO p S cS G cG))
      clear hb1 pin
      go_wp2_with fail
      refine (AW.out _).mono ?_; rintro e w2 ⟨rfl, hb2⟩
      go_wp2
      go_ret
      exact ⟨rfl, B1.out.trans (hb2.mono B1.out.size)⟩
    have DZ : ((p.sigs.length : Int) == 0) = false := by rw [beq_eq_false_iff_ne]; omega
    obtain ⟨q1, hj⟩ := rem_len bi.1 hz
    have q0 : IntKind.i64.wrap i = i := IntWalk.i64_in _ (by omega)
    have q2 : IntKind.i64.wrap ((i.toNat % p.sigs.length : Nat) : Int) = ((i.toNat % p.sigs.length : Nat) : Int) := IntWalk.i64_in _ (by omega)
    generalize i.toNat % p.sigs.length = j at q1 q2 hj
    have hx := List.getElem?_eq_getElem hj
    generalize p.sigs[j] = x at hx
    have hof := Cr.of_some (show Cr.sigAt p j = some x from by unfold Cr.sigAt; rw [if_neg (by omega), Int.toNat_natCast, hx])
    have HX := Lib.hid hx
    have hlen := Cr.of_len p j
    have HRE := Lib.hid (fun w (hw : w ∈ (Cr.ofSig p x).1) => Cr.reach_start hw)
    have HPO := Lib.hid (fun w (hw : w ∈ (Cr.ofSig p x).1) => Cr.way_pos hw)
    have HER := Lib.hid (Cr.ofSig_ways p x)
    have HST := Lib.hid (fun y (hy : y ∈ (Cr.of p j).1) => Cr.of_steps hy)
    rw [hof] at hlen HST
    clear hx
    go_enter Try.func4, Try.ntmps4
    go_wp2_with fail
    refine (CM.out _).mono ?_; rintro e w1 ⟨S, cS, G, cG, rfl, pin, hb1⟩
    have X1 := (Below.refl w1.heap.size w1).alloc (Nat.le_refl _) (planO p S cS G cG)
    have B5 := Lib.hid (hb1.trans (X1.mono hb1.size))
    have I5 := Lib.hid (pin.below X1)
    have RP := Lib.hid (heap_alloc_new w1 (planO p S cS G cG))
    have gx := (Array.getElem?_eq_some_iff.1 RP.out).1
    clear hb1 X1 pin CM
    generalize hw5 : w1.alloc (planO p S cS G cG) = w5 at B5 I5 RP gx
    have KP := Lib.hid (fun W' (hW : Below w5.heap.size w5 W') => (row6 ((hW.block _ gx).trans RP.out)).1)
    have T0 := Lib.hid (Below.refl w5.heap.size w5)
    have C1 := Lib.hid (fun W' (hW : Below w5.heap.size w5 W') => WaysMade.of (W0 := w5) hW (pcOf_any p S cS G cG j W' (I5.out.below hW) hfew hgfew))
    rw [hof] at C1
    generalize Cr.ofSig p x = z at C1 hlen HST HRE HPO HER
    obtain ⟨L, er⟩ := z
    obtain ⟨xn, xs, xe⟩ := x
    clear hof
    have hlen' : L.length ≤ 65536 := hlen
    obtain ⟨p0, p1, p2, p3, p4, p5⟩ := KP.out _ T0.out
    subst hw5
    clear hlen
    go_upto_region 4 with fail
    generalize w1.alloc (planO p S cS G cG) = w5 at B5 I5 KP T0 C1 p0 p1 p2 p3 p4 p5 gx RP ⊢
    have hjl : j < p.sigs.length := hj
    obtain ⟨bG, oG, rfl, gG, onG⟩ := I5.out.2.at hj
    rw [(List.getElem?_eq_some_iff.1 HX.out).2] at onG
    obtain ⟨a0, a1, a2⟩ := sig_on onG
    rw [show j * LSig.m = j * 3 from rfl] at a0 a1 a2
    simp only at a0 a1 a2
    clear onG
    go_cut [7] from 25 (fun s7 w' => s7 = .pointer (some ⟨w5.heap.size, 0, none⟩) ∧ w'.heap[w5.heap.size]? = some (sigO ⟨xn, xs, xe⟩) ∧ Below w5.heap.size w5 w')
    case first =>
      --[
      go_region
      all_goals go_wp2_with fail
      all_goals go_meet
      all_goals exact ⟨rfl, heap_alloc_new _ _, ((Below.refl _ _).alloc (Nat.le_refl _) _).drew⟩
      --]
    case rest =>
      obtain ⟨rfl, hsg, hb6⟩ := hcut
      have HSG := Lib.hid hsg
      have T6 := Lib.hid hb6
      have gsg := (Array.getElem?_eq_some_iff.1 hsg).1
      clear a0 a1 a2 gG p0 p1 p2 p3 p4 p5 hsg hb6
      generalize wc = w6 at HSG T6 gsg ⊢
      obtain ⟨p0, p1, p2, p3, p4, p5⟩ := KP.out _ T6.out
      have KP6 := Lib.hid (fun W' (hW : Below w6.heap.size w6 W') => KP.out _ (T6.out.trans (hW.mono T6.out.size)))
      have C16 := Lib.hid (fun W' (hW : Below w6.heap.size w6 W') => (C1.out W' (T6.out.trans (hW.mono T6.out.size))).mono (fun e w' ⟨A, c, h1, h2, h3, _, h5⟩ => (show WaysMade w6 (L, er) W' e w' from ⟨A, c, h1, h2, h3, hW.trans (h3.mono hW.size), h5⟩)))
      have U0 := Lib.hid (Below.refl w6.heap.size w6)
      go_upto_region 5 with fail
      go_cut [8, 9] from 25 (fun s8 s9 w' => ∃ A c, s8 = .slice A L.length c ∧ s9 = .int .i64 er ∧ WaysIn w' A L ∧ Below w6.heap.size w6 w')
      case first =>
        --[
        go_region_held3 (fun W' => W'.cell? ⟨w1.heap.size, 0, none⟩ = some (.int .i64 p.ov) ∧ W'.cell? ⟨w1.heap.size, 1, none⟩ = some (.int .i64 p.ap) ∧ W'.cell? ⟨w1.heap.size, 2, none⟩ = some (.int .i64 p.se) ∧ W'.cell? ⟨w1.heap.size, 3, none⟩ = some (.int .i64 p.ho) ∧ W'.cell? ⟨w1.heap.size, 4, none⟩ = some (.slice S p.secs.length cS) ∧ W'.cell? ⟨w1.heap.size, 5, none⟩ = some (.slice (some ⟨bG, oG, none⟩) p.sigs.length cG))
          (first | with_reducible exact KP6.out _ U0.out.drew | with_reducible exact KP6.out _ hacc)
          (first | (go_at_call 9; (with_reducible refine (C16.out _ U0.out.drew).mono ?_); rintro e w' ⟨A1, c1, rfl, hW1, hbl, hacc, hz⟩))
        all_goals go_wp2_with fail
        all_goals go_meet
        all_goals exact ⟨A1, c1, rfl, rfl, hW1, hacc⟩
        --]
      case rest =>
        obtain ⟨A1, c1, rfl, rfl, hW1, hb7⟩ := hcut
        have Q1 := Lib.hid hW1
        have T7 := Lib.hid (T6.out.trans (hb7.mono T6.out.size))
        have B7 := Lib.hid (B5.out.trans (T7.out.mono B5.out.size))
        have HSG7 := Lib.hid ((hb7.block _ gsg).trans HSG.out)
        clear hW1 hb7 p0 p1 p2 p3 p4 p5 C1 C16 KP6 U0 HSG T6 gsg q0 q1 q2 hj bi DZ hz T0 RP gx
        generalize wc = w7 at Q1 T7 B7 HSG7 ⊢
        rcases HER.out with ⟨he, hL⟩ | ⟨he, -, -⟩
        · obtain rfl : er = 10 := he
          obtain rfl : L = [] := hL
          --[
          go_wp2_with fail
          refine (AW.out _).mono ?_; rintro e w8 ⟨rfl, hb8⟩
          go_wp2
          go_ret
          exact ⟨rfl, B7.out.trans (hb8.mono B7.out.size)⟩
          --]
        · obtain rfl : er = 0 := he
          have I7 := Lib.hid (I5.out.below T7.out)
          have KP7 := Lib.hid (fun W' (hW : Below w7.heap.size w7 W') => KP.out _ (T7.out.trans (hW.mono T7.out.size)))
          have gs7 := (Array.getElem?_eq_some_iff.1 HSG7.out).1
          have KG := Lib.hid (fun W' (hW : Below w7.heap.size w7 W') => (row3 ((hW.block _ gs7).trans HSG7.out)).1)
          go_wp2_with fail
          go_loopw [10] (fun v wr => ∃ n : Nat, n ≤ L.length ∧ v = .int .i64 n ∧ Below w7.heap.size w7 wr) (fun v _ => L.length - (intOf v).toNat)
          case atStart => exact ⟨0, Nat.zero_le _, rfl, Below.refl _ _⟩
          case round =>
            obtain ⟨n, hn, rfl, hB⟩ := hrel
            have HB := Lib.hid hB
            clear hB
            by_cases hlt : n < L.length
            · have hw := List.getElem?_eq_getElem hlt
              have hwm := List.getElem_mem hlt
              obtain ⟨bW, oW, S1, u1, rfl, gW, c0, c2, R1, hcap⟩ := (Q1.out.below HB.out).at hw
              have HR0 := HRE.out _ hwm
              have hpos : 0 < (L[n]).steps.length := HPO.out _ hwm
              have h16 : (L[n]).steps.length ≤ 16 := HST.out _ hwm
              generalize L[n] = va at hw c0 c2 R1 hcap HR0 hpos h16
              have d1 : decide ((n : Int) < (L.length : Int)) = true := dec_t (by omega)
              have HA := Lib.hid (heap_alloc_new wr (.cells #[.slice S1 va.steps.length u1, .int .i64 va.exit] 39))
              have XA := (Below.refl wr.heap.size wr).alloc (Nat.le_refl _) (.cells #[.slice S1 va.steps.length u1, .int .i64 va.exit] 39)
              have TA := Lib.hid (HB.out.trans (XA.mono HB.out.size))
              have RA := Lib.hid (R1.below rfl XA)
              have HRR := Lib.hid HR0
              clear hw hwm R1 HR0 XA
              go_upto_region 12 with fail
              generalize hwA : wr.alloc (.cells #[.slice S1 va.steps.length u1, .int .i64 va.exit] 39) = wA at HA TA RA ⊢
              clear hwA c0 c2
              generalize wr.heap.size = gw at HA ⊢
              have gA := (Array.getElem?_eq_some_iff.1 HA.out).1
              have KA := Lib.hid (fun W' (hW : Below wA.heap.size wA W') => And.intro (cell_of_row W' gw 0 _ _ _ ((hW.block _ gA).trans HA.out)) (cell_of_row W' gw 1 _ _ _ ((hW.block _ gA).trans HA.out)))
              have TW := Lib.hid (fun W' (hW : Below wA.heap.size wA W') => TA.out.trans (hW.mono TA.out.size))
              obtain ⟨s0, s1, s2⟩ := KG.out _ TA.out
              have W0 := Lib.hid (Below.refl wA.heap.size wA)
              go_quiet (fail)
              go_wp2_with fail
              go_loopw [12, 13, 14] (fun v1 v2 v3 w' => ∃ (k : Nat) (a e : Int), k ≤ va.steps.length ∧ v1 = .int .i64 a ∧ v2 = .int .i64 e ∧ v3 = .int .i64 k ∧ Cr.Reach p xs va k a e ∧ Below wA.heap.size wA w') (fun _ _ v3 _ => va.steps.length - (intOf v3).toNat)
              case atStart => exact ⟨0, _, _, Nat.zero_le _, rfl, rfl, rfl, HRR.out, below_drewN W0.out _⟩
              case round =>
                obtain ⟨k, a, e, hk, rfl, rfl, rfl, hRe, hBk⟩ := hrel
                have HRe := Lib.hid hRe
                have HBk := Lib.hid hBk
                clear hRe hBk s0 s1 s2
                obtain ⟨y0, y1⟩ := KA.out _ HBk.out
                obtain ⟨p0, p1, p2, p3, p4, p5⟩ := KP7.out _ (TW.out _ HBk.out)
                by_cases hkl : k < va.steps.length
                · have hy := List.getElem?_eq_getElem hkl
                  obtain ⟨b1, o1, rfl, g1, on1⟩ := (RA.out.below rfl HBk.out).at hkl
                  generalize va.steps[k] = y at hy on1
                  obtain ⟨r0, r1, r2⟩ := stp_on on1
                  rw [show k * LStp.m = k * 3 from rfl] at r0 r1 r2
                  obtain ⟨x1, x2, x3, x4, x5, x6⟩ := Cr.reach_next HRe.out hy
                  have dk : decide ((k : Int) < (va.steps.length : Int)) = true := dec_t (by omega)
                  have CN := Lib.hid (fun W' (hW : Below wA.heap.size wA W') => rwNext_any p S cS (some ⟨bG, oG, none⟩) cG a e W' (I7.out.below (TW.out _ hW)))
                  have HX2 := Lib.hid x2
                  have HX3 := Lib.hid x3
                  have HX4 := Lib.hid x4
                  have HX5 := Lib.hid x5
                  have HX6 := Lib.hid x6
                  generalize hnx : Wk.next p a e = nx at CN x1 HX2
                  obtain ⟨n1, n2, n3⟩ := nx
                  obtain rfl : n3 = true := x1
                  have CO := Lib.hid (fun W' (hW : Below wA.heap.size wA W') => rwOuts_any p S cS (some ⟨bG, oG, none⟩) cG n1 n2 W' (I7.out.below (TW.out _ hW)))
                  have HM := Lib.hid (show y ∈ Wk.outs p n1 n2 from HX2.out)
                  have hlo := Wk.outs_len p n1 n2
                  generalize Wk.outs p n1 n2 = lo at CO HM hlo
                  obtain ⟨ys, yf, yt⟩ := y
                  simp only at r0 r1 r2
                  clear hnx x2 x3 x4 x5 x6 on1 HX2 hy
                  go_wp2_with fail
                  refine (CN.out _ HBk.out).mono ?_; rintro e' w10 ⟨rfl, hb10⟩
                  have TB := Lib.hid (HBk.out.trans (hb10.mono HBk.out.size))
                  have v0 := (hb10.cell (p := ⟨b1, o1 + k * 3, none⟩) g1).trans r0
                  have v1 := (hb10.cell (p := ⟨b1, o1 + k * 3 + 1, none⟩) g1).trans r1
                  have v2 := (hb10.cell (p := ⟨b1, o1 + k * 3 + 2, none⟩) g1).trans r2
                  clear y0 y1 p0 p1 p2 p3 p4 p5 r0 r1 r2 g1 hb10
                  obtain ⟨y0, y1⟩ := KA.out _ TB.out
                  obtain ⟨p0, p1, p2, p3, p4, p5⟩ := KP7.out _ (TW.out _ TB.out)
                  have HYB := Lib.hid (heap_alloc_new w10 (stpO ⟨ys, yf, yt⟩))
                  have TC := Lib.hid (TB.out.alloc TB.out.size (stpO ⟨ys, yf, yt⟩))
                  have gY := (Array.getElem?_eq_some_iff.1 HYB.out).1
                  go_upto_region 18 with fail
                  clear p0 p1 p2 p3 p4 p5 y0 y1 v0 v1 v2
                  obtain ⟨p0, p1, p2, p3, p4, p5⟩ := KP7.out _ (TW.out _ TC.out)
                  go_wp2_with fail
                  clear p0 p1 p2 p3 p4 p5
                  refine (CO.out _ TC.out).mono ?_; rintro e' w11 ⟨Ao, co, rfl, hRo, hb11⟩
                  have TD := Lib.hid (TC.out.trans (hb11.mono TC.out.size))
                  have RO := Lib.hid hRo
                  have HYD := Lib.hid ((hb11.block _ gY).trans HYB.out)
                  have gYD := (Array.getElem?_eq_some_iff.1 HYD.out).1
                  have KY := Lib.hid (fun W' (hW : Below w11.heap.size w11 W') => (row3 ((hW.block _ gYD).trans HYD.out)).1)
                  have V0 := Lib.hid (Below.refl w11.heap.size w11)
                  clear hb11 hRo gY HYB TC
                  go_wp2_with fail
                  go_loopw [20, 21] (fun v1 v2 w' => ∃ jj : Nat, jj ≤ lo.length ∧ v1 = .bool (metS lo ⟨ys, yf, yt⟩ jj) ∧ v2 = .int .i64 jj ∧ Below w11.heap.size w11 w') (fun _ v2 _ => lo.length - (intOf v2).toNat)
                  case atStart => exact ⟨0, Nat.zero_le _, rfl, rfl, V0.out⟩
                  case round =>
                    obtain ⟨jj, hjj, rfl, rfl, hBj⟩ := hrel
                    have HBj := Lib.hid hBj
                    clear hBj
                    by_cases hjl : jj < lo.length
                    · have hq := List.getElem?_eq_getElem hjl
                      obtain ⟨b2, o2, rfl, g2, on2⟩ := (RO.out.below rfl HBj.out).at hjl
                      generalize lo[jj] = q at hq on2
                      obtain ⟨t0, t1, t2⟩ := stp_on on2
                      rw [show jj * LStp.m = jj * 3 from rfl] at t0 t1 t2
                      obtain ⟨⟨z0, z1, z2⟩, zz⟩ := And.intro (KY.out _ HBj.out) trivial
                      have dj : decide ((jj : Int) < (lo.length : Int)) = true := dec_t (by omega)
                      have HN := Lib.hid (metS_next (z := ⟨ys, yf, yt⟩) hq)
                      clear hq on2
                      --[
                      cases hsn : metS lo ⟨ys, yf, yt⟩ jj with
                      | true =>
                        rw [hsn, Bool.true_or] at HN
                        clear hsn
                        go_upto_region 23 with fail
                        go_quiet (fail)
                        go_wp2_with fail
                        go_roundw
                        case rel => exact ⟨jj + 1, by omega, by rw [HN.out], by go_num, below_drewN HBj.out _⟩
                        case measure => simp [intOf]; omega
                      | false =>
                        rw [hsn, Bool.false_or] at HN
                        have Q := fun W => bin_stps W q ⟨ys, yf, yt⟩
                        generalize decide (q = (⟨ys, yf, yt⟩ : Wk.Stp)) = bq at Q HN
                        clear hsn
                        go_upto_region 23 with fail
                        go_quiet (fail)
                        go_wp2_with fail
                        go_roundw
                        case rel => exact ⟨jj + 1, by omega, by rw [HN.out], by go_num, below_drewN HBj.out _⟩
                        case measure => simp [intOf]; omega
                      --]
                    · obtain rfl : jj = lo.length := by omega
                      have dj : decide ((lo.length : Int) < (lo.length : Int)) = false := dec_f (by omega)
                      rw [metS_all HM.out]
                      have TE := Lib.hid (TD.out.trans (HBj.out.mono TD.out.size))
                      obtain ⟨z0, z1, z2⟩ := KY.out _ HBj.out
                      obtain ⟨y0, y1⟩ := KA.out _ TE.out
                      obtain ⟨s0, s1, s2⟩ := KG.out _ (TW.out _ TE.out)
                      have E1 : (ys == xs) = false := by rw [beq_eq_false_iff_ne]; exact HX3.out
                      have hku : k ≤ u1 := Nat.le_trans hk hcap
                      have hku2 : (k : Int) ≤ (u1 : Int) := by omega
                      have CX := Lib.hid (fun W' (hW : Below wA.heap.size wA W') => show Calls Try.prog 14 #[.slice (some ⟨b1, o1, none⟩) k u1, .int .i64 ys] W' (fun e w' => e = .returned (.bool false) ∧ W' = w') from by
                        have h := rwWithin_any (some ⟨b1, o1, none⟩) u1 (va.steps.take k) ys W' ((row_take RA.out k).below rfl hW) (by rw [List.length_take]; omega)
                        have h4 : Wk.within (va.steps.take k) ys = false := HX4.out
                        rw [h4, List.length_take, Nat.min_eq_left (Nat.le_of_lt hkl)] at h
                        exact h)
                      --[
                      have HSQ := Lib.hid (fun (h : k + 1 < va.steps.length) => HX5.out h)
                      have q27 : IntKind.i64.wrap ((va.steps.length : Int) - 1) = ((va.steps.length - 1 : Nat) : Int) := by rw [IntWalk.i64_in _ (by omega)]; omega
                      have CS := Lib.hid (fun W' (hW : Below wA.heap.size wA W') => rwSignal_any p S cS (some ⟨bG, oG, none⟩) cG ys yt W' (I7.out.below (TW.out _ hW)))
                      have HRN := Lib.hid (show Cr.Reach p xs va (k + 1) ys yt from HX6.out)
                      go_upto_region 24 with fail
                      go_cut [146] from 86 to 163 (fun s146 w' => s146 = .bool false ∧ Below wr.heap.size wr w')
                      case first =>
                        have R0 := Lib.hid (Below.refl wr.heap.size wr)
                        have KK := Lib.hid (fun W' (hW : Below wr.heap.size wr W') => show W'.cell? ⟨w10.heap.size, 0, none⟩ = some (.int .i64 ys) ∧ W'.cell? ⟨w5.heap.size, 1, none⟩ = some (.int .i64 xs) ∧ W'.cell? ⟨gw, 0, none⟩ = some (.slice (some ⟨b1, o1, none⟩) va.steps.length u1) from
                          ⟨(KY.out _ (HBj.out.trans (hW.mono HBj.out.size))).1, (KG.out _ (TW.out _ (TE.out.trans (hW.mono TE.out.size)))).2.1, (KA.out _ (TE.out.trans (hW.mono TE.out.size))).1⟩)
                        have CM := Lib.hid (fun W' (hW : Below wr.heap.size wr W') => Made.of (w := wr) hW ((CX.out W' (TE.out.trans (hW.mono TE.out.size))).mono (fun e2 w2 (h : e2 = .returned (.bool false) ∧ W' = w2) => ⟨h.1, h.2 ▸ Below.refl _ _⟩)))
                        clear z0 z1 z2 y0 y1 s0 s1 s2
                        go_region_held3 (fun W' => W'.cell? ⟨w10.heap.size, 0, none⟩ = some (.int .i64 ys) ∧ W'.cell? ⟨w5.heap.size, 1, none⟩ = some (.int .i64 xs) ∧ W'.cell? ⟨gw, 0, none⟩ = some (.slice (some ⟨b1, o1, none⟩) va.steps.length u1))
                          (first | with_reducible exact KK.out _ R0.out.drew | with_reducible exact KK.out _ hacc)
                          (first | (go_at_call 14; (with_reducible refine (CM.out _ R0.out.drew).mono ?_); rintro e w' ⟨rfl, hbl, hacc, hz⟩))
                        all_goals go_wp2_with fail
                        all_goals go_meet
                        all_goals exact ⟨rfl, hacc⟩
                      case rest =>
                      obtain ⟨rfl, hb24⟩ := hcut
                      have TF := Lib.hid (TE.out.trans (hb24.mono TE.out.size))
                      have KYF := KY.out _ (HBj.out.trans (hb24.mono HBj.out.size))
                      clear hb24 z0 z1 z2 y0 y1 s0 s1 s2
                      generalize wc = wr at TF KYF ⊢
                      obtain ⟨z0, z1, z2⟩ := KYF
                      go_upto_region 26 with fail
                      go_quiet (fail)
                      have TG := Lib.hid (below_drewN TF.out nq)
                      clear z0 z1 z2
                      obtain ⟨y0, y1⟩ := KA.out _ TG.out
                      obtain ⟨p0, p1, p2, p3, p4, p5⟩ := KP7.out _ (TW.out _ TG.out)
                      by_cases hk1 : k + 1 < va.steps.length
                      · have d27 : decide ((k : Int) < ((va.steps.length - 1 : Nat) : Int)) = true := dec_t (by omega)
                        have d28 : decide (0 ≤ Wk.signal p ys yt) = false := dec_f (by have h5 : Wk.signal p ys yt < 0 := HSQ.out hk1; omega)
                        go_wp2_with fail
                        refine (CS.out _ TG.out).mono ?_; rintro e2 w12 ⟨rfl, hb12⟩
                        have TH := Lib.hid (TG.out.trans (hb12.mono TG.out.size))
                        clear hb12
                        go_wp2_with fail
                        go_roundw
                        case rel => exact ⟨k + 1, ys, yt, hkl, rfl, rfl, by go_num, HRN.out, TH.out⟩
                        case measure => simp [intOf]; omega
                      · have d27 : decide ((k : Int) < ((va.steps.length - 1 : Nat) : Int)) = false := dec_f (by omega)
                        go_wp2_with fail
                        go_roundw
                        case rel => exact ⟨k + 1, ys, yt, hkl, rfl, rfl, by go_num, HRN.out, TG.out⟩
                        case measure => simp [intOf]; omega
                      --]
                · obtain rfl : k = va.steps.length := by omega
                  --[
                  obtain ⟨h1, h2⟩ := Cr.reach_end HRe.out
                  have dk : decide ((va.steps.length : Int) < (va.steps.length : Int)) = false := dec_f (by omega)
                  have CN := Lib.hid (fun W' (hW : Below wA.heap.size wA W') => rwNext_any p S cS (some ⟨bG, oG, none⟩) cG a e W' (I7.out.below (TW.out _ hW)))
                  have CS := Lib.hid (fun W' (hW : Below wA.heap.size wA W') => rwSignal_any p S cS (some ⟨bG, oG, none⟩) cG a e W' (I7.out.below (TW.out _ hW)))
                  generalize Wk.next p a e = nx at CN h1
                  generalize Wk.signal p a e = sg at CS h1 h2
                  obtain ⟨n1, n2, n3⟩ := nx
                  simp only at h1
                  have L0 : ((va.steps.length : Int) == 0) = false := by rw [beq_eq_false_iff_ne]; omega
                  have L1 : decide (16 < (va.steps.length : Int)) = false := dec_f (by omega)
                  have EX : (va.exit != sg) = false := by rw [h2]; simp
                  have HZ : (decide (va.exit < 0) = true ∧ n3 = false) ∨ decide (va.exit < 0) = false := by
                    by_cases h0 : va.exit < 0
                    · exact .inl ⟨dec_t h0, h1.resolve_left (by omega)⟩
                    · exact .inr (dec_f h0)
                  clear h1 h2
                  go_wp2_with fail
                  refine (CN.out _ HBk.out).mono ?_; rintro e' w10 ⟨rfl, hb10⟩
                  have TB := Lib.hid (HBk.out.trans (hb10.mono HBk.out.size))
                  clear y0 y1 p0 p1 p2 p3 p4 p5 hb10
                  obtain ⟨y0, y1⟩ := KA.out _ TB.out
                  obtain ⟨p0, p1, p2, p3, p4, p5⟩ := KP7.out _ (TW.out _ TB.out)
                  go_upto_region 30 with fail
                  go_cut [198] from 72 to 198 (fun s198 w' => s198 = .bool false ∧ Below w10.heap.size w10 w')
                  case first =>
                    have R0 := Lib.hid (Below.refl w10.heap.size w10)
                    have KK := Lib.hid (fun W' (hW : Below w10.heap.size w10 W') => show ((W'.cell? ⟨gw, 0, none⟩ = some (.slice S1 va.steps.length u1) ∧ W'.cell? ⟨gw, 1, none⟩ = some (.int .i64 va.exit)) ∧ W'.cell? ⟨w1.heap.size, 0, none⟩ = some (.int .i64 p.ov) ∧ W'.cell? ⟨w1.heap.size, 1, none⟩ = some (.int .i64 p.ap) ∧ W'.cell? ⟨w1.heap.size, 2, none⟩ = some (.int .i64 p.se) ∧ W'.cell? ⟨w1.heap.size, 3, none⟩ = some (.int .i64 p.ho) ∧ W'.cell? ⟨w1.heap.size, 4, none⟩ = some (.slice S p.secs.length cS) ∧ W'.cell? ⟨w1.heap.size, 5, none⟩ = some (.slice (some ⟨bG, oG, none⟩) p.sigs.length cG)) from
                      ⟨KA.out _ (TB.out.trans (hW.mono TB.out.size)), KP7.out _ (TW.out _ (TB.out.trans (hW.mono TB.out.size)))⟩)
                    have CM := Lib.hid (fun W' (hW : Below w10.heap.size w10 W') => Made.of (w := w10) hW (CS.out W' (TB.out.trans (hW.mono TB.out.size))))
                    rcases HZ with ⟨D, rfl⟩ | D
                    · go_region_held3 (fun W' => (W'.cell? ⟨gw, 0, none⟩ = some (.slice S1 va.steps.length u1) ∧ W'.cell? ⟨gw, 1, none⟩ = some (.int .i64 va.exit)) ∧ W'.cell? ⟨w1.heap.size, 0, none⟩ = some (.int .i64 p.ov) ∧ W'.cell? ⟨w1.heap.size, 1, none⟩ = some (.int .i64 p.ap) ∧ W'.cell? ⟨w1.heap.size, 2, none⟩ = some (.int .i64 p.se) ∧ W'.cell? ⟨w1.heap.size, 3, none⟩ = some (.int .i64 p.ho) ∧ W'.cell? ⟨w1.heap.size, 4, none⟩ = some (.slice S p.secs.length cS) ∧ W'.cell? ⟨w1.heap.size, 5, none⟩ = some (.slice (some ⟨bG, oG, none⟩) p.sigs.length cG))
                        (first | with_reducible exact KK.out _ R0.out.drew | with_reducible exact KK.out _ hacc)
                        (first | (go_at_call 15; (with_reducible refine (CM.out _ R0.out.drew).mono ?_); rintro e w' ⟨rfl, hbl, hacc, hz⟩))
                      all_goals go_wp2_with fail
                      all_goals go_meet
                      all_goals exact ⟨rfl, hacc⟩
                    · refine wp_region_held_drew (S := fun W' => (W'.cell? ⟨gw, 0, none⟩ = some (.slice S1 va.steps.length u1) ∧ W'.cell? ⟨gw, 1, none⟩ = some (.int .i64 va.exit)) ∧ W'.cell? ⟨w1.heap.size, 0, none⟩ = some (.int .i64 p.ov) ∧ W'.cell? ⟨w1.heap.size, 1, none⟩ = some (.int .i64 p.ap) ∧ W'.cell? ⟨w1.heap.size, 2, none⟩ = some (.int .i64 p.se) ∧ W'.cell? ⟨w1.heap.size, 3, none⟩ = some (.int .i64 p.ho) ∧ W'.cell? ⟨w1.heap.size, 4, none⟩ = some (.slice S p.secs.length cS) ∧ W'.cell? ⟨w1.heap.size, 5, none⟩ = some (.slice (some ⟨bG, oG, none⟩) p.sigs.length cG)) (by kernel_rfl) ?_ (fun hHeld => ?_)
                      · exact KK.out _ R0.out.drew
                      (refine wpAnyH_take (i := 0) (v := ?_) rfl (by kernel_rfl) (by kernel_rfl) (by kernel_rfl) (fun _ _ _ h => h) (Or.inl ⟨by rfl, ?_⟩) (by assumption) ?_; rotate_left; (focus (intro w hSw; (try dsimp only at hSw); (try simp only [List.getElem_toArray, List.getElem_cons_zero]); go_simp; try with_reducible rfl)); (try simp only [Act.put, List.getElem_toArray, List.getElem_cons_zero, List.setIfInBounds_toArray, List.set_cons_zero, List.set_cons_succ]))
                      (refine wpAnyH_take (i := 1) (v := ?_) rfl (by kernel_rfl) (by kernel_rfl) (by kernel_rfl) (fun _ _ _ h => h) (Or.inl ⟨by rfl, ?_⟩) (by assumption) ?_; rotate_left; (focus (intro w hSw; (try dsimp only at hSw); (try simp only [List.getElem_toArray, List.getElem_cons_succ, List.getElem_cons_zero]); go_simp; try with_reducible rfl)); (try simp only [Act.put, List.getElem_toArray, List.getElem_cons_succ, List.getElem_cons_zero, List.setIfInBounds_toArray, List.set_cons_zero, List.set_cons_succ]))
                      (refine wpAnyH_take (i := 2) (v := ?_) rfl (by kernel_rfl) (by kernel_rfl) (by kernel_rfl) (fun _ _ _ h => h) (Or.inl ⟨by rfl, ?_⟩) (by assumption) ?_; rotate_left; (focus (intro w hSw; (try dsimp only at hSw); (try simp only [List.getElem_toArray, List.getElem_cons_succ, List.getElem_cons_zero]); go_simp; try with_reducible rfl)); (try simp only [Act.put, List.getElem_toArray, List.getElem_cons_succ, List.getElem_cons_zero, List.setIfInBounds_toArray, List.set_cons_zero, List.set_cons_succ]))
                      (refine wpAnyH_take (i := 3) (v := ?_) rfl (by kernel_rfl) (by kernel_rfl) (by kernel_rfl) (fun _ _ _ h => h) (Or.inl ⟨by rfl, ?_⟩) (by assumption) ?_; rotate_left; (focus (intro w hSw; (try dsimp only at hSw); (try simp only [List.getElem_toArray, List.getElem_cons_succ, List.getElem_cons_zero]); go_simp; try with_reducible rfl)); (try simp only [Act.put, List.getElem_toArray, List.getElem_cons_succ, List.getElem_cons_zero, List.setIfInBounds_toArray, List.set_cons_zero, List.set_cons_succ]))
                      (refine wpAnyH_take (i := 4) (v := ?_) rfl (by kernel_rfl) (by kernel_rfl) (by kernel_rfl) (fun _ _ _ h => h) (Or.inl ⟨by rfl, ?_⟩) (by assumption) ?_; rotate_left; (focus (intro w hSw; (try dsimp only at hSw); (try simp only [List.getElem_toArray, List.getElem_cons_succ, List.getElem_cons_zero]); go_simp; try with_reducible rfl)); (try simp only [Act.put, List.getElem_toArray, List.getElem_cons_succ, List.getElem_cons_zero, List.setIfInBounds_toArray, List.set_cons_zero, List.set_cons_succ]))
                      (refine wpAnyH_take (i := 5) (v := ?_) rfl (by kernel_rfl) (by kernel_rfl) (by kernel_rfl) (fun _ _ _ h => h) (Or.inl ⟨by rfl, ?_⟩) (by assumption) ?_; rotate_left; (focus (intro w hSw; (try dsimp only at hSw); (try simp only [List.getElem_toArray, List.getElem_cons_succ, List.getElem_cons_zero]); go_simp; try with_reducible rfl)); (try simp only [Act.put, List.getElem_toArray, List.getElem_cons_succ, List.getElem_cons_zero, List.setIfInBounds_toArray, List.set_cons_zero, List.set_cons_succ]))
                      (refine wpAnyH_take (i := 6) (v := ?_) rfl (by kernel_rfl) (by kernel_rfl) (by kernel_rfl) (fun _ _ _ h => h) (Or.inl ⟨by rfl, ?_⟩) (by assumption) ?_; rotate_left; (focus (intro w hSw; (try dsimp only at hSw); (try simp only [List.getElem_toArray, List.getElem_cons_succ, List.getElem_cons_zero]); go_simp; try with_reducible rfl)); (try simp only [Act.put, List.getElem_toArray, List.getElem_cons_succ, List.getElem_cons_zero, List.setIfInBounds_toArray, List.set_cons_zero, List.set_cons_succ]))
                      (refine wpAnyH_take (i := 7) (v := ?_) rfl (by kernel_rfl) (by kernel_rfl) (by kernel_rfl) (fun _ _ _ h => h) (Or.inl ⟨by rfl, ?_⟩) (by assumption) ?_; rotate_left; (focus (intro w hSw; (try dsimp only at hSw); (try simp only [List.getElem_toArray, List.getElem_cons_succ, List.getElem_cons_zero]); go_simp; try with_reducible rfl)); (try simp only [Act.put, List.getElem_toArray, List.getElem_cons_succ, List.getElem_cons_zero, List.setIfInBounds_toArray, List.set_cons_zero, List.set_cons_succ]))
                      (refine wpAnyH_take (i := 8) (v := ?_) rfl (by kernel_rfl) (by kernel_rfl) (by kernel_rfl) (fun _ _ _ h => h) (Or.inl ⟨by rfl, ?_⟩) (by assumption) ?_; rotate_left; (focus (intro w hSw; (try dsimp only at hSw); (try simp only [List.getElem_toArray, List.getElem_cons_succ, List.getElem_cons_zero]); go_simp; try with_reducible rfl)); (try simp only [Act.put, List.getElem_toArray, List.getElem_cons_succ, List.getElem_cons_zero, List.setIfInBounds_toArray, List.set_cons_zero, List.set_cons_succ]))
                      (refine wpAnyH_take (i := 9) (v := ?_) rfl (by kernel_rfl) (by kernel_rfl) (by kernel_rfl) (fun _ _ _ h => h) (Or.inl ⟨by rfl, ?_⟩) (by assumption) ?_; rotate_left; (focus (intro w hSw; (try dsimp only at hSw); (try simp only [List.getElem_toArray, List.getElem_cons_succ, List.getElem_cons_zero]); go_simp; try with_reducible rfl)); (try simp only [Act.put, List.getElem_toArray, List.getElem_cons_succ, List.getElem_cons_zero, List.setIfInBounds_toArray, List.set_cons_zero, List.set_cons_succ]))
                      (refine wpAnyH_take (i := 10) (v := ?_) rfl (by kernel_rfl) (by kernel_rfl) (by kernel_rfl) (fun _ _ _ h => h) (Or.inl ⟨by rfl, ?_⟩) (by assumption) ?_; rotate_left; (focus (intro w hSw; (try dsimp only at hSw); (try simp only [List.getElem_toArray, List.getElem_cons_succ, List.getElem_cons_zero]); go_simp; try with_reducible rfl)); (try simp only [Act.put, List.getElem_toArray, List.getElem_cons_succ, List.getElem_cons_zero, List.setIfInBounds_toArray, List.set_cons_zero, List.set_cons_succ]))
                      (refine wpAnyH_take (i := 11) (v := ?_) rfl (by kernel_rfl) (by kernel_rfl) (by kernel_rfl) (fun _ _ _ h => h) (Or.inl ⟨by rfl, ?_⟩) (by assumption) ?_; rotate_left; (focus (intro w hSw; (try dsimp only at hSw); (try simp only [List.getElem_toArray, List.getElem_cons_succ, List.getElem_cons_zero]); go_simp; try with_reducible rfl)); (try simp only [Act.put, List.getElem_toArray, List.getElem_cons_succ, List.getElem_cons_zero, List.setIfInBounds_toArray, List.set_cons_zero, List.set_cons_succ]))
                      (refine wpAnyH_take (i := 12) (v := ?_) rfl (by kernel_rfl) (by kernel_rfl) (by kernel_rfl) (fun _ _ _ h => h) (Or.inl ⟨by rfl, ?_⟩) (by assumption) ?_; rotate_left; (focus (intro w hSw; (try dsimp only at hSw); (try simp only [List.getElem_toArray, List.getElem_cons_succ, List.getElem_cons_zero]); go_simp; try with_reducible rfl)); (try simp only [Act.put, List.getElem_toArray, List.getElem_cons_succ, List.getElem_cons_zero, List.setIfInBounds_toArray, List.set_cons_zero, List.set_cons_succ]))
                      (refine wpAnyH_take (i := 13) (v := ?_) rfl (by kernel_rfl) (by kernel_rfl) (by kernel_rfl) (fun _ _ _ h => h) (Or.inl ⟨by rfl, ?_⟩) (by assumption) ?_; rotate_left; (focus (intro w hSw; (try dsimp only at hSw); (try simp only [List.getElem_toArray, List.getElem_cons_succ, List.getElem_cons_zero]); go_simp; try with_reducible rfl)); (try simp only [Act.put, List.getElem_toArray, List.getElem_cons_succ, List.getElem_cons_zero, List.setIfInBounds_toArray, List.set_cons_zero, List.set_cons_succ]))
                      (refine wpAnyH_take (i := 14) (v := ?_) rfl (by kernel_rfl) (by kernel_rfl) (by kernel_rfl) (fun _ _ _ h => h) (Or.inl ⟨by rfl, ?_⟩) (by assumption) ?_; rotate_left; (focus (intro w hSw; (try dsimp only at hSw); (try simp only [List.getElem_toArray, List.getElem_cons_succ, List.getElem_cons_zero]); go_simp; try with_reducible rfl)); (try simp only [Act.put, List.getElem_toArray, List.getElem_cons_succ, List.getElem_cons_zero, List.setIfInBounds_toArray, List.set_cons_zero, List.set_cons_succ]))
                      (refine wpAnyH_take (i := 15) (v := ?_) rfl (by kernel_rfl) (by kernel_rfl) (by kernel_rfl) (fun _ _ _ h => h) (Or.inl ⟨by rfl, ?_⟩) (by assumption) ?_; rotate_left; (focus (intro w hSw; (try dsimp only at hSw); (try simp only [List.getElem_toArray, List.getElem_cons_succ, List.getElem_cons_zero]); go_simp; try with_reducible rfl)); (try simp only [Act.put, List.getElem_toArray, List.getElem_cons_succ, List.getElem_cons_zero, List.setIfInBounds_toArray, List.set_cons_zero, List.set_cons_succ]))
                      (refine wpAnyH_ready (rs := [16]) (by kernel_rfl) (by simp) ?_; refine AllReadyH.cons rfl (fun K hK => ?_) AllReadyH.nil; ((try simp only [List.getElem_toArray, List.getElem_cons_succ, List.getElem_cons_zero]); go_simp; first | (go_at_call 15; (with_reducible refine (CM.out _ R0.out.drew).mono ?_); rintro e w' ⟨rfl, hbl, hacc, hz⟩)); (refine hK.out _ _ ?_ (fun hHeld => ?_)); (focus ((try dsimp only); exact KK.out _ hacc)); clear hK K; (try simp only [Act.put, List.getElem_toArray, List.getElem_cons_succ, List.getElem_cons_zero, List.setIfInBounds_toArray, List.set_cons_zero, List.set_cons_succ]))
                      (refine wpAnyH_take (i := 17) (v := ?_) rfl (by kernel_rfl) (by kernel_rfl) (by kernel_rfl) (fun _ _ _ h => h) (Or.inl ⟨by rfl, ?_⟩) (by assumption) ?_; rotate_left; (focus (intro w hSw; (try dsimp only at hSw); (try simp only [List.getElem_toArray, List.getElem_cons_succ, List.getElem_cons_zero]); go_simp; try with_reducible rfl)); (try simp only [Act.put, List.getElem_toArray, List.getElem_cons_succ, List.getElem_cons_zero, List.setIfInBounds_toArray, List.set_cons_zero, List.set_cons_succ]))
                      (refine wpAnyH_take (i := 18) (v := ?_) rfl (by kernel_rfl) (by kernel_rfl) (by kernel_rfl) (fun _ _ _ h => h) (Or.inl ⟨by rfl, ?_⟩) (by assumption) ?_; rotate_left; (focus (intro w hSw; (try dsimp only at hSw); (try simp only [List.getElem_toArray, List.getElem_cons_succ, List.getElem_cons_zero]); go_simp; try with_reducible rfl)); (try simp only [Act.put, List.getElem_toArray, List.getElem_cons_succ, List.getElem_cons_zero, List.setIfInBounds_toArray, List.set_cons_zero, List.set_cons_succ]))
                      (refine wpAnyH_take (i := 19) (v := ?_) rfl (by kernel_rfl) (by kernel_rfl) (by kernel_rfl) (fun _ _ _ h => h) (Or.inl ⟨by rfl, ?_⟩) (by assumption) ?_; rotate_left; (focus (intro w hSw; (try dsimp only at hSw); (try simp only [List.getElem_toArray, List.getElem_cons_succ, List.getElem_cons_zero]); go_simp; try with_reducible rfl)); (try simp only [Act.put, List.getElem_toArray, List.getElem_cons_succ, List.getElem_cons_zero, List.setIfInBounds_toArray, List.set_cons_zero, List.set_cons_succ]))
                      (refine wpAnyH_take (i := 20) (v := ?_) rfl (by kernel_rfl) (by kernel_rfl) (by kernel_rfl) (fun _ _ _ h => h) (Or.inl ⟨by rfl, ?_⟩) (by assumption) ?_; rotate_left; (focus (intro w hSw; (try dsimp only at hSw); (try simp only [List.getElem_toArray, List.getElem_cons_succ, List.getElem_cons_zero]); go_simp; try with_reducible rfl)); (try simp only [Act.put, List.getElem_toArray, List.getElem_cons_succ, List.getElem_cons_zero, List.setIfInBounds_toArray, List.set_cons_zero, List.set_cons_succ]))
                      (refine wpAnyH_take (i := 21) (v := ?_) rfl (by kernel_rfl) (by kernel_rfl) (by kernel_rfl) (fun _ _ _ h => h) (Or.inl ⟨by rfl, ?_⟩) (by assumption) ?_; rotate_left; (focus (intro w hSw; (try dsimp only at hSw); (try simp only [List.getElem_toArray, List.getElem_cons_succ, List.getElem_cons_zero]); go_simp; try with_reducible rfl)); (try simp only [Act.put, List.getElem_toArray, List.getElem_cons_succ, List.getElem_cons_zero, List.setIfInBounds_toArray, List.set_cons_zero, List.set_cons_succ]))
                      (refine wpAnyH_take (i := 22) (v := ?_) rfl (by kernel_rfl) (by kernel_rfl) (by kernel_rfl) (fun _ _ _ h => h) (Or.inl ⟨by rfl, ?_⟩) (by assumption) ?_; rotate_left; (focus (intro w hSw; (try dsimp only at hSw); (try simp only [List.getElem_toArray, List.getElem_cons_succ, List.getElem_cons_zero]); go_simp; try with_reducible rfl)); (try simp only [Act.put, List.getElem_toArray, List.getElem_cons_succ, List.getElem_cons_zero, List.setIfInBounds_toArray, List.set_cons_zero, List.set_cons_succ]))
                      (refine wpAnyH_take (i := 23) (v := ?_) rfl (by kernel_rfl) (by kernel_rfl) (by kernel_rfl) (fun _ _ _ h => h) (Or.inl ⟨by rfl, ?_⟩) (by assumption) ?_; rotate_left; (focus (intro w hSw; (try dsimp only at hSw); (try simp only [List.getElem_toArray, List.getElem_cons_succ, List.getElem_cons_zero]); go_simp; try with_reducible rfl)); (try simp only [Act.put, List.getElem_toArray, List.getElem_cons_succ, List.getElem_cons_zero, List.setIfInBounds_toArray, List.set_cons_zero, List.set_cons_succ]))
                      (refine wpAnyH_take (i := 24) (v := undef) rfl (by kernel_rfl) (by kernel_rfl) (by kernel_rfl) (fun _ _ _ h => h) (Or.inr ⟨by rfl, rfl⟩) (by assumption) ?_; (try simp only [Act.put, List.getElem_toArray, List.getElem_cons_succ, List.getElem_cons_zero, List.setIfInBounds_toArray, List.set_cons_zero, List.set_cons_succ]))
                      (refine wpAnyH_take (i := 25) (v := ?_) rfl (by kernel_rfl) (by kernel_rfl) (by kernel_rfl) (fun _ _ _ h => h) (Or.inl ⟨by rfl, ?_⟩) (by assumption) ?_; rotate_left; (focus (intro w hSw; (try dsimp only at hSw); (try simp only [List.getElem_toArray, List.getElem_cons_succ, List.getElem_cons_zero]); go_simp; try with_reducible rfl)); (try simp only [Act.put, List.getElem_toArray, List.getElem_cons_succ, List.getElem_cons_zero, List.setIfInBounds_toArray, List.set_cons_zero, List.set_cons_succ]))
                      (refine wpAnyH_take (i := 26) (v := ?_) rfl (by kernel_rfl) (by kernel_rfl) (by kernel_rfl) (fun _ _ _ h => h) (Or.inl ⟨by rfl, ?_⟩) (by assumption) ?_; rotate_left; (focus (intro w hSw; (try dsimp only at hSw); (try simp only [List.getElem_toArray, List.getElem_cons_succ, List.getElem_cons_zero]); go_simp; try with_reducible rfl)); (try simp only [Act.put, List.getElem_toArray, List.getElem_cons_succ, List.getElem_cons_zero, List.setIfInBounds_toArray, List.set_cons_zero, List.set_cons_succ]))
                      (refine wpAnyH_done (by kernel_rfl) ?_ _)
                      all_goals go_wp2_with fail
                      all_goals go_meet
                      all_goals exact ⟨rfl, hacc⟩
                  case rest =>
                  obtain ⟨rfl, hb30⟩ := hcut
                  have TF := Lib.hid (TB.out.trans (hb30.mono TB.out.size))
                  clear hb30 y0 y1 p0 p1 p2 p3 p4 p5
                  generalize wc = w11 at TF ⊢
                  go_wp2_with fail
                  go_roundw
                  case rel => exact ⟨n + 1, by omega, by go_num, TW.out _ TF.out⟩
                  case measure => simp [intOf]; omega
                  --]
            · obtain rfl : n = L.length := by omega
              go_wp2_with fail
              refine (AW.out _).mono ?_; rintro e w8 ⟨rfl, hb8⟩
              have B8 := Lib.hid (B7.out.trans (HB.out.mono B7.out.size))
              go_wp2
              go_ret
              exact ⟨rfl, B8.out.trans (hb8.mono B8.out.size)⟩
end Go.Proofs.Ytakdpggdjllnpaa
