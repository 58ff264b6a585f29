/-
  Texts of this claim, merged: WalkTurnsWalk.
-/
import Derived.Test.YtgbeebjbmbikiaaMg15
import Derived.Test.YtgbeebjbmbikiaaMg17
/-
  The walk of the law WalkTurns: it returns true.
-/
namespace Go.Proofs.Ytgbeebjbmbikiaa
open Go.RowKit

set_option maxHeartbeats 8000000 in
set_option maxRecDepth 100000 in
theorem walkTurns_walk (s : ByteArray) (W : World) (_ws : s.size ≤ maxLen) :
    Calls Try.prog 4 #[.string s] W (OneIs (.bool true) W) := by
  have AW := Lib.hid wkAwake_any
  cases hm : madeP s.data.toList with
  | none =>
    have CM := Lib.hid (fun W => made_none hm W)
    clear hm
    go_enter Try.func4, Try.ntmps4
    go_wp2_with fail
    refine (CM.out _).mono ?_; rintro e w1 ⟨p, S, cS, G, cG, rfl, hb1⟩
    have B1 := Lib.hid (hb1.alloc hb1.size (planO p S cS G cG))
    clear hb1
    go_wp2_with fail
    refine (AW.out _).mono ?_; rintro e w2 ⟨rfl, hb2⟩
    go_wp2
    go_ret
    exact ⟨rfl, B1.out.trans (hb2.mono B1.out.size)⟩
  | some p =>
    have CM := Lib.hid (fun W => made_some hm W)
    obtain ⟨hfit, L, hO, hS, hp⟩ := madeP_some hm
    have hfew := hfit.few
    have WY := Lib.hid (Wk.next_ways hO hS)
    rw [← hp] at WY
    clear hm hfit hO hS hp
    go_enter Try.func4, Try.ntmps4
    go_wp2_with fail
    refine (CM.out _).mono ?_; rintro e w1 ⟨S, cS, G, cG, rfl, pin, hb1⟩
    have X1 := (Below.refl w1.heap.size w1).alloc (Nat.le_refl _) (planO p S cS G cG)
    have B5 := Lib.hid (hb1.trans (X1.mono hb1.size))
    have I5 := Lib.hid (pin.below X1)
    have RP := Lib.hid (heap_alloc_new w1 (planO p S cS G cG))
    have gx := (Array.getElem?_eq_some_iff.1 RP.out).1
    clear hb1 X1 pin CM
    go_wp2_with fail
    generalize w1.alloc (planO p S cS G cG) = w5 at B5 I5 RP gx ⊢
    have KP := Lib.hid (fun W' (hW : Below w5.heap.size w5 W') => (row6 ((hW.block _ gx).trans RP.out)).1)
    clear gx RP
    go_loopw [5] (fun i wr => ∃ k : Nat, k ≤ p.secs.length ∧ i = .int .i64 k ∧ Below w5.heap.size w5 wr) (fun i _ => p.secs.length - (intOf i).toNat)
    case atStart => exact ⟨0, Nat.zero_le _, rfl, Below.refl _ _⟩
    case round =>
      obtain ⟨k, hk, rfl, hB⟩ := hrel
      have HB := Lib.hid hB
      clear hB
      obtain ⟨p0, p1, p2, p3, p4, p5⟩ := KP.out _ HB.out
      by_cases hlt : k < p.secs.length
      · have hx := List.getElem?_eq_getElem hlt
        generalize p.secs[k] = x at hx
        have HX := Lib.hid hx
        clear hx
        go_wp2_with fail
        clear p0 p1 p2 p3 p4 p5
        go_loopw [6] (fun i wr => ∃ e : Nat, e ≤ 3 ∧ i = .int .i64 e ∧ Below w5.heap.size w5 wr) (fun i _ => 3 - (intOf i).toNat)
        case atStart => exact ⟨0, by omega, rfl, HB.out⟩
        case round =>
          clear HB
          obtain ⟨e, he, rfl, hB⟩ := hrel
          have HB := Lib.hid hB
          clear hB
          by_cases he3 : e < 3
          · have d3 : decide ((e : Int) < 3) = true := dec_t (by omega)
            obtain ⟨p0, p1, p2, p3, p4, p5⟩ := KP.out _ HB.out
            have CO := Lib.hid (fun W' (hW : Below w5.heap.size w5 W') => pwOuts_any p S cS G cG k e W' (I5.out.below hW) hfew)
            have TS := Lib.hid (fun y (hy : y ∈ Wk.outs p k e) => Wk.turn_step HX.out hy)
            have hol := Wk.outs_len p k e
            go_wp2_with fail
            refine (CO.out _ HB.out).mono ?_; rintro e' w2 ⟨A1, c1, rfl, hr, hb⟩
            have H2 := Lib.hid (HB.out.trans (hb.mono HB.out.size))
            have R1 := Lib.hid hr
            clear p0 p1 p2 p3 p4 p5 hb hr HB CO
            go_wp2_with fail
            go_loopw [8] (fun i wr => ∃ m : Nat, m ≤ (Wk.outs p k e).length ∧ i = .int .i64 m ∧ Below w5.heap.size w5 wr ∧ LStp.Row wr A1 (Wk.outs p k e)) (fun i _ => (Wk.outs p k e).length - (intOf i).toNat)
            case atStart => exact ⟨0, Nat.zero_le _, rfl, H2.out, R1.out⟩
            case round =>
              clear H2 R1
              obtain ⟨m, hm, rfl, hB, hr⟩ := hrel
              have H2 := Lib.hid hB
              have R1 := Lib.hid hr
              clear hB hr
              by_cases hml : m < (Wk.outs p k e).length
              · obtain ⟨b1, o1, rfl, g1, on⟩ := R1.out.at hml
                have hy := List.getElem_mem hml
                generalize (Wk.outs p k e)[m] = y at hy on
                obtain ⟨ys, yf, hz, hpos, hpt⟩ := TS.out y hy
                obtain ⟨y0, y1, y2⟩ := y
                simp only at ys yf hz hpos hpt
                subst ys yf
                have on' := stp_on on
                rw [show m * LStp.m = m * 3 from rfl] at on'
                simp only at on'
                have HZ := Lib.hid hz
                have KY := Lib.hid (fun W' (hW : Below wr.heap.size wr W') => show W'.cell? ⟨b1, o1 + m * 3, none⟩ = some (.int .i64 (k : Int)) ∧ W'.cell? ⟨b1, o1 + m * 3 + 1, none⟩ = some (.int .i64 (e : Int)) ∧ W'.cell? ⟨b1, o1 + m * 3 + 2, none⟩ = some (.int .i64 y2) from
                  ⟨(hW.cell (p := ⟨b1, o1 + m * 3, none⟩) g1).trans on'.1, (hW.cell (p := ⟨b1, o1 + m * 3 + 1, none⟩) g1).trans on'.2.1, (hW.cell (p := ⟨b1, o1 + m * 3 + 2, none⟩) g1).trans on'.2.2⟩)
                have W0 := Lib.hid (Below.refl wr.heap.size wr)
                have CT := Lib.hid (fun W' (hW : Below wr.heap.size wr W') => StepsMade.of (W0 := wr) (n := (Wk.outs p k y2).length) hW rfl rfl (pwOuts_any p S cS G cG k y2 W' (I5.out.below (H2.out.trans (hW.mono H2.out.size))) hfew))
                have KPY := Lib.hid (fun W' (hW : Below wr.heap.size wr W') => And.intro (KP.out _ (H2.out.trans (hW.mono H2.out.size))) (KY.out _ hW))
                obtain ⟨⟨p0, p1, p2, p3, p4, p5⟩, a0, a1, a2⟩ := KPY.out _ W0.out
                have hol2 := Wk.outs_len p k y2
                clear on on' hy hz
                go_upto_region 14 with fail
                clear p0 p1 p2 p3 p4 p5 a0 a1 a2
                go_region_held3 (fun W' => (W'.cell? ⟨w1.heap.size, 0, none⟩ = some (.int .i64 p.ov) ∧ W'.cell? ⟨w1.heap.size, 1, none⟩ = some (.int .i64 p.ap) ∧ W'.cell? ⟨w1.heap.size, 2, none⟩ = some (.int .i64 p.se) ∧ W'.cell? ⟨w1.heap.size, 3, none⟩ = some (.int .i64 p.ho) ∧ W'.cell? ⟨w1.heap.size, 4, none⟩ = some (.slice S p.secs.length cS) ∧ W'.cell? ⟨w1.heap.size, 5, none⟩ = some (.slice G p.sigs.length cG)) ∧ W'.cell? ⟨b1, o1 + m * 3, none⟩ = some (.int .i64 (k : Int)) ∧ W'.cell? ⟨b1, o1 + m * 3 + 1, none⟩ = some (.int .i64 (e : Int)) ∧ W'.cell? ⟨b1, o1 + m * 3 + 2, none⟩ = some (.int .i64 y2))
                  (first | with_reducible exact KPY.out _ W0.out.drew | with_reducible exact KPY.out _ hacc)
                  (first
                    | (go_at_call 12; (with_reducible refine (CT.out _ W0.out.drew).mono ?_); rintro e' w3 ⟨A2, c2, rfl, hr2, hbl, hacc, hz⟩; have R2 := Lib.hid hr2))
                have H3 := Lib.hid hacc
                clear hbl hacc hz hr2
                go_wp2_with fail
                go_loopw [10, 11] (fun b i wr' => ∃ j : Nat, j ≤ (Wk.outs p k y2).length ∧ i = .int .i64 j ∧ b = .bool (Wk.seen (Wk.outs p k y2) ⟨k, y2, e⟩ j) ∧ Below wr.heap.size wr wr' ∧ LStp.Row wr' A2 (Wk.outs p k y2)) (fun _ i _ => (Wk.outs p k y2).length - (intOf i).toNat)
                case atStart => exact ⟨0, Nat.zero_le _, rfl, rfl, H3.out, R2.out⟩
                case round =>
                  clear H3 R2
                  obtain ⟨j, hj, rfl, rfl, hB, hr⟩ := hrel
                  have H3 := Lib.hid hB
                  have R2 := Lib.hid hr
                  clear hB hr
                  obtain ⟨⟨p0, p1, p2, p3, p4, p5⟩, a0, a1, a2⟩ := KPY.out _ H3.out
                  by_cases hjl : j < (Wk.outs p k y2).length
                  · obtain ⟨b2, o2, rfl, g2, on⟩ := R2.out.at hjl
                    have hq := List.getElem?_eq_getElem hjl
                    generalize (Wk.outs p k y2)[j] = q at hq on
                    have HN := Lib.hid (Wk.seen_next (z := ⟨k, y2, e⟩) hq)
                    obtain ⟨q0, q1, q2⟩ := q
                    have on' := stp_on on
                    rw [show j * LStp.m = j * 3 from rfl] at on'
                    simp only at on'
                    cases hsn : Wk.seen (Wk.outs p k y2) ⟨k, y2, e⟩ j
                    · by_cases hqz : (⟨q0, q1, q2⟩ : Wk.Stp) = ⟨k, y2, e⟩
                      · simp only [Wk.Stp.mk.injEq] at hqz
                        obtain ⟨rfl, rfl, rfl⟩ := hqz
                        have Q : ∀ W, Sem.run Try.prog (binOp .eql 34 (.agg #[.int .i64 k, .int .i64 q1, .int .i64 e]) (.agg #[.int .i64 k, .int .i64 q1, .int .i64 e])) W = .ok (.bool true) W := fun W => (bin_stps W ⟨k, q1, e⟩ ⟨k, q1, e⟩).trans (by rw [decide_eq_true rfl])
                        rw [hsn, decide_eq_true rfl] at HN
                        have W3 := Lib.hid (Below.refl wr.heap.size wr)
                        have TW := Lib.hid (fun W' (hW : Below wr.heap.size wr W') => H3.out.trans (hW.mono H3.out.size))
                        have KQ := Lib.hid (fun W' (hW : Below wr.heap.size wr W') => show ((W'.cell? ⟨w1.heap.size, 0, none⟩ = some (.int .i64 p.ov) ∧ W'.cell? ⟨w1.heap.size, 1, none⟩ = some (.int .i64 p.ap) ∧ W'.cell? ⟨w1.heap.size, 2, none⟩ = some (.int .i64 p.se) ∧ W'.cell? ⟨w1.heap.size, 3, none⟩ = some (.int .i64 p.ho) ∧ W'.cell? ⟨w1.heap.size, 4, none⟩ = some (.slice S p.secs.length cS) ∧ W'.cell? ⟨w1.heap.size, 5, none⟩ = some (.slice G p.sigs.length cG)) ∧ W'.cell? ⟨b1, o1 + m * 3, none⟩ = some (.int .i64 (k : Int)) ∧ W'.cell? ⟨b1, o1 + m * 3 + 1, none⟩ = some (.int .i64 (e : Int)) ∧ W'.cell? ⟨b1, o1 + m * 3 + 2, none⟩ = some (.int .i64 q1)) ∧ W'.cell? ⟨b2, o2 + j * 3, none⟩ = some (.int .i64 (k : Int)) ∧ W'.cell? ⟨b2, o2 + j * 3 + 1, none⟩ = some (.int .i64 q1) ∧ W'.cell? ⟨b2, o2 + j * 3 + 2, none⟩ = some (.int .i64 (e : Int)) from
                          ⟨KPY.out _ (TW.out _ hW), (hW.cell (p := ⟨b2, o2 + j * 3, none⟩) g2).trans on'.1, (hW.cell (p := ⟨b2, o2 + j * 3 + 1, none⟩) g2).trans on'.2.1, (hW.cell (p := ⟨b2, o2 + j * 3 + 2, none⟩) g2).trans on'.2.2⟩)
                        have CZ := Lib.hid (fun W' (hW : Below wr.heap.size wr W') => (show Calls Try.prog 16 #[planV p S cS G cG, .agg #[.int .i64 k, .int .i64 q1, .int .i64 e]] W' (Made wr (.int .i64 (Wk.position p ⟨k, e, q1⟩)) W') from Made.one (W0 := wr) hW (by rw [hpos]) (pwPosition_any p S cS G cG ⟨k, q1, e⟩ W' (I5.out.below (H2.out.trans ((TW.out _ hW).mono H2.out.size))) hfew)))
                        have CY := Lib.hid (fun W' (hW : Below wr.heap.size wr W') => (show Calls Try.prog 16 #[planV p S cS G cG, .agg #[.int .i64 k, .int .i64 e, .int .i64 q1]] W' (Made wr (.int .i64 (Wk.position p ⟨k, e, q1⟩)) W') from Made.one (W0 := wr) hW rfl (pwPosition_any p S cS G cG ⟨k, e, q1⟩ W' (I5.out.below (H2.out.trans ((TW.out _ hW).mono H2.out.size))) hfew)))
                        obtain ⟨c0, c1', c2'⟩ := on'
                        clear hsn on hq
                        go_upto_region 19 with fail
                        clear p0 p1 p2 p3 p4 p5 a0 a1 a2 c0 c1' c2'
                        go_region_held3 (fun W' => ((W'.cell? ⟨w1.heap.size, 0, none⟩ = some (.int .i64 p.ov) ∧ W'.cell? ⟨w1.heap.size, 1, none⟩ = some (.int .i64 p.ap) ∧ W'.cell? ⟨w1.heap.size, 2, none⟩ = some (.int .i64 p.se) ∧ W'.cell? ⟨w1.heap.size, 3, none⟩ = some (.int .i64 p.ho) ∧ W'.cell? ⟨w1.heap.size, 4, none⟩ = some (.slice S p.secs.length cS) ∧ W'.cell? ⟨w1.heap.size, 5, none⟩ = some (.slice G p.sigs.length cG)) ∧ W'.cell? ⟨b1, o1 + m * 3, none⟩ = some (.int .i64 (k : Int)) ∧ W'.cell? ⟨b1, o1 + m * 3 + 1, none⟩ = some (.int .i64 (e : Int)) ∧ W'.cell? ⟨b1, o1 + m * 3 + 2, none⟩ = some (.int .i64 q1)) ∧ W'.cell? ⟨b2, o2 + j * 3, none⟩ = some (.int .i64 (k : Int)) ∧ W'.cell? ⟨b2, o2 + j * 3 + 1, none⟩ = some (.int .i64 q1) ∧ W'.cell? ⟨b2, o2 + j * 3 + 2, none⟩ = some (.int .i64 (e : Int)))
                          (first | with_reducible exact KQ.out _ W3.out.drew | with_reducible exact KQ.out _ hacc)
                          (first
                            | (go_at_call 16; (with_reducible refine (CZ.out _ W3.out.drew).mono ?_); rintro e' w4 ⟨rfl, hbl, hacc, hz⟩)
                            | (go_at_call 16; (with_reducible refine (CY.out _ hacc).mono ?_); rintro e' w4 ⟨rfl, hbl, hacc, hz⟩))
                        have H4 := Lib.hid hacc
                        clear hbl hacc hz
                        go_wp2_with fail
                        go_roundw
                        case rel => exact ⟨j + 1, by omega, by go_num, by rw [HN.out]; rfl, TW.out _ H4.out, R2.out.below rfl H4.out⟩
                        case measure => simp [intOf]; omega
                      · have Q : ∀ W, Sem.run Try.prog (binOp .eql 34 (.agg #[.int .i64 q0, .int .i64 q1, .int .i64 q2]) (.agg #[.int .i64 k, .int .i64 y2, .int .i64 e])) W = .ok (.bool false) W := fun W => (bin_stps W ⟨q0, q1, q2⟩ ⟨k, y2, e⟩).trans (by rw [decide_eq_false hqz])
                        obtain ⟨c0, c1', c2'⟩ := on'
                        rw [hsn, decide_eq_false hqz] at HN
                        clear hsn hqz on hq
                        go_wp2_with fail
                        go_quiet (fail)
                        go_wp2_with fail
                        go_roundw
                        case rel => exact ⟨j + 1, by omega, by go_num, by rw [HN.out]; rfl, below_drewN H3.out _, R2.out.below rfl (below_drewN (Below.refl _ _) _)⟩
                        case measure => simp [intOf]; omega
                    · rw [hsn] at HN
                      clear hsn on hq on'
                      go_wp2_with fail
                      go_quiet (fail)
                      go_wp2_with fail
                      go_roundw
                      case rel => exact ⟨j + 1, by omega, by go_num, by rw [HN.out]; rfl, below_drewN H3.out _, R2.out.below rfl (below_drewN (Below.refl _ _) _)⟩
                      case measure => simp [intOf]; omega
                  · obtain rfl : j = (Wk.outs p k y2).length := by omega
                    have hsn := Wk.seen_all HZ.out
                    have W3 := Lib.hid (Below.refl wr.heap.size wr)
                    have TW := Lib.hid (fun W' (hW : Below wr.heap.size wr W') => H3.out.trans (hW.mono H3.out.size))
                    obtain ⟨bs, os, rfl, gs, on⟩ := sec_cells (I5.out.below (H2.out.trans (H3.out.mono H2.out.size))).1 HX.out
                    have s1 := (sec_on on).2.1
                    have KQ := Lib.hid (fun W' (hW : Below wr.heap.size wr W') => show ((W'.cell? ⟨w1.heap.size, 0, none⟩ = some (.int .i64 p.ov) ∧ W'.cell? ⟨w1.heap.size, 1, none⟩ = some (.int .i64 p.ap) ∧ W'.cell? ⟨w1.heap.size, 2, none⟩ = some (.int .i64 p.se) ∧ W'.cell? ⟨w1.heap.size, 3, none⟩ = some (.int .i64 p.ho) ∧ W'.cell? ⟨w1.heap.size, 4, none⟩ = some (.slice (some ⟨bs, os, none⟩) p.secs.length cS) ∧ W'.cell? ⟨w1.heap.size, 5, none⟩ = some (.slice G p.sigs.length cG)) ∧ W'.cell? ⟨b1, o1 + m * 3, none⟩ = some (.int .i64 (k : Int)) ∧ W'.cell? ⟨b1, o1 + m * 3 + 1, none⟩ = some (.int .i64 (e : Int)) ∧ W'.cell? ⟨b1, o1 + m * 3 + 2, none⟩ = some (.int .i64 y2)) ∧ W'.cell? ⟨bs, os + k * 12 + 1, none⟩ = some (.bool x.pt) from
                      ⟨KPY.out _ (TW.out _ hW), (hW.cell (p := ⟨bs, os + k * 12 + 1, none⟩) gs).trans s1⟩)
                    have CY := Lib.hid (fun W' (hW : Below wr.heap.size wr W') => (show Calls Try.prog 16 #[planV p (some ⟨bs, os, none⟩) cS G cG, .agg #[.int .i64 k, .int .i64 e, .int .i64 y2]] W' (Made wr (.int .i64 (Wk.position p ⟨k, e, y2⟩)) W') from Made.one (W0 := wr) hW rfl (pwPosition_any p (some ⟨bs, os, none⟩) cS G cG ⟨k, e, y2⟩ W' (I5.out.below (H2.out.trans ((TW.out _ hW).mono H2.out.size))) hfew)))
                    clear on
                    go_upto_region 20 with fail
                    clear p0 p1 p2 p3 p4 p5 a0 a1 a2 s1
                    generalize x.pt = xp at hpt KQ
                    go_region_held3 (fun W' => ((W'.cell? ⟨w1.heap.size, 0, none⟩ = some (.int .i64 p.ov) ∧ W'.cell? ⟨w1.heap.size, 1, none⟩ = some (.int .i64 p.ap) ∧ W'.cell? ⟨w1.heap.size, 2, none⟩ = some (.int .i64 p.se) ∧ W'.cell? ⟨w1.heap.size, 3, none⟩ = some (.int .i64 p.ho) ∧ W'.cell? ⟨w1.heap.size, 4, none⟩ = some (.slice (some ⟨bs, os, none⟩) p.secs.length cS) ∧ W'.cell? ⟨w1.heap.size, 5, none⟩ = some (.slice G p.sigs.length cG)) ∧ W'.cell? ⟨b1, o1 + m * 3, none⟩ = some (.int .i64 (k : Int)) ∧ W'.cell? ⟨b1, o1 + m * 3 + 1, none⟩ = some (.int .i64 (e : Int)) ∧ W'.cell? ⟨b1, o1 + m * 3 + 2, none⟩ = some (.int .i64 y2)) ∧ W'.cell? ⟨bs, os + k * 12 + 1, none⟩ = some (.bool xp))
                      (first | with_reducible exact KQ.out _ W3.out.drew | with_reducible exact KQ.out _ hacc)
                      (first
                        | (go_at_call 16; (with_reducible refine (CY.out _ W3.out.drew).mono ?_); rintro e' w4 ⟨rfl, hbl, hacc, hz⟩))
                    have H4 := Lib.hid hacc
                    clear hbl hacc hz
                    have D : (xp != xp) = false := by simp
                    go_wp2_with fail
                    go_roundw
                    case rel => exact ⟨m + 1, by omega, by go_num, H2.out.trans ((TW.out _ H4.out).mono H2.out.size), R1.out.below rfl (TW.out _ H4.out)⟩
                    case measure => simp [intOf]; omega
              · obtain rfl : m = (Wk.outs p k e).length := by omega
                obtain ⟨p0, p1, p2, p3, p4, p5⟩ := KP.out _ H2.out
                have CN := Lib.hid (fun a b W' (hW : Below w5.heap.size w5 W') => pwNext_any p S cS G cG a b W' (I5.out.below hW) hfew)
                rcases WY.out k e with ⟨hn, -⟩ | ⟨-, ⟨t, f⟩, -, hn, hb, -⟩
                · have C1 := Lib.hid (CN.out k e)
                  rw [hn] at C1
                  clear hn CN
                  go_wp2_with fail
                  refine (C1.out _ H2.out).mono ?_; rintro e' w3 ⟨rfl, hb⟩
                  have H3 := Lib.hid (H2.out.trans (hb.mono H2.out.size))
                  clear p0 p1 p2 p3 p4 p5 hb
                  go_wp2_with fail
                  go_roundw
                  case rel => exact ⟨e + 1, by omega, by go_num, H3.out⟩
                  case measure => simp [intOf]; omega
                · have C1 := Lib.hid (CN.out k e)
                  have C2 := Lib.hid (CN.out t f)
                  rw [hn] at C1
                  simp only at hb
                  rw [hb] at C2
                  clear hn hb CN
                  go_wp2_with fail
                  refine (C1.out _ H2.out).mono ?_; rintro e' w3 ⟨rfl, hb⟩
                  have H3 := Lib.hid (H2.out.trans (hb.mono H2.out.size))
                  clear p0 p1 p2 p3 p4 p5 hb
                  obtain ⟨p0, p1, p2, p3, p4, p5⟩ := KP.out _ H3.out
                  go_wp2_with fail
                  refine (C2.out _ H3.out).mono ?_; rintro e' w4 ⟨rfl, hb⟩
                  have H4 := Lib.hid (H3.out.trans (hb.mono H3.out.size))
                  clear p0 p1 p2 p3 p4 p5 hb
                  go_wp2_with fail
                  go_roundw
                  case rel => exact ⟨e + 1, by omega, by go_num, H4.out⟩
                  case measure => simp [intOf]; omega
          · obtain rfl : e = 3 := by omega
            go_wp2_with fail
            go_roundw
            case rel => exact ⟨k + 1, by omega, by go_num, HB.out⟩
            case measure => simp [intOf]; omega
      · obtain rfl : k = p.secs.length := by omega
        go_wp2_with fail
        refine (AW.out _).mono ?_; rintro e w2 ⟨rfl, hb2⟩
        have B9 := Lib.hid (B5.out.trans ((HB.out.trans (hb2.mono HB.out.size)).mono B5.out.size))
        clear hb2
        go_wp2
        go_ret
        exact ⟨rfl, B9.out⟩
end Go.Proofs.Ytgbeebjbmbikiaa
