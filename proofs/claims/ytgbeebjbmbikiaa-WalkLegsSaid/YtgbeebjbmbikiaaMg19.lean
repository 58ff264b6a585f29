/-
  Texts of this claim, merged: WalkLegsWalk.
-/
import Derived.Test.YtgbeebjbmbikiaaMg15
import Derived.Deep.CutRange
/-
  The walk of the law WalkLegs: it returns true.
-/
namespace Go.Proofs.Ytgbeebjbmbikiaa
open Go.RowKit

theorem outs_plain {p : Pl.Plan} {k : Nat} {x : Pl.Sec} (hx : p.secs[k]? = some x) (h : x.pt = false) : (Wk.outs p k 0).length = 1 ∧ (Wk.outs p k 1).length = 1 ∧ (Wk.outs p k 2).length = 0 := by
  unfold Wk.outs
  rw [Wk.secAt_some hx]
  simp [h]
theorem outs_point {p : Pl.Plan} {k : Nat} {x : Pl.Sec} (hx : p.secs[k]? = some x) (h : x.pt = true) : (Wk.outs p k 0).length = 2 ∧ (Wk.outs p k 1).length = 1 ∧ (Wk.outs p k 2).length = 1 := by
  unfold Wk.outs
  rw [Wk.secAt_some hx]
  simp [h]
/-- Three numbers in a box of the round's own. -/
def ThreeNums (w5 : World) (a b c : Int) (v : Value) (w' : World) : Prop := ∃ g : Nat, v = .pointer (some ⟨g, 0, none⟩) ∧ w'.heap[g]? = some (atO a b c) ∧ Below w5.heap.size w5 w'
theorem set3_same {W : World} {B : Nat} {x0 x1 x2 v0 v1 v2 : Value} {t : TypeId} (h : W.heap[B]? = some (.cells #[x0, x1, x2] t (0, 0))) :
    (((W.setCell ⟨B, 0, none⟩ v0).setCell ⟨B, 1, none⟩ v1).setCell ⟨B, 2, none⟩ v2).heap[B]? = some (.cells #[v0, v1, v2] t (0, 0)) :=
  heap_setCell_same _ _ _ _ _ _ (heap_setCell_same _ _ _ _ _ _ (heap_setCell_same _ _ _ _ _ _ h))
set_option maxHeartbeats 8000000 in
set_option maxRecDepth 100000 in
theorem walkLegs_walk (s : ByteArray) (W : World) (_ws : s.size ≤ maxLen) :
    Calls Try.prog 5 #[.string s] W (OneIs (.bool true) W) := by
  have AW := Lib.hid wkAwake_any
  cases hm : madeP s.data.toList with
  | none =>
    have CM := Lib.hid (fun W => made_none hm W)
    clear hm
    go_enter Try.func5, Try.ntmps5
    go_wp2_with fail
    refine (CM.out _).mono ?_; rintro e w1 ⟨p, S, cS, G, cG, rfl, hb1⟩
    have B1 := Lib.hid (hb1.alloc hb1.size (planO p S cS G cG))
    clear hb1
    go_wp2_with fail
    refine (AW.out _).mono ?_; rintro e w2 ⟨rfl, hb2⟩
    go_wp2
    go_ret
    exact ⟨rfl, B1.out.trans (hb2.mono B1.out.size)⟩
  | some p =>
    have CM := Lib.hid (fun W => made_some hm W)
    have hfew := (madeP_some hm).1.few
    clear hm
    go_enter Try.func5, Try.ntmps5
    go_wp2_with fail
    refine (CM.out _).mono ?_; rintro e w1 ⟨S, cS, G, cG, rfl, pin, hb1⟩
    have X1 := (Below.refl w1.heap.size w1).alloc (Nat.le_refl _) (planO p S cS G cG)
    have B5 := Lib.hid (hb1.trans (X1.mono hb1.size))
    have I5 := Lib.hid (pin.below X1)
    have RP := Lib.hid (heap_alloc_new w1 (planO p S cS G cG))
    have gx := (Array.getElem?_eq_some_iff.1 RP.out).1
    clear hb1 X1 pin CM
    go_wp2_with fail
    generalize w1.alloc (planO p S cS G cG) = w5 at B5 I5 RP gx ⊢
    have KP := Lib.hid (fun W' (hW : Below w5.heap.size w5 W') => (row6 ((hW.block _ gx).trans RP.out)).1)
    clear gx RP
    go_loopw [5] (fun i wr => ∃ k : Nat, k ≤ p.secs.length ∧ i = .int .i64 k ∧ Below w5.heap.size w5 wr) (fun i _ => p.secs.length - (intOf i).toNat)
    case atStart => exact ⟨0, Nat.zero_le _, rfl, Below.refl _ _⟩
    case round =>
      obtain ⟨k, hk, rfl, hB⟩ := hrel
      have HB := Lib.hid hB
      clear hB
      obtain ⟨p0, p1, p2, p3, p4, p5⟩ := KP.out _ HB.out
      by_cases hlt : k < p.secs.length
      · have hx := List.getElem?_eq_getElem hlt
        generalize p.secs[k] = x at hx
        have W0 := Lib.hid (Below.refl wr.heap.size wr)
        cases hpt : x.pt
        · obtain ⟨l0, l1, l2⟩ := outs_plain hx hpt
          have G0 := Lib.hid (fun W' (hW : Below w5.heap.size w5 W') => StepsMade.of (W0 := w5) (n := 1) hW rfl l0 (pwOuts_any p S cS G cG k 0 W' (I5.out.below hW) hfew))
          have G1 := Lib.hid (fun W' (hW : Below w5.heap.size w5 W') => StepsMade.of (W0 := w5) (n := 1) hW rfl l1 (pwOuts_any p S cS G cG k 1 W' (I5.out.below hW) hfew))
          have G2 := Lib.hid (fun W' (hW : Below w5.heap.size w5 W') => StepsMade.of (W0 := w5) (n := 0) hW rfl l2 (pwOuts_any p S cS G cG k 2 W' (I5.out.below hW) hfew))
          have HX := Lib.hid hx
          clear l0 l1 l2 hx
          go_upto_region 7 with fail
          clear p0 p1 p2 p3 p4 p5
          go_cut [6] from 16 to 46 (fun s6 w' => ThreeNums w5 1 1 0 s6 w')
          case first =>
            go_region_held3 (fun W' => W'.cell? ⟨w1.heap.size, 0, none⟩ = some (.int .i64 p.ov) ∧ W'.cell? ⟨w1.heap.size, 1, none⟩ = some (.int .i64 p.ap) ∧ W'.cell? ⟨w1.heap.size, 2, none⟩ = some (.int .i64 p.se) ∧ W'.cell? ⟨w1.heap.size, 3, none⟩ = some (.int .i64 p.ho) ∧ W'.cell? ⟨w1.heap.size, 4, none⟩ = some (.slice S p.secs.length cS) ∧ W'.cell? ⟨w1.heap.size, 5, none⟩ = some (.slice G p.sigs.length cG))
              (first | with_reducible exact KP.out _ HB.out.drew | with_reducible exact KP.out _ (HB.out.alloc HB.out.size _).drew | (with_reducible refine KP.out _ ?_; (repeat (first | (with_reducible refine Below.setCell ?_ (by first | exact hacc3.size | exact hacc2.size | exact hacc.size | (have := HB.out.size; simp; omega)) _) | (with_reducible refine Below.drew ?_) | (with_reducible refine Below.alloc ?_ (by first | exact hacc3.size | exact hacc2.size | exact hacc.size | exact HB.out.size) _))); first | with_reducible exact hacc3 | with_reducible exact hacc2 | with_reducible exact hacc | with_reducible exact HB.out))
              (first
                | (go_at_call 12; (with_reducible refine (G0.out _ HB.out.drew).mono ?_); rintro e w' ⟨B0, d0, rfl, -, hbl, hacc, hz⟩)
                | (go_at_call 12; (with_reducible refine (G0.out _ (HB.out.alloc HB.out.size (atO 0 0 0)).drew).mono ?_); rintro e w' ⟨B0, d0, rfl, -, hbl, hacc, hz⟩; have hpz := (hbl.block _ (by simp)).trans (heap_alloc_new wr (atO 0 0 0)); obtain ⟨⟨z0, z1, z2⟩, ⟨y0, y1, y2⟩, zg⟩ := row3 hpz)
                | (go_at_call 12; (with_reducible refine (G1.out _ hacc).mono ?_); rintro e' w2 ⟨B1, d1, rfl, -, hbl2, hacc2, hz2⟩; (first | (have hpz2 := (hbl2.block _ zg).trans hpz; obtain ⟨⟨x0, x1, x2⟩, ⟨v0, v1, v2⟩, zg2⟩ := row3 hpz2) | skip))
                | (go_at_call 12; (with_reducible refine (G1.out _ (hacc.alloc hacc.size (atO 0 0 0))).mono ?_); rintro e' w2 ⟨B1, d1, rfl, -, hbl2, hacc2, hz2⟩; have hpz2 := (hbl2.block _ (by simp)).trans (heap_alloc_new w' (atO 0 0 0)); obtain ⟨⟨x0, x1, x2⟩, ⟨v0, v1, v2⟩, zg2⟩ := row3 hpz2)
                | (go_at_call 12; (with_reducible refine (G2.out _ hacc2).mono ?_); rintro e' w3 ⟨B2, d2, rfl, -, hbl3, hacc3, hz3⟩; (first | (have hpz3 := (hbl3.block _ zg2).trans hpz2; obtain ⟨⟨r0, r1, r2⟩, ⟨t0, t1, t2⟩, zg3⟩ := row3 hpz3) | skip))
                | (go_at_call 12; (with_reducible refine (G2.out _ (hacc2.alloc hacc2.size (atO 0 0 0))).mono ?_); rintro e' w3 ⟨B2, d2, rfl, -, hbl3, hacc3, hz3⟩; have hpz3 := (hbl3.block _ (by simp)).trans (heap_alloc_new w2 (atO 0 0 0)); obtain ⟨⟨r0, r1, r2⟩, ⟨t0, t1, t2⟩, zg3⟩ := row3 hpz3))
            all_goals go_wp2_with fail
            all_goals go_meet
            all_goals refine ⟨_, rfl, ?_, ?_⟩
            all_goals first
              | with_reducible exact heap_alloc_new _ _
              | with_reducible exact set3_same hpz3
              | ((repeat (first | (with_reducible refine Below.alloc ?_ hacc3.size _) | (with_reducible refine Below.setCell ?_ (by first | exact HB.out.size | exact hacc.size | exact hacc2.size | (have := HB.out.size; simp; omega)) _))); with_reducible exact hacc3)
          case rest =>
            obtain ⟨g, rfl, hg, hb6⟩ := hcut
            have HB6 := Lib.hid (hb6.alloc hb6.size (atO 1 1 0))
            obtain ⟨⟨n0, n1, n2⟩, -, gg⟩ := row3 ((((Below.refl wc.heap.size wc).alloc (Nat.le_refl _) (atO 1 1 0)).block _ (Array.getElem?_eq_some_iff.1 hg).1).trans hg)
            obtain ⟨p0, p1, p2, p3, p4, p5⟩ := KP.out _ HB6.out
            obtain ⟨b, o, rfl, hb, on⟩ := sec_cells (I5.out.below HB6.out).1 HX.out
            obtain ⟨-, a1, -⟩ := sec_on on
            rw [hpt] at a1
            have HB7 := Lib.hid (hb6.alloc hb6.size (atO 1 1 0))
            obtain ⟨⟨m0, m1, m2⟩, -, gm⟩ := row3 ((((Below.refl wc.heap.size wc).alloc (Nat.le_refl _) (atO 1 1 0)).block _ (Array.getElem?_eq_some_iff.1 hg).1).trans hg)
            have Q : ∀ W, Sem.run Try.prog (binOp .neq 22 (.agg #[.int .i64 1, .int .i64 1, .int .i64 0]) (.agg #[.int .i64 1, .int .i64 1, .int .i64 0])) W = .ok (.bool false) W := fun W => ne_arr3 W 1 1 0 1 1 0
            clear on hg hb6 hpt
            go_wp2_with fail
            go_roundw
            case rel => exact ⟨k + 1, by omega, by go_num, HB7.out⟩
            case measure => simp [intOf]; omega
        · obtain ⟨l0, l1, l2⟩ := outs_point hx hpt
          have G0 := Lib.hid (fun W' (hW : Below w5.heap.size w5 W') => StepsMade.of (W0 := w5) (n := 2) hW rfl l0 (pwOuts_any p S cS G cG k 0 W' (I5.out.below hW) hfew))
          have G1 := Lib.hid (fun W' (hW : Below w5.heap.size w5 W') => StepsMade.of (W0 := w5) (n := 1) hW rfl l1 (pwOuts_any p S cS G cG k 1 W' (I5.out.below hW) hfew))
          have G2 := Lib.hid (fun W' (hW : Below w5.heap.size w5 W') => StepsMade.of (W0 := w5) (n := 1) hW rfl l2 (pwOuts_any p S cS G cG k 2 W' (I5.out.below hW) hfew))
          have HX := Lib.hid hx
          clear l0 l1 l2 hx
          go_upto_region 7 with fail
          clear p0 p1 p2 p3 p4 p5
          go_cut [6] from 16 to 46 (fun s6 w' => ThreeNums w5 2 1 1 s6 w')
          case first =>
            go_region_held3 (fun W' => W'.cell? ⟨w1.heap.size, 0, none⟩ = some (.int .i64 p.ov) ∧ W'.cell? ⟨w1.heap.size, 1, none⟩ = some (.int .i64 p.ap) ∧ W'.cell? ⟨w1.heap.size, 2, none⟩ = some (.int .i64 p.se) ∧ W'.cell? ⟨w1.heap.size, 3, none⟩ = some (.int .i64 p.ho) ∧ W'.cell? ⟨w1.heap.size, 4, none⟩ = some (.slice S p.secs.length cS) ∧ W'.cell? ⟨w1.heap.size, 5, none⟩ = some (.slice G p.sigs.length cG))
              (first | with_reducible exact KP.out _ HB.out.drew | with_reducible exact KP.out _ (HB.out.alloc HB.out.size _).drew | (with_reducible refine KP.out _ ?_; (repeat (first | (with_reducible refine Below.setCell ?_ (by first | exact hacc3.size | exact hacc2.size | exact hacc.size | (have := HB.out.size; simp; omega)) _) | (with_reducible refine Below.drew ?_) | (with_reducible refine Below.alloc ?_ (by first | exact hacc3.size | exact hacc2.size | exact hacc.size | exact HB.out.size) _))); first | with_reducible exact hacc3 | with_reducible exact hacc2 | with_reducible exact hacc | with_reducible exact HB.out))
              (first
                | (go_at_call 12; (with_reducible refine (G0.out _ HB.out.drew).mono ?_); rintro e w' ⟨B0, d0, rfl, -, hbl, hacc, hz⟩)
                | (go_at_call 12; (with_reducible refine (G0.out _ (HB.out.alloc HB.out.size (atO 0 0 0)).drew).mono ?_); rintro e w' ⟨B0, d0, rfl, -, hbl, hacc, hz⟩; have hpz := (hbl.block _ (by simp)).trans (heap_alloc_new wr (atO 0 0 0)); obtain ⟨⟨z0, z1, z2⟩, ⟨y0, y1, y2⟩, zg⟩ := row3 hpz)
                | (go_at_call 12; (with_reducible refine (G1.out _ hacc).mono ?_); rintro e' w2 ⟨B1, d1, rfl, -, hbl2, hacc2, hz2⟩; (first | (have hpz2 := (hbl2.block _ zg).trans hpz; obtain ⟨⟨x0, x1, x2⟩, ⟨v0, v1, v2⟩, zg2⟩ := row3 hpz2) | skip))
                | (go_at_call 12; (with_reducible refine (G1.out _ (hacc.alloc hacc.size (atO 0 0 0))).mono ?_); rintro e' w2 ⟨B1, d1, rfl, -, hbl2, hacc2, hz2⟩; have hpz2 := (hbl2.block _ (by simp)).trans (heap_alloc_new w' (atO 0 0 0)); obtain ⟨⟨x0, x1, x2⟩, ⟨v0, v1, v2⟩, zg2⟩ := row3 hpz2)
                | (go_at_call 12; (with_reducible refine (G2.out _ hacc2).mono ?_); rintro e' w3 ⟨B2, d2, rfl, -, hbl3, hacc3, hz3⟩; (first | (have hpz3 := (hbl3.block _ zg2).trans hpz2; obtain ⟨⟨r0, r1, r2⟩, ⟨t0, t1, t2⟩, zg3⟩ := row3 hpz3) | skip))
                | (go_at_call 12; (with_reducible refine (G2.out _ (hacc2.alloc hacc2.size (atO 0 0 0))).mono ?_); rintro e' w3 ⟨B2, d2, rfl, -, hbl3, hacc3, hz3⟩; have hpz3 := (hbl3.block _ (by simp)).trans (heap_alloc_new w2 (atO 0 0 0)); obtain ⟨⟨r0, r1, r2⟩, ⟨t0, t1, t2⟩, zg3⟩ := row3 hpz3))
            all_goals go_wp2_with fail
            all_goals go_meet
            all_goals refine ⟨_, rfl, ?_, ?_⟩
            all_goals first
              | with_reducible exact heap_alloc_new _ _
              | with_reducible exact set3_same hpz3
              | ((repeat (first | (with_reducible refine Below.alloc ?_ hacc3.size _) | (with_reducible refine Below.setCell ?_ (by first | exact HB.out.size | exact hacc.size | exact hacc2.size | (have := HB.out.size; simp; omega)) _))); with_reducible exact hacc3)
          case rest =>
            obtain ⟨g, rfl, hg, hb6⟩ := hcut
            have HB6 := Lib.hid (hb6.alloc hb6.size (atO 1 1 0))
            obtain ⟨⟨n0, n1, n2⟩, -, gg⟩ := row3 ((((Below.refl wc.heap.size wc).alloc (Nat.le_refl _) (atO 1 1 0)).block _ (Array.getElem?_eq_some_iff.1 hg).1).trans hg)
            obtain ⟨p0, p1, p2, p3, p4, p5⟩ := KP.out _ HB6.out
            obtain ⟨b, o, rfl, hb, on⟩ := sec_cells (I5.out.below HB6.out).1 HX.out
            obtain ⟨-, a1, -⟩ := sec_on on
            rw [hpt] at a1
            have HB7 := Lib.hid (hb6.alloc hb6.size (atO 2 1 1))
            obtain ⟨⟨m0, m1, m2⟩, -, gm⟩ := row3 ((((Below.refl wc.heap.size wc).alloc (Nat.le_refl _) (atO 2 1 1)).block _ (Array.getElem?_eq_some_iff.1 hg).1).trans hg)
            have Q : ∀ W, Sem.run Try.prog (binOp .neq 22 (.agg #[.int .i64 2, .int .i64 1, .int .i64 1]) (.agg #[.int .i64 2, .int .i64 1, .int .i64 1])) W = .ok (.bool false) W := fun W => ne_arr3 W 2 1 1 2 1 1
            clear on hg hb6 hpt
            go_wp2_with fail
            go_roundw
            case rel => exact ⟨k + 1, by omega, by go_num, HB7.out⟩
            case measure => simp [intOf]; omega
      · obtain rfl : k = p.secs.length := by omega
        go_wp2_with fail
        refine (AW.out _).mono ?_; rintro e w2 ⟨rfl, hb2⟩
        have B9 := Lib.hid (B5.out.trans ((HB.out.trans (hb2.mono HB.out.size)).mono B5.out.size))
        clear hb2
        go_wp2
        go_ret
        exact ⟨rfl, B9.out⟩
end Go.Proofs.Ytgbeebjbmbikiaa
