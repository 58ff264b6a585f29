/-
  Texts of this claim, merged: WalkTellsWalk.
-/
import Derived.Test.YtgbeebjbmbikiaaMg15
/-
  The walk of the law WalkTells: it returns true.
-/
namespace Go.Proofs.Ytgbeebjbmbikiaa
open Go.RowKit

set_option maxHeartbeats 8000000 in
set_option maxRecDepth 100000 in
theorem walkTells_walk (s : ByteArray) (a b c : Int) (A : Option Addr) (d n : Nat) (L : List Wk.Stp) (W : World) (_ws : s.size ≤ maxLen) (hn : L.length = n) (hI : LStp.Row W A L) (_hc : n ≤ d) (hl : n ≤ maxLen) :
    Calls Try.prog 3 #[.string s, .agg #[.int .i64 a, .int .i64 b, .int .i64 c], .slice A n d] W (OneIs (.bool true) W) := by
  subst hn
  have AW := Lib.hid wkAwake_any
  have X0 := Lib.hid ((Below.refl W.heap.size W).alloc (Nat.le_refl _) (atO a b c))
  have RA := Lib.hid (heap_alloc_new W (atO a b c))
  have HI := Lib.hid hI
  have gA := (Array.getElem?_eq_some_iff.1 RA.out).1
  clear hI
  unfold maxLen at hl
  cases hm : madeP s.data.toList with
  | none =>
    have CM := Lib.hid (fun W => made_none hm W)
    clear hm
    go_enter Try.func3, Try.ntmps3
    go_wp2_with fail
    refine (CM.out _).mono ?_; rintro e w1 ⟨p, S, cS, G, cG, rfl, hb1⟩
    have B1 := Lib.hid ((X0.out.trans (hb1.mono X0.out.size)).alloc (X0.out.trans (hb1.mono X0.out.size)).size (planO p S cS G cG))
    clear hb1
    go_wp2_with fail
    refine (AW.out _).mono ?_; rintro e w2 ⟨rfl, hb2⟩
    go_wp2
    go_ret
    exact ⟨rfl, B1.out.trans (hb2.mono B1.out.size)⟩
  | some p =>
    have CM := Lib.hid (fun W => made_some hm W)
    have hfew := (madeP_some hm).1.few
    clear hm
    by_cases h30 : 30 < L.length
    · have D : decide (30 < (L.length : Int)) = true := dec_t (by omega)
      clear h30
      go_enter Try.func3, Try.ntmps3
      go_wp2_with fail
      refine (CM.out _).mono ?_; rintro e w1 ⟨S, cS, G, cG, rfl, -, hb1⟩
      have B1 := Lib.hid ((X0.out.trans (hb1.mono X0.out.size)).alloc (X0.out.trans (hb1.mono X0.out.size)).size (planO p S cS G cG))
      clear hb1
      go_wp2_with fail
      refine (AW.out _).mono ?_; rintro e w2 ⟨rfl, hb2⟩
      go_wp2
      go_ret
      exact ⟨rfl, B1.out.trans (hb2.mono B1.out.size)⟩
    have D : decide (30 < (L.length : Int)) = false := dec_f (by omega)
    go_enter Try.func3, Try.ntmps3
    go_wp2_with fail
    refine (CM.out _).mono ?_; rintro e w1 ⟨S, cS, G, cG, rfl, pin, hb1⟩
    have X1 := (Below.refl w1.heap.size w1).alloc (Nat.le_refl _) (planO p S cS G cG)
    have BB := hb1.trans (X1.mono hb1.size)
    have B5 := Lib.hid (X0.out.trans (BB.mono X0.out.size))
    have I5 := Lib.hid (pin.below X1)
    have RP := Lib.hid (heap_alloc_new w1 (planO p S cS G cG))
    have gx := (Array.getElem?_eq_some_iff.1 RP.out).1
    have RA5 := Lib.hid ((BB.block _ gA).trans RA.out)
    have gA5 := (Array.getElem?_eq_some_iff.1 RA5.out).1
    have I6 := Lib.hid (HI.out.below rfl B5.out)
    generalize hw5 : w1.alloc (planO p S cS G cG) = w5 at B5 I5 RP gx RA5 gA5 I6
    have KP := Lib.hid (fun W' (hW : Below w5.heap.size w5 W') => And.intro (row6 ((hW.block _ gx).trans RP.out)).1 (row3 ((hW.block _ gA5).trans RA5.out)).1)
    have T0 := Lib.hid (Below.refl w5.heap.size w5)
    obtain ⟨⟨p0, p1, p2, p3, p4, p5⟩, a0, a1, a2⟩ := KP.out _ T0.out
    have C1 := Lib.hid (fun W' (hW : Below w5.heap.size w5 W') => pwNext_any p S cS G cG a b W' (I5.out.below hW) hfew)
    have C2 := Lib.hid (fun W' (hW : Below w5.heap.size w5 W') => rwNext_any p S cS G cG a b W' (I5.out.below hW))
    subst hw5
    clear hb1 X1 BB pin CM X0 RA gA HI RA5
    go_wp2_with fail
    generalize w1.alloc (planO p S cS G cG) = w5 at B5 I5 KP T0 C1 C2 I6 p0 p1 p2 p3 p4 p5 a0 a1 a2 gx gA5 RP
    refine (C1.out _ T0.out).mono ?_; rintro e v1 ⟨rfl, hb⟩
    have T1 := Lib.hid (T0.out.trans (hb.mono T0.out.size))
    clear p0 p1 p2 p3 p4 p5 a0 a1 a2 hb
    obtain ⟨⟨p0, p1, p2, p3, p4, p5⟩, a0, a1, a2⟩ := KP.out _ T1.out
    go_wp2_with fail
    refine (C2.out _ T1.out).mono ?_; rintro e v2 ⟨rfl, hb⟩
    have T2 := Lib.hid ((T1.out.trans (hb.mono T1.out.size)).alloc (T1.out.trans (hb.mono T1.out.size)).size (stpO ⟨a, b, c⟩))
    have RX := Lib.hid (heap_alloc_new v2 (stpO ⟨a, b, c⟩))
    have gX := (Array.getElem?_eq_some_iff.1 RX.out).1
    have T2' := T1.out.trans (hb.mono T1.out.size)
    clear p0 p1 p2 p3 p4 p5 a0 a1 a2 hb
    obtain ⟨⟨p0, p1, p2, p3, p4, p5⟩, a0, a1, a2⟩ := KP.out _ T2'
    clear T2'
    generalize hv3 : v2.alloc (stpO ⟨a, b, c⟩) = v3 at T2 RX gX
    have KS := Lib.hid (fun W' (hW : Below v3.heap.size v3 W') => show (W'.cell? ⟨w1.heap.size, 0, none⟩ = some (.int .i64 p.ov) ∧ W'.cell? ⟨w1.heap.size, 1, none⟩ = some (.int .i64 p.ap) ∧ W'.cell? ⟨w1.heap.size, 2, none⟩ = some (.int .i64 p.se) ∧ W'.cell? ⟨w1.heap.size, 3, none⟩ = some (.int .i64 p.ho) ∧ W'.cell? ⟨w1.heap.size, 4, none⟩ = some (.slice S p.secs.length cS) ∧ W'.cell? ⟨w1.heap.size, 5, none⟩ = some (.slice G p.sigs.length cG)) ∧ (W'.cell? ⟨W.heap.size, 0, none⟩ = some (.int .i64 a) ∧ W'.cell? ⟨W.heap.size, 1, none⟩ = some (.int .i64 b) ∧ W'.cell? ⟨W.heap.size, 2, none⟩ = some (.int .i64 c)) ∧ W'.cell? ⟨v2.heap.size, 0, none⟩ = some (.int .i64 a) ∧ W'.cell? ⟨v2.heap.size, 1, none⟩ = some (.int .i64 b) ∧ W'.cell? ⟨v2.heap.size, 2, none⟩ = some (.int .i64 c) from
      ⟨(KP.out _ (T2.out.trans (hW.mono T2.out.size))).1, (KP.out _ (T2.out.trans (hW.mono T2.out.size))).2, (row3 ((hW.block _ gX).trans RX.out)).1⟩)
    have TW := Lib.hid (fun W' (hW : Below v3.heap.size v3 W') => T2.out.trans (hW.mono T2.out.size))
    have IW := Lib.hid (fun W' hW => I5.out.below (TW.out W' hW))
    have W0 := Lib.hid (Below.refl v3.heap.size v3)
    have G0 := Lib.hid (fun W' hW => Made.one (W0 := v3) hW (v := .bool true) rfl (AW.out W'))
    have ho := Wk.outs_len p a b
    have G1 := Lib.hid (fun W' hW => StepsMade.of (W0 := v3) (n := (Wk.outs p a b).length) (L := Wk.outs p a b) hW rfl rfl (pwOuts_any p S cS G cG a b W' (IW.out W' hW) hfew))
    have G2 := Lib.hid (fun W' hW => StepsMade.of (W0 := v3) (n := (Wk.outs p a b).length) (L := Wk.outs p a b) hW rfl rfl (rwOuts_any p S cS G cG a b W' (IW.out W' hW)))
    have G3 := Lib.hid (fun B1 d1 B2 d2 W' hW (h1 : LStp.Row W' B1 (Wk.outs p a b)) (h2 : LStp.Row W' B2 (Wk.outs p a b)) => Made.of (w := v3) hW (rwSame_any (Wk.outs p a b) B1 d1 B2 d2 W' h1 h2 (by omega)))
    have G4 := Lib.hid (fun W' hW => Made.one (W0 := v3) hW rfl (pwSignal_any p S cS G cG a b W' (IW.out W' hW) hfew))
    have G5 := Lib.hid (fun W' hW => Made.one (W0 := v3) hW rfl (rwSignal_any p S cS G cG a b W' (IW.out W' hW)))
    have G6 := Lib.hid (fun W' hW => (show Calls Try.prog 16 #[planV p S cS G cG, .agg #[.int .i64 a, .int .i64 b, .int .i64 c]] W' (Made v3 (.int .i64 (Wk.position p ⟨a, b, c⟩)) W') from Made.one (W0 := v3) hW rfl (pwPosition_any p S cS G cG ⟨a, b, c⟩ W' (IW.out W' hW) hfew)))
    have G7 := Lib.hid (fun W' hW => (show Calls Try.prog 17 #[planV p S cS G cG, .agg #[.int .i64 a, .int .i64 b, .int .i64 c]] W' (Made v3 (.int .i64 (Wk.position p ⟨a, b, c⟩)) W') from Made.one (W0 := v3) hW rfl (rwPosition_any p S cS G cG ⟨a, b, c⟩ W' (IW.out W' hW))))
    have G8 := Lib.hid (fun W' hW => Made.one (W0 := v3) hW rfl (pwWithin_any A d L a W' (I6.out.below rfl (TW.out W' hW)) (by omega)))
    have G9 := Lib.hid (fun W' hW => Made.of (w := v3) hW ((rwWithin_any A d L a W' (I6.out.below rfl (TW.out W' hW)) (by omega)).mono fun _ _ h => ⟨h.1, h.2 ▸ Below.refl _ _⟩))
    have B3 := Lib.hid (fun W' (hW : Below v3.heap.size v3 W') => B5.out.trans ((TW.out W' hW).mono B5.out.size))
    subst hv3
    clear C1 C2 KP T0 T1 T2 I5 I6 B5 AW ho
    go_wp2_with fail
    clear p0 p1 p2 p3 p4 p5 a0 a1 a2 gX gx gA5 RX RP
    generalize v2.alloc (stpO ⟨a, b, c⟩) = v3 at KS TW IW W0 G0 G1 G2 G3 G4 G5 G6 G7 G8 G9 B3 ⊢
    dsimp only [List.append]
    go_region_held3 (fun W' => (W'.cell? ⟨w1.heap.size, 0, none⟩ = some (.int .i64 p.ov) ∧ W'.cell? ⟨w1.heap.size, 1, none⟩ = some (.int .i64 p.ap) ∧ W'.cell? ⟨w1.heap.size, 2, none⟩ = some (.int .i64 p.se) ∧ W'.cell? ⟨w1.heap.size, 3, none⟩ = some (.int .i64 p.ho) ∧ W'.cell? ⟨w1.heap.size, 4, none⟩ = some (.slice S p.secs.length cS) ∧ W'.cell? ⟨w1.heap.size, 5, none⟩ = some (.slice G p.sigs.length cG)) ∧ (W'.cell? ⟨W.heap.size, 0, none⟩ = some (.int .i64 a) ∧ W'.cell? ⟨W.heap.size, 1, none⟩ = some (.int .i64 b) ∧ W'.cell? ⟨W.heap.size, 2, none⟩ = some (.int .i64 c)) ∧ W'.cell? ⟨v2.heap.size, 0, none⟩ = some (.int .i64 a) ∧ W'.cell? ⟨v2.heap.size, 1, none⟩ = some (.int .i64 b) ∧ W'.cell? ⟨v2.heap.size, 2, none⟩ = some (.int .i64 c))
      (first | with_reducible exact KS.out _ W0.out.drew | with_reducible exact KS.out _ hacc)
      (first
        | (go_at_call 8; (with_reducible refine (G0.out _ W0.out.drew).mono ?_); rintro e w' ⟨rfl, hbl, hacc, hz⟩)
        | (go_at_call 12; (with_reducible refine (G1.out _ hacc).mono ?_); rintro e w' ⟨B1, d1, rfl, hr1, hbl, hacc, hz⟩; have R1 := Lib.hid hr1)
        | (go_at_call 13; (with_reducible refine (G2.out _ hacc).mono ?_); rintro e w' ⟨B2, d2, rfl, hr2, hbl, hacc, hz⟩; have R2 := Lib.hid hr2; have R1' := Lib.hid (R1.out.below rfl hbl))
        | (go_at_call 11; (with_reducible refine (G3.out _ _ _ _ _ hacc R1'.out R2.out).mono ?_); rintro e w' ⟨rfl, hbl, hacc, hz⟩)
        | (go_at_call 14; (with_reducible refine (G4.out _ hacc).mono ?_); rintro e w' ⟨rfl, hbl, hacc, hz⟩)
        | (go_at_call 15; (with_reducible refine (G5.out _ hacc).mono ?_); rintro e w' ⟨rfl, hbl, hacc, hz⟩)
        | (go_at_call 16; (with_reducible refine (G6.out _ hacc).mono ?_); rintro e w' ⟨rfl, hbl, hacc, hz⟩)
        | (go_at_call 17; (with_reducible refine (G7.out _ hacc).mono ?_); rintro e w' ⟨rfl, hbl, hacc, hz⟩)
        | (go_at_call 18; (with_reducible refine (G8.out _ hacc).mono ?_); rintro e w' ⟨rfl, hbl, hacc, hz⟩)
        | (go_at_call 19; (with_reducible refine (G9.out _ hacc).mono ?_); rintro e w' ⟨rfl, hbl, hacc, hz⟩))
    all_goals go_wp2_with fail
    all_goals go_ret
    all_goals exact ⟨rfl, B3.out _ hacc⟩
end Go.Proofs.Ytgbeebjbmbikiaa
