/-
  Texts of this claim, merged: NearTellsWalk.
-/
import Derived.Test.YtgajdfecajleiaaMg25
/-
  The walk of the law NearTells: it returns true.
-/
namespace Go.Proofs.Ytgajdfecajleiaa
open Go.RowKit

set_option maxHeartbeats 16000000 in
set_option maxRecDepth 100000 in
theorem nearTells_walk (s : ByteArray) (i : Int) (W : World) (_ws : s.size ≤ maxLen) (_wi : (Lit.int .i64 i).wf = true) :
    Calls Try.prog 3 #[.string s, .int .i64 i] W fun e w' => e = .returned (.bool true) ∧ Below W.heap.size W w' := by
  have AW := Lib.hid nrAwake_any
  cases hm : madeP s.data.toList with
  | none =>
    have CM := Lib.hid (fun W => made_void hm W)
    go_enter Try.func3, Try.ntmps3
    go_wp2_with fail
    refine (CM.out _).mono ?_; rintro e w1 ⟨p, S, cS, G, cG, rfl, -, hb1⟩
    have B5 := Lib.hid (hb1.alloc hb1.size (planO p S cS G cG))
    clear hb1
    go_wp2_with fail
    refine (AW.out _).mono ?_; rintro e w8 ⟨rfl, hb8⟩
    go_wp2
    go_ret
    exact ⟨rfl, B5.out.trans (hb8.mono B5.out.size)⟩
  | some p =>
    obtain ⟨hfit, hmeas, hap, -⟩ := madeP_near hm
    have hap2 : 0 ≤ p.ap ∧ p.ap ≤ 1125899906842624 := by omega
    have CM := Lib.hid (fun W => made_some hm W)
    clear hm hap
    go_enter Try.func3, Try.ntmps3
    go_wp2_with fail
    refine (CM.out _).mono ?_; rintro e w1 ⟨S, cS, G, cG, rfl, pin, hb1⟩
    have X1 := (Below.refl w1.heap.size w1).alloc (Nat.le_refl _) (planO p S cS G cG)
    have B5 := Lib.hid (hb1.trans (X1.mono hb1.size))
    have I5 := Lib.hid (pin.below X1)
    have RP := Lib.hid (heap_alloc_new w1 (planO p S cS G cG))
    obtain ⟨⟨p0, p1, p2, p3, p4, p5⟩, -, gx⟩ := row6 RP.out
    clear hb1 pin CM X1
    go_upto_region 4 with fail
    generalize w1.alloc (planO p S cS G cG) = w5 at B5 I5 RP p0 p1 p2 p3 p4 p5 gx ⊢
    generalize w1.heap.size = g at RP p0 p1 p2 p3 p4 p5 gx ⊢
    have CP := Lib.hid (pnOf_any p hfit hmeas hap2 S cS G cG i w5 I5.out)
    have CR := Lib.hid (fun W' (hW : Below w5.heap.size w5 W') => rnOf_any p hfit hmeas hap2 S cS G cG i W' (I5.out.below hW))
    have hfl : (Nr.of p i).1.length ≤ 24 := Nr.of_len hfit
    generalize Nr.of p i = x at CP CR hfl
    obtain ⟨l, m⟩ := x
    simp only at hfl
    go_wp2_with fail
    refine CP.out.mono ?_; rintro e w6 ⟨B1, d1, rfl, hR1, hb6, -⟩
    have T6 := Lib.hid hb6
    have R1 := Lib.hid hR1
    obtain ⟨⟨q0, q1, q2, q3, q4, q5⟩, -, -⟩ := row6 ((hb6.block _ gx).trans RP.out)
    clear p0 p1 p2 p3 p4 p5 hR1 hb6 CP
    go_wp2_with fail
    refine (CR.out _ T6.out).mono ?_; rintro e w7 ⟨B2, d2, rfl, hR2, hb7, -⟩
    have T7 := Lib.hid (T6.out.trans (hb7.mono T6.out.size))
    have R2 := Lib.hid hR2
    have R17 := Lib.hid (R1.out.below rfl hb7)
    clear q0 q1 q2 q3 q4 q5 hR2 hb7 CR
    have DE : (m == m) = true := beq_self_eq_true m
    go_wp2_with fail
    refine (AW.out _).mono ?_; rintro e w8 ⟨rfl, hb8⟩
    have CS := Lib.hid (nrOne.to (v := .bool true) (by rw [decide_eq_true rfl]) (nrInts_any B1 d1 l.length (ints l) B2 d2 l.length (ints l) w8 (ints_len l) (R17.out.below rfl hb8) (by omega) (ints_len l) (R2.out.below rfl hb8)))
    have T8 := Lib.hid (T7.out.trans (hb8.mono T7.out.size))
    clear hb8
    go_wp2_with fail
    refine CS.out.mono ?_; rintro e w9 ⟨rfl, hb9⟩
    have YF := Lib.hid (B5.out.trans ((T8.out.trans (hb9.mono T8.out.size)).mono B5.out.size))
    clear hb9 CS
    go_wp2_with fail
    go_ret
    exact ⟨rfl, YF.out⟩
end Go.Proofs.Ytgajdfecajleiaa
