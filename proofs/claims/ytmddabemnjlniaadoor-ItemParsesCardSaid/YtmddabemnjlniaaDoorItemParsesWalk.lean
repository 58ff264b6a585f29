/-
  The walk of the law ItemParses: it returns true.
-/
import Derived.Test.YtmddabemnjlniaaDoorItKit
namespace Go.Proofs.YtmddabemnjlniaaDoor
open Go.RowKit

set_option maxHeartbeats 4000000 in
set_option maxRecDepth 100000 in
theorem itemParses_walk (s : ByteArray) (W : World) (ws : s.size ≤ maxLen) (hE : Env W) :
    Calls Tryd.prog 4 #[.string s] W fun e w' => e = .returned (.bool true) ∧ Below W.heap.size W w' := by
  unfold maxLen at ws
  by_cases hl : 200 < s.size
  · have h1 : decide (200 < (s.size : Int)) = true := dec_t (by omega)
    have A := Lib.hid (awake_any W hE)
    clear hl hE
    go_enter Tryd.func4, Tryd.ntmps4
    go_wp2_with fail
    refine A.out.mono ?_; rintro e w' ⟨rfl, hb⟩
    go_wp2_with fail
    go_ret
    exact ⟨rfl, hb⟩
  · have h1 : decide (200 < (s.size : Int)) = false := dec_f (by omega)
    have P := Lib.hid (iparse_any s W hE (by omega))
    have R := Lib.hid (fun w => riparse_any s w (by omega))
    have AW := Lib.hid awake_any
    have HE := Lib.hid hE
    clear hl hE
    go_enter Tryd.func4, Tryd.ntmps4
    go_wp2_with fail
    refine P.out.mono ?_; rintro e w1 ⟨y, rfl, hy, hb1⟩
    have HE1 := Lib.hid (HE.out.below rfl hb1)
    have hB1 := Lib.hid hb1
    have HY := Lib.hid hy
    clear hb1 hy
    go_wp2_with fail
    refine (R.out _).mono ?_; rintro e w2 ⟨z, rfl, hz, hb2⟩
    obtain rfl : y = z := HY.out.trans hz.symm
    have R1 := Lib.hid (fresh_row hb2)
    have HE2 := Lib.hid ((HE1.out.below rfl ((Below.refl _ _).alloc (Nat.le_refl _) _)).below rfl hb2)
    have hB2 := Lib.hid (hB1.out.trans ((((Below.refl w1.heap.size w1).alloc (Nat.le_refl _) _).trans (hb2.mono (by simp))).mono hB1.out.size))
    clear hz hb2 P R HE HE1 hB1
    go_wp2_with fail
    refine (AW.out _ (HE2.out.below rfl ((Below.refl _ _).alloc (Nat.le_refl _) _))).mono ?_; rintro e w3 ⟨rfl, hb3⟩
    have S1 := Lib.hid (keep_row R1.out hb3)
    have S2 := Lib.hid (fresh_row hb3)
    have hB3 := Lib.hid (hB2.out.trans ((((Below.refl w2.heap.size w2).alloc (Nat.le_refl _) _).trans (hb3.mono (by simp))).mono hB2.out.size))
    clear hb3 R1 HE2 hB2 AW
    obtain ⟨⟨p0, p1, p2, p3, p4, p5, p6⟩, _, hp⟩ := row7 S1.out
    obtain ⟨⟨q0, q1, q2, q3, q4, q5, q6⟩, _, hq⟩ := row7 S2.out
    have Q := fun W => bin_items W y y
    rw [show decide (y = y) = true by simp] at Q
    go_wp2_with fail
    go_ret
    exact ⟨rfl, hB3.out⟩
end Go.Proofs.YtmddabemnjlniaaDoor

