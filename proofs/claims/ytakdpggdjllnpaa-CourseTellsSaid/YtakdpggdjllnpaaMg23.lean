/-
  Texts of this claim, merged: CourseTellsWalk.
-/
import Derived.Test.YtakdpggdjllnpaaMg21
import Derived.Test.YtakdpggdjllnpaaMg22
/-
  The walk of the law CourseTells: it returns true.
-/
namespace Go.Proofs.Ytakdpggdjllnpaa
open Go.RowKit

set_option maxHeartbeats 8000000 in
set_option maxRecDepth 100000 in
theorem courseTells_walk (s : ByteArray) (i : Int) (W : World) (_ws : s.size ≤ maxLen) (_wi : (Lit.int .i64 i).wf = true) :
    Calls Try.prog 3 #[.string s, .int .i64 i] W fun e w' => e = .returned (.bool true) ∧ Below W.heap.size W w' := by
  have AW := Lib.hid crAwake_any
  cases hm : madeP s.data.toList with
  | none =>
    have CM := Lib.hid (fun W => made_none hm W)
    clear hm
    go_enter Try.func3, Try.ntmps3
    go_wp2_with fail
    refine (CM.out _).mono ?_; rintro e w1 ⟨p, S, cS, G, cG, rfl, hb1⟩
    have B1 := Lib.hid (hb1.alloc hb1.size (planO p S cS G cG))
    clear hb1
    go_wp2_with fail
    refine (AW.out _).mono ?_; rintro e w2 ⟨rfl, hb2⟩
    go_wp2
    go_ret
    exact ⟨rfl, B1.out.trans (hb2.mono B1.out.size)⟩
  | some p =>
    have CM := Lib.hid (fun W => made_some hm W)
    obtain ⟨hfit, -⟩ := madeP_some hm
    have hfew := hfit.few
    have hgfew := hfit.gfew
    have hlen := Cr.of_len p i
    have hst := Lib.hid (fun y (hy : y ∈ (Cr.of p i).1) => Cr.of_steps hy)
    clear hm hfit
    go_enter Try.func3, Try.ntmps3
    go_wp2_with fail
    refine (CM.out _).mono ?_; rintro e w1 ⟨S, cS, G, cG, rfl, pin, hb1⟩
    have X1 := (Below.refl w1.heap.size w1).alloc (Nat.le_refl _) (planO p S cS G cG)
    have B5 := Lib.hid (hb1.trans (X1.mono hb1.size))
    have I5 := Lib.hid (pin.below X1)
    have RP := Lib.hid (heap_alloc_new w1 (planO p S cS G cG))
    have gx := (Array.getElem?_eq_some_iff.1 RP.out).1
    clear hb1 X1 pin CM
    generalize hw5 : w1.alloc (planO p S cS G cG) = w5 at B5 I5 RP gx
    have KP := Lib.hid (fun W' (hW : Below w5.heap.size w5 W') => (row6 ((hW.block _ gx).trans RP.out)).1)
    have T0 := Lib.hid (Below.refl w5.heap.size w5)
    have C1 := Lib.hid (fun W' (hW : Below w5.heap.size w5 W') => pcOf_any p S cS G cG i W' (I5.out.below hW) hfew hgfew)
    have C2 := Lib.hid (fun W' (hW : Below w5.heap.size w5 W') => rcOf_any p S cS G cG i W' (I5.out.below hW))
    generalize Cr.of p i = x at C1 C2 hlen hst
    obtain ⟨L, er⟩ := x
    obtain ⟨p0, p1, p2, p3, p4, p5⟩ := KP.out _ T0.out
    subst hw5
    go_wp2_with fail
    refine (C1.out _ T0.out).mono ?_; rintro e v1 ⟨L1, k1, rfl, hW1, hb⟩
    have T1 := Lib.hid (T0.out.trans (hb.mono T0.out.size))
    have Q1 := Lib.hid hW1
    clear p0 p1 p2 p3 p4 p5 hb hW1
    obtain ⟨p0, p1, p2, p3, p4, p5⟩ := KP.out _ T1.out
    go_wp2_with fail
    refine (C2.out _ T1.out).mono ?_; rintro e v2 ⟨L2, k2, rfl, hW2, hb⟩
    have T2 := Lib.hid (T1.out.trans (hb.mono T1.out.size))
    have Q2 := Lib.hid hW2
    have Q12 := Lib.hid (Q1.out.below hb)
    clear p0 p1 p2 p3 p4 p5 hb hW2
    have hq : (er == er) = true := by simp
    go_wp2_with fail
    refine (AW.out _).mono ?_; rintro e w2 ⟨rfl, hb2⟩
    have B6 := Lib.hid (T2.out.trans (hb2.mono T2.out.size))
    have CS := Lib.hid (rcSame_any L L1 k1 L2 k2 w2 (Q12.out.below hb2) (Q2.out.below hb2) (Nat.le_trans hlen (by decide)) hst.out)
    clear hb2
    go_wp2_with fail
    refine CS.out.mono ?_; rintro e w3 ⟨rfl, hb3⟩
    have B7 := Lib.hid (B6.out.trans (hb3.mono B6.out.size))
    clear hb3
    go_wp2_with fail
    go_ret
    exact ⟨rfl, B5.out.trans (B7.out.mono B5.out.size)⟩
end Go.Proofs.Ytakdpggdjllnpaa
