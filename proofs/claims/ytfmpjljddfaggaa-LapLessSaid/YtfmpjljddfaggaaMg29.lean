/-
  Texts of this claim, merged: LpLaw.
-/
import Derived.Test.YtfmpjljddfaggaaMg01
import Derived.Test.YtfmpjljddfaggaaMg28
/-
  What the laws of layer 8 share: no station has no way.
-/
namespace Go.Proofs.Ytfmpjljddfaggaa
open Go.RowKit

theorem planIn_void {w : World} {p : Pl.Plan} {A A' : Option Addr} (h : p.secs = [] ∧ p.sigs = []) : PlanIn w p A A' := ⟨.inl h.1, .inl h.2⟩
theorem wayP_void {p : Pl.Plan} (h : p.secs = [] ∧ p.sigs = []) (x y : Int) : wayP p x y = none := by
  unfold wayP
  rw [h.2]
  rfl
theorem wayP_few {p : Pl.Plan} (h : p.secs = [] ∧ p.sigs = []) : p.sigs.length ≤ 12 := by rw [h.2]; decide
theorem sigAt_get {p : Pl.Plan} {i : Nat} (hi : i < p.sigs.length) : Cr.sigAt p (i : Int) = some p.sigs[i] := by
  unfold Cr.sigAt
  rw [if_neg (by omega), Int.toNat_natCast, List.getElem?_eq_getElem hi]
end Go.Proofs.Ytfmpjljddfaggaa
