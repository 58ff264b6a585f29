/-
  Texts of this claim, merged: CrLaw.
-/
import Derived.Test.YtakdpggdjllnpaaMg01
import Derived.Test.YtakdpggdjllnpaaMg21
import Derived.Deep.CutRange
import Derived.Deep.RegionHeld3
/-
  What the laws of layer 7 share: ways made behind a world that stands, a number's rest by a length.
-/
namespace Go.Proofs.Ytakdpggdjllnpaa
open Go.RowKit

/-- Was that step met among the first ones? -/
def metS (l : List Wk.Stp) (z : Wk.Stp) (j : Nat) : Bool := (l.take j).any fun q => decide (q = z)
theorem metS_next {l : List Wk.Stp} {z q : Wk.Stp} {j : Nat} (h : l[j]? = some q) : metS l z (j + 1) = (metS l z j || decide (q = z)) := by
  unfold metS
  rw [List.take_add_one, h, List.any_append]
  simp
theorem metS_all {l : List Wk.Stp} {z : Wk.Stp} (h : z ∈ l) : metS l z l.length = true := by
  unfold metS
  rw [List.take_length, List.any_eq_true]
  exact ⟨z, h, decide_eq_true rfl⟩
/-- Ways, made behind a world that stands. -/
def WaysMade (W0 : World) (x : List Cr.Way × Int) (W : World) (e : Ending) (w' : World) : Prop := ∃ A c, e = .returned (.tuple #[.slice A x.1.length c, .int .i64 x.2]) ∧ WaysIn w' A x.1 ∧ Below W.heap.size W w' ∧ Below W0.heap.size W0 w' ∧ W.heap.size ≤ w'.heap.size
theorem WaysMade.of {W0 W : World} {x : List Cr.Way × Int} {f : FuncId} {xs : Array Value} (h : Below W0.heap.size W0 W) (hc : Calls Try.prog f xs W (WaysYes x W)) : Calls Try.prog f xs W (WaysMade W0 x W) :=
  hc.mono fun _ _ ⟨A, c, he, hw, hb⟩ => ⟨A, c, he, hw, hb, h.trans (hb.mono h.size), hb.size⟩
/-- A number's rest by a length. -/
theorem rem_len {i : Int} {n : Nat} (h0 : 0 ≤ i) (hn : n ≠ 0) : i.tmod (n : Int) = ((i.toNat % n : Nat) : Int) ∧ i.toNat % n < n := by
  refine ⟨?_, Nat.mod_lt _ (by omega)⟩
  rw [Int.tmod_eq_emod_of_nonneg h0]
  have : i = (i.toNat : Int) := by omega
  rw [this, Int.toNat_natCast]
  rfl
end Go.Proofs.Ytakdpggdjllnpaa
