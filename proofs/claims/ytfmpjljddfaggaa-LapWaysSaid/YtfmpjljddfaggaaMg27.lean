/-
  Texts of this claim, merged: CrAwake, CrLaw.
-/
import Derived.Test.YtfmpjljddfaggaaMg01
import Derived.Test.YtfmpjljddfaggaaMg18
import Derived.Test.YtfmpjljddfaggaaMg26
import Derived.Deep.CutRange
import Derived.Deep.RegionHeld3
/-
  The walk of layer 7's examples: they are as the document says.
-/
namespace Go.Proofs.Ytfmpjljddfaggaa
open Go.RowKit

def awL : Pl.Plan := ⟨3000, 15000, 2, 1, [⟨[69], false, 9000, ⟨3, 0, 3⟩, ⟨1, 0, -1⟩, ⟨-1, 0, -1⟩⟩, ⟨[70], false, 8000, ⟨0, 1, 7⟩, ⟨-1, 0, -1⟩, ⟨-1, 0, -1⟩⟩, ⟨[80], true, 5000, ⟨7, 1, -1⟩, ⟨4, 0, -1⟩, ⟨5, 0, -1⟩⟩, ⟨[81], true, 5000, ⟨0, 0, -1⟩, ⟨4, 1, -1⟩, ⟨5, 1, -1⟩⟩, ⟨[84], false, 7000, ⟨2, 1, 4⟩, ⟨3, 1, 1⟩, ⟨-1, 0, -1⟩⟩, ⟨[85], false, 7000, ⟨2, 2, 5⟩, ⟨3, 2, 2⟩, ⟨-1, 0, -1⟩⟩, ⟨[86], false, 8000, ⟨-1, 0, -1⟩, ⟨7, 0, 6⟩, ⟨-1, 0, -1⟩⟩, ⟨[87], false, 9000, ⟨6, 1, -1⟩, ⟨2, 0, 0⟩, ⟨-1, 0, -1⟩⟩], [⟨[65], 7, 1⟩, ⟨[66], 4, 1⟩, ⟨[67], 5, 1⟩, ⟨[68], 0, 0⟩, ⟨[71], 4, 0⟩, ⟨[72], 5, 0⟩, ⟨[73], 6, 1⟩, ⟨[74], 1, 0⟩]⟩
abbrev exL : ByteArray := ⟨((([111, 118, 101, 114, 108, 97, 112, 32, 51, 48, 48, 48, 10, 97, 112, 112, 114, 111, 97, 99, 104, 32, 49, 53, 48, 48, 48, 10, 115, 101, 116, 116, 108, 101, 32, 50, 10, 104, 111, 108, 100, 32, 49, 10, 115, 101, 99, 116].append [105, 111, 110, 32, 87, 32, 57, 48, 48, 48, 10, 115, 101, 99, 116, 105, 111, 110, 32, 86, 32, 56, 48, 48, 48, 10, 112, 111, 105, 110, 116, 32, 80, 32, 53, 48, 48, 48, 10, 115, 101, 99, 116, 105, 111, 110, 32, 84, 32]).append ([55, 48, 48, 48, 10, 115, 101, 99, 116, 105, 111, 110, 32, 85, 32, 55, 48, 48, 48, 10, 112, 111, 105, 110, 116, 32, 81, 32, 53, 48, 48, 48, 10, 115, 101, 99, 116, 105, 111, 110, 32, 69, 32, 57, 48, 48, 48, 10, 115].append [101, 99, 116, 105, 111, 110, 32, 70, 32, 56, 48, 48, 48, 10, 106, 111, 105, 110, 32, 86, 46, 98, 32, 87, 46, 97, 10, 106, 111, 105, 110, 32, 87, 46, 98, 32, 80, 46, 116, 10, 106, 111, 105, 110, 32, 80, 46, 110, 32])).append (([84, 46, 97, 10, 106, 111, 105, 110, 32, 80, 46, 114, 32, 85, 46, 97, 10, 106, 111, 105, 110, 32, 84, 46, 98, 32, 81, 46, 110, 10, 106, 111, 105, 110, 32, 85, 46, 98, 32, 81, 46, 114, 10, 106, 111, 105, 110, 32].append [81, 46, 116, 32, 69, 46, 97, 10, 106, 111, 105, 110, 32, 69, 46, 98, 32, 70, 46, 97, 10, 98, 117, 102, 102, 101, 114, 32, 86, 46, 97, 10, 98, 117, 102, 102, 101, 114, 32, 70, 46, 98, 10, 115, 105, 103, 110, 97, 108]).append ([32, 65, 32, 87, 46, 98, 10, 115, 105, 103, 110, 97, 108, 32, 66, 32, 84, 46, 98, 10, 115, 105, 103, 110, 97, 108, 32, 67, 32, 85, 46, 98, 10, 115, 105, 103, 110, 97, 108, 32, 68, 32, 69, 46, 97, 10, 115, 105, 103].append [110, 97, 108, 32, 71, 32, 84, 46, 97, 10, 115, 105, 103, 110, 97, 108, 32, 72, 32, 85, 46, 97, 10, 115, 105, 103, 110, 97, 108, 32, 73, 32, 86, 46, 98, 10, 115, 105, 103, 110, 97, 108, 32, 74, 32, 70, 46, 97, 10]))).toArray⟩
theorem exL_built : Pl.builtP exL.data.toList = (awL, 0, 0) := by decide +kernel
theorem made_exL : madeP exL.data.toList = some awL := by
  unfold madeP
  rw [exL_built]
  exact if_pos ⟨by decide +kernel, rfl⟩
theorem awL_of0 : Cr.of awL 0 = ([⟨[⟨2, 0, 1⟩, ⟨4, 0, 1⟩], 1⟩, ⟨[⟨2, 0, 2⟩, ⟨5, 0, 1⟩], 2⟩], 0) := by decide +kernel
theorem row_two2 (w : World) (y z : Wk.Stp) {g : Nat} (hg : w.heap.size = g) : LStp.Row (w.alloc (.cells #[.int .i64 y.s, .int .i64 y.f, .int .i64 y.t, .int .i64 z.s, .int .i64 z.f, .int .i64 z.t] 47)) (some ⟨g, 0, none⟩) [y, z] := hg ▸ Lies.Row.fresh (E := LStp) w [y, z] 47
abbrev twoO (y z : Wk.Stp) : Obj := .cells #[.int .i64 y.s, .int .i64 y.f, .int .i64 y.t, .int .i64 z.s, .int .i64 z.f, .int .i64 z.t] 47
end Go.Proofs.Ytfmpjljddfaggaa
/-
  What the laws of layer 7 share: ways made behind a world that stands, a number's rest by a length.
-/
namespace Go.Proofs.Ytfmpjljddfaggaa
open Go.RowKit

/-- Was that step met among the first ones? -/
def metS (l : List Wk.Stp) (z : Wk.Stp) (j : Nat) : Bool := (l.take j).any fun q => decide (q = z)
theorem metS_next {l : List Wk.Stp} {z q : Wk.Stp} {j : Nat} (h : l[j]? = some q) : metS l z (j + 1) = (metS l z j || decide (q = z)) := by
  unfold metS
  rw [List.take_add_one, h, List.any_append]
  simp
theorem metS_all {l : List Wk.Stp} {z : Wk.Stp} (h : z ∈ l) : metS l z l.length = true := by
  unfold metS
  rw [List.take_length, List.any_eq_true]
  exact ⟨z, h, decide_eq_true rfl⟩
/-- Ways, made behind a world that stands. -/
def WaysMade (W0 : World) (x : List Cr.Way × Int) (W : World) (e : Ending) (w' : World) : Prop := ∃ A c, e = .returned (.tuple #[.slice A x.1.length c, .int .i64 x.2]) ∧ WaysIn w' A x.1 ∧ Below W.heap.size W w' ∧ Below W0.heap.size W0 w' ∧ W.heap.size ≤ w'.heap.size
theorem WaysMade.of {W0 W : World} {x : List Cr.Way × Int} {f : FuncId} {xs : Array Value} (h : Below W0.heap.size W0 W) (hc : Calls Try.prog f xs W (WaysYes x W)) : Calls Try.prog f xs W (WaysMade W0 x W) :=
  hc.mono fun _ _ ⟨A, c, he, hw, hb⟩ => ⟨A, c, he, hw, hb, h.trans (hb.mono h.size), hb.size⟩
end Go.Proofs.Ytfmpjljddfaggaa
