/-
  A law's argument that is a slice of texts, opened once for all laws: its cells, its length, the bounds. And tables of whatever depth, laid in a witness's world.
-/
import Derived.Test.YtgagandecjljoaaDoorLnMem
import Derived.Deep.Strs
namespace Go.Proofs.YtgagandecjljoaaDoor
open Go.ChangeShapes Go.WideShapes Go.ChangeAt Go.RowKit

theorem open_texts {H : Type} {enc : TypeId × Value → H} {P : Program} {w : World} {base b0 : Nat} {r : Reach} {sp : Nat → Bool} {held : Bool} {t e : TypeId} {v : Value} {d : DataW H} {p : List MemPlace}
    (ht : P.underlying t = some (.slice e)) (he : P.underlying e = some .string) (hc : P.cellsOf e = 1) (hval : Value.okWide P w r b0 t v) (hd : DataW.Trod enc P w base sp held t v d p) :
    ∃ A c n L, v = .slice A n c ∧ L.length = n ∧ Strs w A L ∧ n ≤ c ∧ n ≤ maxLen ∧ ∀ x ∈ L, x.length ≤ maxLen := by
  obtain ⟨a0, n0, c0, rfl⟩ := okWide_slice ht hval
  obtain ⟨fuel, hf⟩ := hd
  rcases Go.Deep.open_strs ht he hc hf with ⟨h, _⟩ | ⟨a, len, cap, m, Sx, h, hb, hl, hm, hmm, _, hx⟩
  · simp [Value.cells] at h
    obtain ⟨rfl, rfl, rfl⟩ := h
    exact ⟨none, 0, 0, [], rfl, rfl, Strs.nil _ _, Nat.le_refl _, Nat.zero_le _, by simp⟩
  · simp [Value.cells] at h
    obtain ⟨rfl, rfl, rfl⟩ := h
    have hlm : n0 ≤ m := by rw [hmm]; split <;> omega
    refine ⟨some a, c0, n0, (List.range n0).map fun i => (Sx i).data.toList, rfl, by simp, fun k x hk => ?_, hl, by omega, fun x hx' => ?_⟩
    · have hk2 : k < n0 := by
        have := (List.getElem?_eq_some_iff.1 hk).1
        simpa using this
      have hkx : x = (Sx k).data.toList := by simpa [List.getElem?_map, hk2] using hk.symm
      have hcell := (hx k (by omega)).1
      subst hkx
      refine ⟨a, rfl, ?_, by rw [str_of]; exact hcell⟩
      have := World.block_lt_of_cell? _ _ hcell
      rwa [add_block] at this
    · obtain ⟨i, hi, rfl⟩ := List.mem_map.1 hx'
      have := (hx i (by have := List.mem_range.1 hi; omega)).2
      simpa using this

/-- The cells that a laid datum tells, one behind the other. -/
def flatCells : Nat → DataW Unit → List Value
  | 0, _ => []
  | _ + 1, .lit (.int k n) => [.int k n]
  | f + 1, .agg l => l.flatMap (flatCells f)
  | _ + 1, _ => [undef]
end Go.Proofs.YtgagandecjljoaaDoor

