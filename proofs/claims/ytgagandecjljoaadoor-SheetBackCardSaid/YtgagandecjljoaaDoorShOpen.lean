/-
  A law's argument that is a slice of items, opened: its cells, its length, the bounds.
-/
import Derived.Test.YtgagandecjljoaaDoorShMem
import Derived.Test.YtgagandecjljoaaDoorLawKit
import Derived.Deep.Slices
namespace Go.Proofs.YtgagandecjljoaaDoor
open Go.ChangeShapes Go.WideShapes Go.ChangeAt Go.RowKit

/-- An item whose number and texts are of this machine. -/
def ItemMach (y : It.Itm) : Prop := y.n ≤ 9223372036854775807 ∧ y.name.length ≤ maxLen ∧ y.e0.n.length ≤ maxLen ∧ y.e1.n.length ≤ maxLen
set_option maxRecDepth 100000 in
theorem item_cells {H : Type} {enc : TypeId × Value → H} {w : World} {base : Nat} {sp : Nat → Bool} {held : Bool} {fuel : Nat} {b o : Nat} {cs : List Value} {x : DataW H × List MemPlace}
    (hc : w.cells? base ⟨b, o, none⟩ 7 = some cs) (hf : DataW.trod enc Tryd.prog w base sp held fuel 38 cs = some x) : ∃ y, It7 w b o y ∧ ItemMach y := by
  obtain ⟨k, nm, n, a, ac, b', bc, rfl, h1, h2, h3, h4⟩ := trod_item hf
  refine ⟨⟨k, nm.data.toList, n, ⟨a.data.toList, ac⟩, ⟨b'.data.toList, bc⟩⟩, fun j v hv => ?_, h1, by simpa using h2, by simpa using h3, by simpa using h4⟩
  have hj := (List.getElem?_eq_some_iff.1 hv).1
  rw [cells7_length] at hj
  obtain ⟨_, _, hg⟩ := World.cells?_some hc
  have := hg j hj
  rw [Go.WideShapes.add_plain] at this
  rw [this]
  simpa [cells7, txt_of] using hv
theorem pick_items {w : World} {b o : Nat} {p : It.Itm → Prop} : ∀ (n : Nat), (∀ i, i < n → ∃ y, It7 w b (o + i * 7) y ∧ p y) → ∃ L : List It.Itm, L.length = n ∧ (∀ k y, L[k]? = some y → It7 w b (o + k * 7) y) ∧ ∀ y ∈ L, p y
  | 0, _ => ⟨[], rfl, fun k y h => by simp at h, fun y h => by cases h⟩
  | n + 1, h => by
    obtain ⟨L, hl, h1, h2⟩ := pick_items n fun i hi => h i (by omega)
    obtain ⟨y, hy, hp⟩ := h n (by omega)
    refine ⟨L ++ [y], by simp [hl], fun k z hz => ?_, fun z hz => ?_⟩
    · rcases Nat.lt_or_ge k L.length with hk | hk
      · rw [List.getElem?_append_left hk] at hz; exact h1 k z hz
      · rw [List.getElem?_append_right hk] at hz
        have hk0 : k = n := by
          have := (List.getElem?_eq_some_iff.1 hz).1
          simp at this; omega
        subst hk0
        rw [hl, Nat.sub_self] at hz
        obtain rfl : y = z := by simpa using hz
        exact hy
    · rcases List.mem_append.1 hz with hz | hz
      · exact h2 z hz
      · obtain rfl : z = y := by simpa using hz
        exact hp
set_option maxRecDepth 100000 in
theorem open_items {H : Type} {enc : TypeId × Value → H} {w : World} {base b0 : Nat} {r : Reach} {sp : Nat → Bool} {held : Bool} {v : Value} {d : DataW H} {p : List MemPlace}
    (hval : Value.okWide Tryd.prog w r b0 22 v) (hd : DataW.Trod enc Tryd.prog w base sp held 22 v d p) :
    ∃ A c n L, v = .slice A n c ∧ L.length = n ∧ Its w A L ∧ n ≤ c ∧ n ≤ maxLen ∧ ∀ y ∈ L, ItemMach y := by
  obtain ⟨a0, n0, c0, rfl⟩ := okWide_slice Tryd.underlying22 hval
  obtain ⟨fuel, hf⟩ := hd
  rcases Go.Deep.open_slice Tryd.underlying22 hf with ⟨h, _⟩ | ⟨a, len, cap, m, f, D, Pl, h, hb, hl, hm, hmm, _, hx⟩
  · simp [Value.cells] at h
    obtain ⟨rfl, rfl, rfl⟩ := h
    exact ⟨none, 0, 0, [], rfl, rfl, .inl rfl, Nat.le_refl _, Nat.zero_le _, fun y h => by cases h⟩
  · simp [Value.cells] at h
    obtain ⟨rfl, rfl, rfl⟩ := h
    have hlm : n0 ≤ m := by rw [hmm]; split <;> omega
    by_cases h0 : n0 = 0
    · subst h0
      exact ⟨some a, c0, 0, [], rfl, rfl, .inl rfl, hl, Nat.zero_le _, fun y h => by cases h⟩
    rw [cI26] at hx
    obtain ⟨b, o, sp'⟩ := a
    have hsp : sp' = none := by
      obtain ⟨cs, hc, _⟩ := hx 0 (by omega)
      obtain ⟨_, hlen, hg⟩ := World.cells?_some hc
      have := hg 0 (by omega)
      rw [List.getElem?_eq_getElem (by omega)] at this
      have := World.cell?_spot this
      simpa [Addr.add] using this
    subst hsp
    obtain ⟨L, hL, h1, h2⟩ := pick_items (w := w) (b := b) (o := o) (p := ItemMach) n0 fun i hi => by
      obtain ⟨cs, hc, ht⟩ := hx i (by omega)
      rw [Go.WideShapes.add_plain] at hc
      exact item_cells hc ht
    refine ⟨some ⟨b, o, none⟩, c0, n0, L, rfl, hL, .inr ⟨b, o, rfl, ?_, h1⟩, hl, by omega, h2⟩
    have h7 := h1 0 _ (List.getElem?_eq_getElem (by omega)) 0 _ rfl
    exact World.block_lt_of_cell? _ _ h7
end Go.Proofs.YtgagandecjljoaaDoor

