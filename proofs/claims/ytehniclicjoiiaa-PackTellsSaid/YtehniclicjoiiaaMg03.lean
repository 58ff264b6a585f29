/-
  Texts of this claim, merged: PkOpen.
-/
import Derived.Test.YtehniclicjoiiaaMg01
import Derived.Test.YtehniclicjoiiaaMg02
import Derived.Deep.Slices
/-
  The arguments of layer 17's laws opened: slices of bytes, slices of numbers of 64 bits.
-/
namespace Go.Proofs.Ytehniclicjoiiaa
open Go.ChangeShapes Go.WideShapes Go.ChangeAt Go.RowKit

theorem cbyte13 : Try.prog.cellsOf 5 = 1 := by kernel_rfl
/-- Things of so many cells, one behind the other, each that reads as one. -/
theorem pick_row {α : Type} {E : Lies α} {Q : α → Prop} {w : World} {b o : Nat} : ∀ (n : Nat), (∀ i, i < n → ∃ y, E.On w b (o + i * E.m) y ∧ Q y) → ∃ L : List α, L.length = n ∧ (∀ k y, L[k]? = some y → E.On w b (o + k * E.m) y) ∧ ∀ y ∈ L, Q y
  | 0, _ => ⟨[], rfl, (fun k y h => by simp at h), (fun y h => by cases h)⟩
  | n + 1, h => by
    obtain ⟨L, hl, h1, h2⟩ := pick_row (Q := Q) n fun i hi => h i (by omega)
    obtain ⟨y, hy, hq⟩ := h n (by omega)
    refine ⟨L ++ [y], by simp [hl], fun k z hz => ?_, fun z hz => ?_⟩
    · rcases Nat.lt_or_ge k L.length with hk | hk
      · rw [List.getElem?_append_left hk] at hz; exact h1 k z hz
      · rw [List.getElem?_append_right hk] at hz
        have hk0 : k = n := by
          have := (List.getElem?_eq_some_iff.1 hz).1
          simp at this; omega
        subst hk0
        rw [hl, Nat.sub_self] at hz
        obtain rfl : y = z := by simpa using hz
        exact hy
    · rcases List.mem_append.1 hz with hz | hz
      · exact h2 z hz
      · obtain rfl : z = y := by simpa using hz
        exact hq
set_option maxRecDepth 100000 in
/-- A slice that reads as one: its elements lie in a row, each as it must be. -/
theorem open_row {α : Type} (E : Lies α) {Q : α → Prop} {e t : TypeId} (hu : Try.prog.underlying t = some (.slice e)) (hce : Try.prog.cellsOf e = E.m)
    {H : Type} {enc : TypeId × Value → H} {w : World} {base b0 : Nat} {r : Reach} {sp : Nat → Bool} {held : Bool} {v : Value} {d : DataW H} {p : List MemPlace}
    (hone : ∀ {base fuel b o cs} {x : DataW H × List MemPlace}, w.cells? base ⟨b, o, none⟩ E.m = some cs → DataW.trod enc Try.prog w base sp held fuel e cs = some x → ∃ y, E.On w b o y ∧ Q y)
    (hval : Value.okWide Try.prog w r b0 t v) (hd : DataW.Trod enc Try.prog w base sp held t v d p) :
    ∃ A c n L, v = .slice A n c ∧ L.length = n ∧ E.Row w A L ∧ n ≤ c ∧ n ≤ maxLen ∧ ∀ y ∈ L, Q y := by
  obtain ⟨a0, n0, c0, rfl⟩ := okWide_slice hu hval
  obtain ⟨fuel, hf⟩ := hd
  rcases Go.Deep.open_slice hu hf with ⟨h, _⟩ | ⟨a, len, cap, m, f, D, Pl, h, hb, hl, hm, hmm, _, hx⟩
  · simp [Value.cells] at h
    obtain ⟨rfl, rfl, rfl⟩ := h
    exact ⟨none, 0, 0, [], rfl, rfl, .inl rfl, Nat.le_refl _, Nat.zero_le _, fun y h => by cases h⟩
  · simp [Value.cells] at h
    obtain ⟨rfl, rfl, rfl⟩ := h
    have hlm : n0 ≤ m := by rw [hmm]; split <;> omega
    by_cases h0 : n0 = 0
    · subst h0
      exact ⟨some a, c0, 0, [], rfl, rfl, .inl rfl, hl, Nat.zero_le _, fun y h => by cases h⟩
    rw [hce] at hx
    have hp := E.pos
    obtain ⟨b, o, sp'⟩ := a
    have hsp : sp' = none := by
      obtain ⟨cs, hc, _⟩ := hx 0 (by omega)
      obtain ⟨_, hlen, hg⟩ := World.cells?_some hc
      have := hg 0 (by omega)
      rw [List.getElem?_eq_getElem (by omega)] at this
      have := World.cell?_spot this
      simpa [Addr.add] using this
    subst hsp
    obtain ⟨L, hL, h1, h2⟩ := pick_row (E := E) (Q := Q) (w := w) (b := b) (o := o) n0 fun i hi => by
      obtain ⟨cs, hc, ht⟩ := hx i (by omega)
      rw [Go.WideShapes.add_plain] at hc
      exact hone hc ht
    refine ⟨some ⟨b, o, none⟩, c0, n0, L, rfl, hL, .inr ⟨b, o, rfl, ?_, h1⟩, hl, by omega, h2⟩
    have hy : L[0]? = some L[0] := List.getElem?_eq_getElem (by omega)
    have h7 := h1 0 _ hy 0 ((E.enc L[0])[0]'(by rw [E.len]; exact hp)) (List.getElem?_eq_getElem _)
    exact World.block_lt_of_cell? _ _ h7
set_option maxRecDepth 100000 in
theorem bt_cells {H : Type} {enc : TypeId × Value → H} {w : World} {base : Nat} {sp : Nat → Bool} {held : Bool} {fuel : Nat} {b o : Nat} {cs : List Value} {x : DataW H × List MemPlace}
    (hc : w.cells? base ⟨b, o, none⟩ 1 = some cs) (hf : DataW.trod enc Try.prog w base sp held fuel 5 cs = some x) : ∃ y, LBt.On w b o y ∧ y < 256 := by
  obtain ⟨k, rfl, _, wk⟩ := DataW.trod_int Try.underlying5 hf
  have bk := wf_u8 wk
  obtain ⟨m, rfl⟩ : ∃ m : Nat, k = (m : Int) := ⟨k.toNat, by omega⟩
  refine ⟨m, fun j v hv => ?_, by omega⟩
  have hj : j < 1 := by
    have := (List.getElem?_eq_some_iff.1 hv).1
    rwa [LBt.len] at this
  obtain ⟨_, _, hg⟩ := World.cells?_some hc
  have := hg j hj
  rw [Go.WideShapes.add_plain] at this
  rw [this]
  exact hv
set_option maxRecDepth 100000 in
theorem open_bytes {H : Type} {enc : TypeId × Value → H} {w : World} {base b0 : Nat} {r : Reach} {sp : Nat → Bool} {held : Bool} {v : Value} {d : DataW H} {p : List MemPlace}
    (hval : Value.okWide Try.prog w r b0 22 v) (hd : DataW.Trod enc Try.prog w base sp held 22 v d p) :
    ∃ A c n L, v = .slice A n c ∧ L.length = n ∧ LBt.Row w A L ∧ n ≤ c ∧ n ≤ maxLen ∧ ∀ y ∈ L, y < 256 :=
  open_row LBt (Q := fun y => y < 256) Try.underlying22 cbyte13 (fun hc hf => bt_cells hc hf) hval hd
theorem clong17 : Try.prog.cellsOf 30 = 1 := by kernel_rfl
set_option maxRecDepth 100000 in
theorem long_cells {H : Type} {enc : TypeId × Value → H} {w : World} {base : Nat} {sp : Nat → Bool} {held : Bool} {fuel : Nat} {b o : Nat} {cs : List Value} {x : DataW H × List MemPlace}
    (hc : w.cells? base ⟨b, o, none⟩ 1 = some cs) (hf : DataW.trod enc Try.prog w base sp held fuel 30 cs = some x) : ∃ y, LLong.On w b o y ∧ y < 18446744073709551616 := by
  obtain ⟨k, rfl, _, wk⟩ := DataW.trod_int Try.underlying30 hf
  have bk := wf_u64 wk
  obtain ⟨m, rfl⟩ : ∃ m : Nat, k = (m : Int) := ⟨k.toNat, by omega⟩
  refine ⟨m, fun j v hv => ?_, by omega⟩
  have hj : j < 1 := by
    have := (List.getElem?_eq_some_iff.1 hv).1
    rwa [LLong.len] at this
  obtain ⟨_, _, hg⟩ := World.cells?_some hc
  have := hg j hj
  rw [Go.WideShapes.add_plain] at this
  rw [this]
  exact hv
set_option maxRecDepth 100000 in
theorem open_longs {H : Type} {enc : TypeId × Value → H} {w : World} {base b0 : Nat} {r : Reach} {sp : Nat → Bool} {held : Bool} {v : Value} {d : DataW H} {p : List MemPlace}
    (hval : Value.okWide Try.prog w r b0 37 v) (hd : DataW.Trod enc Try.prog w base sp held 37 v d p) :
    ∃ A c n L, v = .slice A n c ∧ L.length = n ∧ LLong.Row w A L ∧ n ≤ c ∧ n ≤ maxLen ∧ ∀ y ∈ L, y < 18446744073709551616 :=
  open_row LLong (Q := fun y => y < 18446744073709551616) Try.underlying37 clong17 (fun hc hf => long_cells hc hf) hval hd
end Go.Proofs.Ytehniclicjoiiaa
