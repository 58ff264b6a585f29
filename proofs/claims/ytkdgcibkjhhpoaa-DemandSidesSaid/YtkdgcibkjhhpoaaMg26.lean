/-
  Texts of this claim, merged: DmOpen.
-/
import Derived.Test.YtkdgcibkjhhpoaaMg01
import Derived.Test.YtkdgcibkjhhpoaaMg25
import Derived.Deep.Slices
/-
  The arguments of layer 9's laws opened: a slice of demands; a slice of pairs of bytes.
-/
namespace Go.Proofs.Ytkdgcibkjhhpoaa
open Go.ChangeShapes Go.WideShapes Go.ChangeAt Go.RowKit

theorem cint9 : Try.prog.cellsOf 3 = 1 := by kernel_rfl
theorem cdem9 : Try.prog.cellsOf 32 = 2 := by kernel_rfl
theorem cbyte9 : Try.prog.cellsOf 5 = 1 := by kernel_rfl
theorem cpair9 : Try.prog.cellsOf 42 = 2 := by kernel_rfl
/-- Things of so many cells, one behind the other, each that reads as one. -/
theorem pick_row {α : Type} {E : Lies α} {Q : α → Prop} {w : World} {b o : Nat} : ∀ (n : Nat), (∀ i, i < n → ∃ y, E.On w b (o + i * E.m) y ∧ Q y) → ∃ L : List α, L.length = n ∧ (∀ k y, L[k]? = some y → E.On w b (o + k * E.m) y) ∧ ∀ y ∈ L, Q y
  | 0, _ => ⟨[], rfl, (fun k y h => by simp at h), (fun y h => by cases h)⟩
  | n + 1, h => by
    obtain ⟨L, hl, h1, h2⟩ := pick_row (Q := Q) n fun i hi => h i (by omega)
    obtain ⟨y, hy, hq⟩ := h n (by omega)
    refine ⟨L ++ [y], by simp [hl], fun k z hz => ?_, fun z hz => ?_⟩
    · rcases Nat.lt_or_ge k L.length with hk | hk
      · rw [List.getElem?_append_left hk] at hz; exact h1 k z hz
      · rw [List.getElem?_append_right hk] at hz
        have hk0 : k = n := by
          have := (List.getElem?_eq_some_iff.1 hz).1
          simp at this; omega
        subst hk0
        rw [hl, Nat.sub_self] at hz
        obtain rfl : y = z := by simpa using hz
        exact hy
    · rcases List.mem_append.1 hz with hz | hz
      · exact h2 z hz
      · obtain rfl : z = y := by simpa using hz
        exact hq
set_option maxRecDepth 100000 in
theorem dem_cells {H : Type} {enc : TypeId × Value → H} {w : World} {base : Nat} {sp : Nat → Bool} {held : Bool} {fuel : Nat} {b o : Nat} {cs : List Value} {x : DataW H × List MemPlace}
    (hc : w.cells? base ⟨b, o, none⟩ 2 = some cs) (hf : DataW.trod enc Try.prog w base sp held fuel 32 cs = some x) : ∃ y, LDem.On w b o y ∧ True := by
  obtain ⟨xs, n, _, _, hl, hlen, hg⟩ := DataW.trod_struct Try.underlying32 hf
  rw [cdem9] at hl
  match cs, hl with
  | [c0, c1], _ =>
    match xs, hlen with
    | [y0, y1], _ =>
      have h0 := hg 0 _ rfl
      have h1 := hg 1 _ rfl
      simp [cint9] at h0 h1
      obtain ⟨k, hk, _, _⟩ := DataW.trod_int Try.underlying3 h0
      obtain ⟨m, hm, _, _⟩ := DataW.trod_int Try.underlying3 h1
      simp only [List.cons.injEq, and_true] at hk hm
      subst hk hm
      refine ⟨⟨k, m⟩, fun j v hv => ?_, trivial⟩
      have hj : j < 2 := by
        have := (List.getElem?_eq_some_iff.1 hv).1
        rwa [LDem.len] at this
      obtain ⟨_, _, hg⟩ := World.cells?_some hc
      have := hg j hj
      rw [Go.WideShapes.add_plain] at this
      rw [this]
      exact hv
set_option maxRecDepth 100000 in
theorem pair_cells {H : Type} {enc : TypeId × Value → H} {w : World} {base : Nat} {sp : Nat → Bool} {held : Bool} {fuel : Nat} {b o : Nat} {cs : List Value} {x : DataW H × List MemPlace}
    (hc : w.cells? base ⟨b, o, none⟩ 2 = some cs) (hf : DataW.trod enc Try.prog w base sp held fuel 42 cs = some x) : ∃ y, LPr.On w b o y ∧ (0 ≤ y.1 ∧ y.1 < 256) ∧ 0 ≤ y.2 ∧ y.2 < 256 := by
  obtain ⟨xs, n, _, _, hl, hlen, hg⟩ := DataW.trod_array Try.underlying42 hf
  rw [cpair9] at hl
  match cs, hl with
  | [c0, c1], _ =>
    match xs, hlen with
    | [y0, y1], _ =>
      have h0 := hg 0 (by omega)
      have h1 := hg 1 (by omega)
      simp [cbyte9] at h0 h1
      obtain ⟨k, hk, _, wk⟩ := DataW.trod_int Try.underlying5 h0
      obtain ⟨m, hm, _, wm⟩ := DataW.trod_int Try.underlying5 h1
      simp only [List.cons.injEq, and_true] at hk hm
      subst hk hm
      have b1 := wf_u8 wk
      have b2 := wf_u8 wm
      refine ⟨(k, m), fun j v hv => ?_, ⟨b1.1, by show k < 256; omega⟩, b2.1, by show m < 256; omega⟩
      have hj : j < 2 := by
        have := (List.getElem?_eq_some_iff.1 hv).1
        rwa [LPr.len] at this
      obtain ⟨_, _, hg⟩ := World.cells?_some hc
      have := hg j hj
      rw [Go.WideShapes.add_plain] at this
      rw [this]
      exact hv
set_option maxRecDepth 100000 in
/-- A slice that reads as one: its elements lie in a row, each as it must be. -/
theorem open_row {α : Type} (E : Lies α) {Q : α → Prop} {e t : TypeId} (hu : Try.prog.underlying t = some (.slice e)) (hce : Try.prog.cellsOf e = E.m)
    {H : Type} {enc : TypeId × Value → H} {w : World} {base b0 : Nat} {r : Reach} {sp : Nat → Bool} {held : Bool} {v : Value} {d : DataW H} {p : List MemPlace}
    (hone : ∀ {base fuel b o cs} {x : DataW H × List MemPlace}, w.cells? base ⟨b, o, none⟩ E.m = some cs → DataW.trod enc Try.prog w base sp held fuel e cs = some x → ∃ y, E.On w b o y ∧ Q y)
    (hval : Value.okWide Try.prog w r b0 t v) (hd : DataW.Trod enc Try.prog w base sp held t v d p) :
    ∃ A c n L, v = .slice A n c ∧ L.length = n ∧ E.Row w A L ∧ n ≤ c ∧ n ≤ maxLen ∧ ∀ y ∈ L, Q y := by
  obtain ⟨a0, n0, c0, rfl⟩ := okWide_slice hu hval
  obtain ⟨fuel, hf⟩ := hd
  rcases Go.Deep.open_slice hu hf with ⟨h, _⟩ | ⟨a, len, cap, m, f, D, Pl, h, hb, hl, hm, hmm, _, hx⟩
  · simp [Value.cells] at h
    obtain ⟨rfl, rfl, rfl⟩ := h
    exact ⟨none, 0, 0, [], rfl, rfl, .inl rfl, Nat.le_refl _, Nat.zero_le _, fun y h => by cases h⟩
  · simp [Value.cells] at h
    obtain ⟨rfl, rfl, rfl⟩ := h
    have hlm : n0 ≤ m := by rw [hmm]; split <;> omega
    by_cases h0 : n0 = 0
    · subst h0
      exact ⟨some a, c0, 0, [], rfl, rfl, .inl rfl, hl, Nat.zero_le _, fun y h => by cases h⟩
    rw [hce] at hx
    have hp := E.pos
    obtain ⟨b, o, sp'⟩ := a
    have hsp : sp' = none := by
      obtain ⟨cs, hc, _⟩ := hx 0 (by omega)
      obtain ⟨_, hlen, hg⟩ := World.cells?_some hc
      have := hg 0 (by omega)
      rw [List.getElem?_eq_getElem (by omega)] at this
      have := World.cell?_spot this
      simpa [Addr.add] using this
    subst hsp
    obtain ⟨L, hL, h1, h2⟩ := pick_row (E := E) (Q := Q) (w := w) (b := b) (o := o) n0 fun i hi => by
      obtain ⟨cs, hc, ht⟩ := hx i (by omega)
      rw [Go.WideShapes.add_plain] at hc
      exact hone hc ht
    refine ⟨some ⟨b, o, none⟩, c0, n0, L, rfl, hL, .inr ⟨b, o, rfl, ?_, h1⟩, hl, by omega, h2⟩
    have hy : L[0]? = some L[0] := List.getElem?_eq_getElem (by omega)
    have h7 := h1 0 _ hy 0 ((E.enc L[0])[0]'(by rw [E.len]; exact hp)) (List.getElem?_eq_getElem _)
    exact World.block_lt_of_cell? _ _ h7
set_option maxRecDepth 100000 in
theorem open_dems {H : Type} {enc : TypeId × Value → H} {w : World} {base b0 : Nat} {r : Reach} {sp : Nat → Bool} {held : Bool} {v : Value} {d : DataW H} {p : List MemPlace}
    (hval : Value.okWide Try.prog w r b0 22 v) (hd : DataW.Trod enc Try.prog w base sp held 22 v d p) :
    ∃ A c n L, v = .slice A n c ∧ L.length = n ∧ LDem.Row w A L ∧ n ≤ c ∧ n ≤ maxLen ∧ ∀ y ∈ L, True :=
  open_row LDem (Q := fun _ => True) Try.underlying22 cdem9 (fun hc hf => dem_cells hc hf) hval hd
set_option maxRecDepth 100000 in
theorem open_pairs {H : Type} {enc : TypeId × Value → H} {w : World} {base b0 : Nat} {r : Reach} {sp : Nat → Bool} {held : Bool} {v : Value} {d : DataW H} {p : List MemPlace}
    (hval : Value.okWide Try.prog w r b0 40 v) (hd : DataW.Trod enc Try.prog w base sp held 40 v d p) :
    ∃ A c n L, v = .slice A n c ∧ L.length = n ∧ LPr.Row w A L ∧ n ≤ c ∧ n ≤ maxLen ∧ ∀ y ∈ L, (0 ≤ y.1 ∧ y.1 < 256) ∧ 0 ≤ y.2 ∧ y.2 < 256 :=
  open_row LPr Try.underlying40 cpair9 (fun hc hf => pair_cells hc hf) hval hd
end Go.Proofs.Ytkdgcibkjhhpoaa
