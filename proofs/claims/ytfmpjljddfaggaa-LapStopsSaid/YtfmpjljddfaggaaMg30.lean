/-
  Texts of this claim, merged: LpOpen.
-/
import Derived.Test.YtfmpjljddfaggaaMg29
import Derived.Deep.Slices
/-
  The arguments of layer 8's laws opened: two bytes in an array; a slice of steps.
-/
namespace Go.Proofs.Ytfmpjljddfaggaa
open Go.ChangeShapes Go.WideShapes Go.ChangeAt Go.RowKit

theorem okWide_arr {P : Program} {w : World} {r : Reach} {base : Nat} {t : TypeId} {v : Value} {n : Nat} {e : TypeId} (ht : P.underlying t = some (.array n e)) (h : Value.okWide P w r base t v) : ∃ cs, v = .agg cs ∧ cs.size = P.cellsOf t := by
  simp only [Value.okWide, ht] at h
  obtain ⟨cs, h1, h2, _⟩ := h
  exact ⟨cs, h1, h2⟩
theorem cbyte : Try.prog.cellsOf 5 = 1 := by kernel_rfl
set_option maxRecDepth 100000 in
theorem open_bytes2 {H : Type} {enc : TypeId × Value → H} {w : World} {base b0 : Nat} {r : Reach} {sp : Nat → Bool} {held : Bool} {v : Value} {d : DataW H} {p : List MemPlace}
    (hval : Value.okWide Try.prog w r b0 22 v) (hd : DataW.Trod enc Try.prog w base sp held 22 v d p) : ∃ a b : Int, v = .agg #[.int .u8 a, .int .u8 b] ∧ (Lit.int .u8 a).wf = true ∧ (Lit.int .u8 b).wf = true := by
  obtain ⟨cs, rfl, _⟩ := okWide_arr Try.underlying22 hval
  obtain ⟨fuel, hf⟩ := hd
  obtain ⟨xs, f, _, _, hl, hlen, hi⟩ := DataW.trod_array Try.underlying22 hf
  obtain ⟨l⟩ := cs
  rw [show Try.prog.cellsOf 22 = 2 by kernel_rfl] at hl
  match l, hl with
  | [c0, c1], _ =>
    match xs, hlen with
    | [y0, y1], _ =>
      have h0 := hi 0 (by omega)
      have h1 := hi 1 (by omega)
      simp [cbyte, Value.cells] at h0 h1
      obtain ⟨k, hk, _, h3⟩ := DataW.trod_int Try.underlying5 h0
      obtain ⟨m, hm, _, h4⟩ := DataW.trod_int Try.underlying5 h1
      simp only [List.cons.injEq, and_true] at hk hm
      subst hk hm
      exact ⟨k, m, rfl, h3, h4⟩
theorem cint8 : Try.prog.cellsOf 3 = 1 := by kernel_rfl
theorem cstp : Try.prog.cellsOf 47 = 3 := by kernel_rfl
set_option maxRecDepth 100000 in
/-- Cells that read as a step. -/
theorem trod_stp {H : Type} {enc : TypeId × Value → H} {w : World} {base : Nat} {sp : Nat → Bool} {held : Bool} {fuel : Nat} {cs : List Value} {x : DataW H × List MemPlace}
    (hf : DataW.trod enc Try.prog w base sp held fuel 47 cs = some x) : ∃ a b c : Int, cs = [.int .i64 a, .int .i64 b, .int .i64 c] := by
  obtain ⟨xs, n, _, _, hl, hlen, hg⟩ := DataW.trod_struct Try.underlying47 hf
  rw [cstp] at hl
  match cs, hl with
  | [c0, c1, c2], _ =>
    match xs, hlen with
    | [y0, y1, y2], _ =>
      have h0 := hg 0 _ rfl
      have h1 := hg 1 _ rfl
      have h2 := hg 2 _ rfl
      simp [cint8] at h0 h1 h2
      obtain ⟨k, hk, _, _⟩ := DataW.trod_int Try.underlying3 h0
      obtain ⟨m, hm, _, _⟩ := DataW.trod_int Try.underlying3 h1
      obtain ⟨n, hn, _, _⟩ := DataW.trod_int Try.underlying3 h2
      simp only [List.cons.injEq, and_true] at hk hm hn
      subst hk hm hn
      exact ⟨k, m, n, rfl⟩
theorem pick_steps {w : World} {b o : Nat} : ∀ (n : Nat), (∀ i, i < n → ∃ y, LStp.On w b (o + i * 3) y) → ∃ L : List Wk.Stp, L.length = n ∧ ∀ k y, L[k]? = some y → LStp.On w b (o + k * 3) y
  | 0, _ => ⟨[], rfl, fun k y h => by simp at h⟩
  | n + 1, h => by
    obtain ⟨L, hl, h1⟩ := pick_steps n fun i hi => h i (by omega)
    obtain ⟨y, hy⟩ := h n (by omega)
    refine ⟨L ++ [y], by simp [hl], fun k z hz => ?_⟩
    rcases Nat.lt_or_ge k L.length with hk | hk
    · rw [List.getElem?_append_left hk] at hz; exact h1 k z hz
    · rw [List.getElem?_append_right hk] at hz
      have hk0 : k = n := by
        have := (List.getElem?_eq_some_iff.1 hz).1
        simp at this; omega
      subst hk0
      rw [hl, Nat.sub_self] at hz
      obtain rfl : y = z := by simpa using hz
      exact hy
set_option maxRecDepth 100000 in
theorem step_cells {H : Type} {enc : TypeId × Value → H} {w : World} {base : Nat} {sp : Nat → Bool} {held : Bool} {fuel : Nat} {b o : Nat} {cs : List Value} {x : DataW H × List MemPlace}
    (hc : w.cells? base ⟨b, o, none⟩ 3 = some cs) (hf : DataW.trod enc Try.prog w base sp held fuel 47 cs = some x) : ∃ y, LStp.On w b o y := by
  obtain ⟨a, f, t, rfl⟩ := trod_stp hf
  refine ⟨⟨a, f, t⟩, fun j v hv => ?_⟩
  have hj : j < 3 := by
    have := (List.getElem?_eq_some_iff.1 hv).1
    rwa [LStp.len] at this
  obtain ⟨_, _, hg⟩ := World.cells?_some hc
  have := hg j hj
  rw [Go.WideShapes.add_plain] at this
  rw [this]
  exact hv
set_option maxRecDepth 100000 in
theorem open_steps {H : Type} {enc : TypeId × Value → H} {w : World} {base b0 : Nat} {r : Reach} {sp : Nat → Bool} {held : Bool} {v : Value} {d : DataW H} {p : List MemPlace}
    (hval : Value.okWide Try.prog w r b0 23 v) (hd : DataW.Trod enc Try.prog w base sp held 23 v d p) :
    ∃ A c n L, v = .slice A n c ∧ L.length = n ∧ LStp.Row w A L ∧ n ≤ c ∧ n ≤ maxLen := by
  obtain ⟨a0, n0, c0, rfl⟩ := okWide_slice Try.underlying23 hval
  obtain ⟨fuel, hf⟩ := hd
  rcases Go.Deep.open_slice Try.underlying23 hf with ⟨h, _⟩ | ⟨a, len, cap, m, f, D, Pl, h, hb, hl, hm, hmm, _, hx⟩
  · simp [Value.cells] at h
    obtain ⟨rfl, rfl, rfl⟩ := h
    exact ⟨none, 0, 0, [], rfl, rfl, .inl rfl, Nat.le_refl _, Nat.zero_le _⟩
  · simp [Value.cells] at h
    obtain ⟨rfl, rfl, rfl⟩ := h
    have hlm : n0 ≤ m := by rw [hmm]; split <;> omega
    by_cases h0 : n0 = 0
    · subst h0
      exact ⟨some a, c0, 0, [], rfl, rfl, .inl rfl, hl, Nat.zero_le _⟩
    rw [cstp] at hx
    obtain ⟨b, o, sp'⟩ := a
    have hsp : sp' = none := by
      obtain ⟨cs, hc, _⟩ := hx 0 (by omega)
      obtain ⟨_, hlen, hg⟩ := World.cells?_some hc
      have := hg 0 (by omega)
      rw [List.getElem?_eq_getElem (by omega)] at this
      have := World.cell?_spot this
      simpa [Addr.add] using this
    subst hsp
    obtain ⟨L, hL, h1⟩ := pick_steps (w := w) (b := b) (o := o) n0 fun i hi => by
      obtain ⟨cs, hc, ht⟩ := hx i (by omega)
      rw [Go.WideShapes.add_plain] at hc
      exact step_cells hc ht
    refine ⟨some ⟨b, o, none⟩, c0, n0, L, rfl, hL, .inr ⟨b, o, rfl, ?_, h1⟩, hl, by omega⟩
    have h7 := h1 0 _ (List.getElem?_eq_getElem (by omega)) 0 _ rfl
    exact World.block_lt_of_cell? _ _ h7
end Go.Proofs.Ytfmpjljddfaggaa
