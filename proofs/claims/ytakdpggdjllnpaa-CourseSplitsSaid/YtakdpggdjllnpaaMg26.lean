/-
  Texts of this claim, merged: CrOpen.
-/
import Derived.Test.YtakdpggdjllnpaaMg01
import Derived.Test.YtakdpggdjllnpaaMg22
import Derived.Deep.Slices
/-
  A law's argument opened: three bytes in an array.
-/
namespace Go.Proofs.Ytakdpggdjllnpaa
open Go.ChangeShapes Go.WideShapes Go.ChangeAt Go.RowKit

theorem okWide_arr {P : Program} {w : World} {r : Reach} {base : Nat} {t : TypeId} {v : Value} {n : Nat} {e : TypeId} (ht : P.underlying t = some (.array n e)) (h : Value.okWide P w r base t v) : ∃ cs, v = .agg cs ∧ cs.size = P.cellsOf t := by
  simp only [Value.okWide, ht] at h
  obtain ⟨cs, h1, h2, _⟩ := h
  exact ⟨cs, h1, h2⟩
theorem cbyte : Try.prog.cellsOf 5 = 1 := by kernel_rfl
set_option maxRecDepth 100000 in
theorem open_bytes3 {H : Type} {enc : TypeId × Value → H} {w : World} {base b0 : Nat} {r : Reach} {sp : Nat → Bool} {held : Bool} {v : Value} {d : DataW H} {p : List MemPlace}
    (hval : Value.okWide Try.prog w r b0 48 v) (hd : DataW.Trod enc Try.prog w base sp held 48 v d p) : ∃ a b c : Int, v = .agg #[.int .u8 a, .int .u8 b, .int .u8 c] ∧ (Lit.int .u8 a).wf = true ∧ (Lit.int .u8 b).wf = true ∧ (Lit.int .u8 c).wf = true := by
  obtain ⟨cs, rfl, _⟩ := okWide_arr Try.underlying48 hval
  obtain ⟨fuel, hf⟩ := hd
  obtain ⟨xs, f, _, _, hl, hlen, hi⟩ := DataW.trod_array Try.underlying48 hf
  obtain ⟨l⟩ := cs
  rw [show Try.prog.cellsOf 48 = 3 by kernel_rfl] at hl
  match l, hl with
  | [c0, c1, c2], _ =>
    match xs, hlen with
    | [y0, y1, y2], _ =>
      have h0 := hi 0 (by omega)
      have h1 := hi 1 (by omega)
      have h2 := hi 2 (by omega)
      simp [cbyte, Value.cells] at h0 h1 h2
      obtain ⟨k, hk, _, h3⟩ := DataW.trod_int Try.underlying5 h0
      obtain ⟨m, hm, _, h4⟩ := DataW.trod_int Try.underlying5 h1
      obtain ⟨n, hn, _, h5⟩ := DataW.trod_int Try.underlying5 h2
      simp only [List.cons.injEq, and_true] at hk hm hn
      subst hk hm hn
      exact ⟨k, m, n, rfl, h3, h4, h5⟩
end Go.Proofs.Ytakdpggdjllnpaa
