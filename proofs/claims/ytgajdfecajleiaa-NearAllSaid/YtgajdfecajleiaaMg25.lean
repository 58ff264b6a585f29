/-
  Texts of this claim, merged: NrLaw.
-/
import Derived.Test.YtgajdfecajleiaaMg24
/-
  What the laws of layer 11 share: what is known of a text's station.
-/
namespace Go.Proofs.Ytgajdfecajleiaa
open Go.RowKit

theorem madeP_near {l : List UInt8} {p : Pl.Plan} (h : madeP l = some p) : Pl.Fit p ∧ Lp.Meas p ∧ (0 ≤ p.ap ∧ p.ap ≤ 1099511627776) ∧ Nr.Back p := by
  obtain ⟨hf, L, hL, hS, e⟩ := madeP_some h
  refine ⟨hf, ?_⟩
  rw [e]
  exact ⟨Lp.meas_fin hL hS, Nr.ap_fin hL, Nr.back_fin hL hS⟩
end Go.Proofs.Ytgajdfecajleiaa
