/-
  A number that was read is written just so (no function of Tryd is named here).
-/
import Derived.Test.YtgagandecjljoaaDoorItAwake
import Derived.Test.YtgagandecjljoaaDoorFigWalks
import Derived.Lib.ItoaNum
namespace Go.Proofs.YtgagandecjljoaaDoor
open Go.RowKit

theorem dig_back {c : UInt8} (h : Fig.dig c = true) : UInt8.ofNat (48 + ((c.toNat : Int) - 48).toNat) = c := by
  have := dig_bd h
  apply UInt8.toNat_inj.mp
  rw [UInt8.toNat_ofNat']
  omega
theorem back_rev : ∀ (r : List UInt8), r ≠ [] → r.all Fig.dig = true → r.reverse.head? ≠ some 48 → 1 ≤ Fig.val r.reverse ∧ Lib.decDigits (Fig.val r.reverse).toNat = r.reverse := by
  intro r
  induction r with
  | nil => intro h; exact absurd rfl h
  | cons c r ih =>
    intro _ hd hh
    simp only [List.all_cons, Bool.and_eq_true] at hd
    have hb := dig_bd hd.1
    rw [List.reverse_cons, Fig.val_snoc]
    cases r with
    | nil =>
      have hc : c ≠ 48 := by simpa using hh
      have hc2 : c.toNat ≠ 48 := by
        intro h; apply hc; exact UInt8.toNat_inj.mp h
      have hv : Fig.val ([] : List UInt8).reverse = 0 := rfl
      rw [hv]
      refine ⟨by omega, ?_⟩
      rw [Lib.decDigits, dif_pos (by omega)]
      have := dig_back hd.1
      simp only [List.reverse_nil, List.nil_append]
      rw [show (10 * 0 + ((c.toNat : Int) - 48)).toNat = ((c.toNat : Int) - 48).toNat by omega, this]
    | cons x xs =>
      have h2 := ih (by simp) hd.2 (by
        intro h; apply hh
        rw [List.reverse_cons]
        cases hx : (x :: xs).reverse with
        | nil => simp at hx
        | cons y ys => rw [hx] at h; simpa using h)
      refine ⟨by omega, ?_⟩
      rw [Lib.decDigits, dif_neg (by omega)]
      rw [show (10 * Fig.val (x :: xs).reverse + ((c.toNat : Int) - 48)).toNat / 10 = (Fig.val (x :: xs).reverse).toNat by omega, h2.2]
      rw [show (10 * Fig.val (x :: xs).reverse + ((c.toNat : Int) - 48)).toNat % 10 = ((c.toNat : Int) - 48).toNat by omega, dig_back hd.1]
theorem form_back (l : List UInt8) (h : Fig.form l = true) : Lib.decDigits (Fig.val l).toNat = l := by
  simp only [Fig.form, Bool.and_eq_true, decide_eq_true_eq, Bool.not_eq_true'] at h
  obtain ⟨⟨⟨h1, _⟩, hp⟩, hd⟩ := h
  by_cases h48 : l.head? = some 48
  · have hl : ¬ 1 < l.length := by
      intro hl
      rw [Fig.pad, h48, show decide (1 < l.length) = true from decide_eq_true hl] at hp
      exact absurd hp (by decide)
    match l, h1, hl, h48 with
    | [c], _, _, h48 =>
      obtain rfl : c = 48 := by simpa using h48
      rw [show Fig.val [48] = 0 from rfl, Lib.decDigits, dif_pos (by decide)]; rfl
    | _ :: _ :: _, _, hl, _ => simp at hl
    | [], h1, _, _ => simp at h1
  · have := (back_rev l.reverse (by intro h; rw [List.reverse_eq_nil_iff] at h; subst h; simp at h1) (by simpa using hd) (by simpa using h48)).2
    simpa using this
end Go.Proofs.YtgagandecjljoaaDoor

