/-
  The walk of layer 4's short: are items few, of short names, of numbers from 0 on?
-/
import Derived.Test.YtgagandecjljoaaDoorShPrint
namespace Go.Proofs.YtgagandecjljoaaDoor
open Go.RowKit

def shortY (y : It.Itm) : Bool := decide (0 ≤ y.n) && (decide (y.name.length ≤ 50) && (decide (y.e0.n.length ≤ 50) && decide (y.e1.n.length ≤ 50)))
def shortL (L : List It.Itm) : Bool := decide (L.length ≤ 40) && L.all shortY
theorem shortY_no {L : List It.Itm} {k : Nat} (hk : k < L.length) (h : shortY L[k] = false) : shortL L = false := by
  rw [shortL, Bool.and_eq_false_iff]
  exact .inr (List.all_eq_false.2 ⟨_, List.getElem_mem hk, by rw [h]; simp⟩)
theorem shortL_fits {L : List It.Itm} (h : shortL L = true) (hN : ∀ y ∈ L, y.n ≤ 9223372036854775807) : L.length ≤ 40 ∧ ∀ y ∈ L, FitsP y := by
  rw [shortL, Bool.and_eq_true, decide_eq_true_iff, List.all_eq_true] at h
  refine ⟨h.1, fun y hy => ?_⟩
  have := h.2 y hy
  simp only [shortY, Bool.and_eq_true, decide_eq_true_iff] at this
  exact ⟨this.1, hN y hy, by omega, by omega, by omega⟩
set_option maxHeartbeats 4000000 in
set_option maxRecDepth 100000 in
theorem sshort_any (A : Option Addr) (c : Nat) (L : List It.Itm) (w : World) (h : Its w A L) (hl : L.length ≤ maxLen) :
    Calls Tryd.prog 7 #[.slice A L.length c] w fun e w' => e = .returned (.bool (shortL L)) ∧ w = w' := by
  unfold maxLen at hl
  by_cases hfew : L.length ≤ 40
  · have h1 : decide (40 < (L.length : Int)) = false := dec_f (by omega)
    have HF := Lib.hid hfew
    clear hfew
    go_enter Tryd.func7, Tryd.ntmps7
    go_wp2
    go_loop [3] (fun i => ∃ k : Nat, k ≤ L.length ∧ i = .int .i64 k ∧ (L.take k).all shortY = true) (fun i => L.length - (intOf i).toNat)
    case atStart => exact ⟨0, Nat.zero_le _, rfl, rfl⟩
    case round =>
      obtain ⟨k, hk, rfl, ha⟩ := hrel
      have HA := Lib.hid ha
      clear ha
      by_cases hlt : k < L.length
      · obtain ⟨b, o, rfl, hb, i7⟩ := h.at hlt
        obtain ⟨a0, a1, a2, a3, a4, a5, a6⟩ := i7.cells
        clear i7
        have q1 := txt_size L[k].name
        have q2 := txt_size L[k].e0.n
        have q3 := txt_size L[k].e1.n
        have NO := Lib.hid (@shortY_no L k hlt)
        by_cases p0 : 0 ≤ L[k].n
        · have d0 : decide (L[k].n < 0) = false := dec_f (by omega)
          by_cases p1 : L[k].name.length ≤ 50
          · have d1 : decide (50 < ((txt L[k].name).size : Int)) = false := dec_f (by omega)
            by_cases p2 : L[k].e0.n.length ≤ 50
            · have d2 : decide (50 < ((txt L[k].e0.n).size : Int)) = false := dec_f (by omega)
              by_cases p3 : L[k].e1.n.length ≤ 50
              · have d3 : decide (50 < ((txt L[k].e1.n).size : Int)) = false := dec_f (by omega)
                have Y := Lib.hid (show shortY L[k] = true by rw [shortY, dec_t p0, dec_t p1, dec_t p2, dec_t p3]; rfl)
                clear p0 p1 p2 p3 q1 q2 q3
                go_wp2
                go_round
                case rel => exact ⟨k + 1, by omega, by go_num, by rw [List.take_succ_eq_append_getElem hlt, List.all_append, HA.out]; simpa using Y.out⟩
                case measure => simp [intOf]; omega
              · have d3 : decide (50 < ((txt L[k].e1.n).size : Int)) = true := dec_t (by omega)
                have Y := Lib.hid (NO.out (by rw [shortY, dec_f p3]; simp))
                clear p0 p1 p2 p3 q1 q2 q3
                go_wp2
                go_ret
                exact ⟨retB Y.out.symm, rfl⟩
            · have d2 : decide (50 < ((txt L[k].e0.n).size : Int)) = true := dec_t (by omega)
              have Y := Lib.hid (NO.out (by rw [shortY, dec_f p2]; simp))
              clear p0 p1 p2 q1 q2 q3
              go_wp2
              go_ret
              exact ⟨retB Y.out.symm, rfl⟩
          · have d1 : decide (50 < ((txt L[k].name).size : Int)) = true := dec_t (by omega)
            have Y := Lib.hid (NO.out (by rw [shortY, dec_f p1]; simp))
            clear p0 p1 q1 q2 q3
            go_wp2
            go_ret
            exact ⟨retB Y.out.symm, rfl⟩
        · have d0 : decide (L[k].n < 0) = true := dec_t (by omega)
          have Y := Lib.hid (NO.out (by rw [shortY, dec_f p0]; simp))
          clear p0 q1 q2 q3
          go_wp2
          go_ret
          exact ⟨retB Y.out.symm, rfl⟩
      · obtain rfl : k = L.length := by omega
        have e1 : L.take L.length = L := List.take_of_length_le (Nat.le_refl _)
        have HB := Lib.hid (show shortL L = true by rw [shortL, dec_t HF.out, Bool.true_and, ← HA.out, e1])
        clear e1
        go_wp2
        go_ret
        exact ⟨retB HB.out.symm, rfl⟩
  · have h1 : decide (40 < (L.length : Int)) = true := dec_t (by omega)
    have HF := Lib.hid (show shortL L = false by rw [shortL, dec_f hfew]; rfl)
    clear hfew
    go_enter Tryd.func7, Tryd.ntmps7
    go_wp2
    go_ret
    exact ⟨retB HF.out.symm, rfl⟩
end Go.Proofs.YtgagandecjljoaaDoor

