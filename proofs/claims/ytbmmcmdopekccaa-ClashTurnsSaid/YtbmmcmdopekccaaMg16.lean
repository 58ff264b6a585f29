/-
  Texts of this claim, merged: WkPrA, WkPrB.
-/
import Derived.Test.YtbmmcmdopekccaaMg15
import Derived.BigQuiet
import Derived.Deep.LoopGhost
import Derived.Shelf.Abstract
/-
  The walks of the program's layer 6: a section's ends, and one of them.
-/
namespace Go.Proofs.Ytbmmcmdopekccaa
open Go.RowKit

theorem row9 {w : World} {g : Nat} {a b c d e f i j k : Value} {t : TypeId} (h : w.heap[g]? = some (.cells #[a, b, c, d, e, f, i, j, k] t (0, 0))) :
    (w.cell? ⟨g, 0, none⟩ = some a ∧ w.cell? ⟨g, 1, none⟩ = some b ∧ w.cell? ⟨g, 2, none⟩ = some c ∧ w.cell? ⟨g, 3, none⟩ = some d ∧ w.cell? ⟨g, 4, none⟩ = some e ∧ w.cell? ⟨g, 5, none⟩ = some f ∧ w.cell? ⟨g, 6, none⟩ = some i ∧ w.cell? ⟨g, 7, none⟩ = some j ∧ w.cell? ⟨g, 8, none⟩ = some k) ∧
    (w.frozen? ⟨g, 0, none⟩ = false ∧ w.frozen? ⟨g, 1, none⟩ = false ∧ w.frozen? ⟨g, 2, none⟩ = false ∧ w.frozen? ⟨g, 3, none⟩ = false ∧ w.frozen? ⟨g, 4, none⟩ = false ∧ w.frozen? ⟨g, 5, none⟩ = false ∧ w.frozen? ⟨g, 6, none⟩ = false ∧ w.frozen? ⟨g, 7, none⟩ = false ∧ w.frozen? ⟨g, 8, none⟩ = false) ∧ g < w.heap.size :=
  ⟨⟨cell_of_row w g 0 _ t _ h, cell_of_row w g 1 _ t _ h, cell_of_row w g 2 _ t _ h, cell_of_row w g 3 _ t _ h, cell_of_row w g 4 _ t _ h, cell_of_row w g 5 _ t _ h, cell_of_row w g 6 _ t _ h, cell_of_row w g 7 _ t _ h, cell_of_row w g 8 _ t _ h⟩,
    ⟨frozen_of_row w g 0 _ t h, frozen_of_row w g 1 _ t h, frozen_of_row w g 2 _ t h, frozen_of_row w g 3 _ t h, frozen_of_row w g 4 _ t h, frozen_of_row w g 5 _ t h, frozen_of_row w g 6 _ t h, frozen_of_row w g 7 _ t h, frozen_of_row w g 8 _ t h⟩, (Array.getElem?_eq_some_iff.1 h).1⟩
end Go.Proofs.Ytbmmcmdopekccaa
/-
  The walks of the program's layer 6: which position a step asks, whether steps go through a section.
-/
namespace Go.Proofs.Ytbmmcmdopekccaa
open Go.RowKit

set_option maxHeartbeats 4000000 in
set_option maxRecDepth 100000 in
/-- Is a step of the section whose number lies in that cell? -/
theorem pStepOf (x : Wk.Stp) (s : Int) (g : Nat) (W : World) (hg : g < W.heap.size) (hc : W.cell? ⟨g, 0, none⟩ = some (.int .i64 s)) :
    Calls Try.prog 46 #[stpV x, .pointer (some ⟨g, 0, none⟩)] W fun e w' => e = .returned (.bool (x.s == s)) ∧ Below W.heap.size W w' := by
  --[
  obtain ⟨a, b, d⟩ := x
  have hne : g ≠ W.heap.size := by omega
  have X := Lib.hid ((Below.refl W.heap.size W).alloc (Nat.le_refl _) (stpO ⟨a, b, d⟩))
  show Calls Try.prog 46 #[.agg #[.int .i64 a, .int .i64 b, .int .i64 d], .pointer (some ⟨g, 0, none⟩)] W fun e w' => e = .returned (.bool (a == s)) ∧ Below W.heap.size W w'
  cases h1 : (a == s)
  · go_enter Try.func46, Try.ntmps46
    go_wp2
    go_ret
    exact ⟨rfl, X.out⟩
  · go_enter Try.func46, Try.ntmps46
    go_wp2
    go_ret
    exact ⟨rfl, X.out⟩
  --]
/-- The number that says whether a list has one: below 0 if it has none. -/
def HitIs (b : Bool) (w : World) (e : Ending) (w' : World) : Prop := ∃ i : Int, e = .returned (.int .i64 i) ∧ (b = true → decide (0 ≤ i) = true) ∧ (b = false → i = -1) ∧ Below w.heap.size w w'
set_option maxHeartbeats 4000000 in
set_option maxRecDepth 100000 in
theorem pIndexStep (A : Option Addr) (c : Nat) (L : List Wk.Stp) (s : Int) (g : Nat) (w : World) (h : LStp.Row w A L) (hl : L.length ≤ 1000000) (hg : g < w.heap.size) (hc : w.cell? ⟨g, 0, none⟩ = some (.int .i64 s)) :
    Calls Try.prog 45 #[.slice A L.length c, .func (.func 46) #[] #[.pointer (some ⟨g, 0, none⟩)]] w (HitIs (Wk.within L s) w) := by
  --[
  have eg : ∀ args w, (callFunc 46 args).run Try.prog w = .ok (.enter 46 args) w := enters_of Try.func46 (by kernel_rfl) rfl
  have IA := Lib.hid h
  have CL := Lib.hid (fun x W (hb : Below w.heap.size w W) => pStepOf x s g W (Nat.lt_of_lt_of_le hg hb.size) ((hb.cell (p := ⟨g, 0, none⟩) hg).trans hc))
  clear h hc
  go_enter Try.func45, Try.ntmps45
  go_wp2
  go_loopg [5, 8] L.length (fun gg _ s8 wr => ∃ k : Nat, k ≤ L.length ∧ L.length - k ≤ gg ∧ s8 = .int .i64 k ∧ Below w.heap.size w wr ∧ ∀ j < k, ∀ t, L[j]? = some t → t.s ≠ s)
  case atStart => exact ⟨0, Nat.zero_le _, by omega, rfl, Below.refl _ w, fun j hj => absurd hj (Nat.not_lt_zero _)⟩
  case round =>
    obtain ⟨k, hk, hgg, rfl, hB, h0⟩ := hrel
    have HB := Lib.hid hB
    have H0 := Lib.hid h0
    clear hB h0
    by_cases hlt : k < L.length
    · have d1 : decide ((k : Int) < (L.length : Int)) = true := dec_t (by omega)
      have hx := List.getElem?_eq_getElem hlt
      obtain ⟨b, o, rfl, hb, on⟩ := (IA.out.below rfl HB.out).at hlt
      generalize L[k] = x at hx on
      obtain ⟨a0, a1, a2⟩ := stp_on on
      rw [show k * LStp.m = k * 3 from rfl] at a0 a1 a2
      have HX := Lib.hid hx
      have CX := Lib.hid (CL.out x wr HB.out)
      clear on hx
      by_cases he : x.s = s
      · have h1 : (x.s == s) = true := by rw [beq_iff_eq]; exact he
        have P := Lib.hid (within_at HX.out he)
        rw [h1] at CX
        clear he h1
        go_wp2_with (go_at_fn 46; refine CX.out.mono ?_; rintro e w' ⟨rfl, hb'⟩; have HB2 := Lib.hid (HB.out.trans (hb'.mono HB.out.size)); clear hb')
        go_ret
        exact ⟨(k : Int), rfl, (fun _ => dec_t (by omega)), (fun h => absurd (P.out.symm.trans h) (by decide)), HB2.out⟩
      · have h1 : (x.s == s) = false := by rw [beq_eq_false_iff_ne]; exact he
        have N := Lib.hid (fun j (hj : j < k + 1) t (ht : L[j]? = some t) => (show t.s ≠ s from by
          by_cases hjk : j = k
          · subst hjk
            rw [HX.out] at ht
            cases ht
            exact he
          · exact H0.out j (by omega) t ht))
        rw [h1] at CX
        clear he h1
        go_wp2_with (go_at_fn 46; refine CX.out.mono ?_; rintro e w' ⟨rfl, hb'⟩; have HB2 := Lib.hid (HB.out.trans (hb'.mono HB.out.size)); clear hb')
        go_roundg (L.length - (k + 1))
        case measure => omega
        case rel => exact ⟨k + 1, by omega, by omega, by go_num, HB2.out, N.out⟩
    · obtain rfl : k = L.length := by omega
      have P := Lib.hid (within_none H0.out)
      go_wp2
      go_ret
      exact ⟨-1, rfl, (fun h => absurd (P.out.symm.trans h) (by decide)), (fun _ => rfl), HB.out⟩
  --]
set_option maxHeartbeats 4000000 in
set_option maxRecDepth 100000 in
theorem pHasStep (A : Option Addr) (c : Nat) (L : List Wk.Stp) (s : Int) (g : Nat) (w : World) (h : LStp.Row w A L) (hl : L.length ≤ 1000000) (hg : g < w.heap.size) (hc : w.cell? ⟨g, 0, none⟩ = some (.int .i64 s)) :
    Calls Try.prog 29 #[.slice A L.length c, .func (.func 46) #[] #[.pointer (some ⟨g, 0, none⟩)]] w (OneIs (.bool (Wk.within L s)) w) := by
  --[
  have HC := Lib.hid (pIndexStep A c L s g w h hl hg hc)
  clear h hc hg
  cases hb : Wk.within L s with
  | true =>
    rw [hb] at HC
    clear hb
    go_enter Try.func29, Try.ntmps29
    go_wp2_with fail
    refine HC.out.mono ?_; rintro e w' ⟨i, rfl, h1, -, hb'⟩
    have D := h1 rfl
    have HB := Lib.hid hb'
    clear h1 hb' HC
    go_wp2_with fail
    go_ret
    exact ⟨rfl, HB.out⟩
  | false =>
    rw [hb] at HC
    clear hb
    go_enter Try.func29, Try.ntmps29
    go_wp2_with fail
    refine HC.out.mono ?_; rintro e w' ⟨i, rfl, -, h2, hb'⟩
    obtain rfl := h2 rfl
    have HB := Lib.hid hb'
    clear h2 hb' HC
    go_wp2_with fail
    go_ret
    exact ⟨rfl, HB.out⟩
  --]
set_option maxHeartbeats 4000000 in
set_option maxRecDepth 100000 in
theorem pwWithin_any (A : Option Addr) (c : Nat) (L : List Wk.Stp) (s : Int) (w : World) (h : LStp.Row w A L) (hl : L.length ≤ 1000000) :
    Calls Try.prog 31 #[.slice A L.length c, .int .i64 s] w (OneIs (.bool (Wk.within L s)) w) := by
  --[
  have hb0 := (Below.refl w.heap.size w).alloc (Nat.le_refl _) (.cells #[.int .i64 s] 3)
  have HC := Lib.hid (pHasStep A c L s w.heap.size _ (h.below rfl hb0) hl (by simp) (cell_of_row _ _ 0 _ _ _ (heap_alloc_new w (.cells #[.int .i64 s] 3))))
  have HB0 := Lib.hid hb0
  clear h hb0
  go_enter Try.func31, Try.ntmps31
  go_wp2_with fail
  refine HC.out.mono ?_; rintro e w' ⟨rfl, hb'⟩
  go_wp2_with fail
  go_ret
  exact ⟨rfl, HB0.out.trans (hb'.mono HB0.out.size)⟩
  --]
end Go.Proofs.Ytbmmcmdopekccaa
