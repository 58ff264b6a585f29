/-
  Slices of items in memory: which items their cells hold, seven cells an item; kept where nothing below the heap's end changes.
-/
import Derived.Test.YtgagandecjljoaaDoorItKit
import Derived.Test.YtgagandecjljoaaDoorShSpec
import Derived.Deep.Slices
namespace Go.Proofs.YtgagandecjljoaaDoor
open Go.RowKit

def cells7 (y : It.Itm) : List Value := [.int .i64 y.k, .string (txt y.name), .int .i64 y.n, .string (txt y.e0.n), .int .u8 y.e0.c.toNat, .string (txt y.e1.n), .int .u8 y.e1.c.toNat]
def cellsL (L : List It.Itm) : List Value := L.flatMap cells7
theorem cellsL_nil : cellsL [] = [] := rfl
theorem cellsL_append (a b : List It.Itm) : cellsL (a ++ b) = cellsL a ++ cellsL b := by simp [cellsL]
theorem cellsL_one (y : It.Itm) : cellsL [y] = cells7 y := by simp [cellsL]
theorem cellsL_cons (y : It.Itm) (L : List It.Itm) : cellsL (y :: L) = cells7 y ++ cellsL L := by simp [cellsL]
theorem cells7_length (y : It.Itm) : (cells7 y).length = 7 := rfl
theorem cellsL_length : ∀ L : List It.Itm, (cellsL L).length = L.length * 7
  | [] => rfl
  | y :: L => by rw [cellsL_cons, List.length_append, cellsL_length L, cells7_length, List.length_cons]; omega
theorem cellsL_at : ∀ (L : List It.Itm) (k j : Nat) (y : It.Itm), L[k]? = some y → j < 7 → (cellsL L)[k * 7 + j]? = (cells7 y)[j]?
  | [], _, _, _, h, _ => by simp at h
  | x :: L, 0, j, y, h, hj => by
    obtain rfl : x = y := by simpa using h
    rw [cellsL_cons, List.getElem?_append_left (by rw [cells7_length]; omega)]
    congr 1; omega
  | x :: L, k + 1, j, y, h, hj => by
    rw [cellsL_cons, List.getElem?_append_right (by rw [cells7_length]; omega), cells7_length]
    rw [show (k + 1) * 7 + j - 7 = k * 7 + j by omega]
    exact cellsL_at L k j y (by simpa using h) hj
theorem cells7_one (y : It.Itm) : ∀ u ∈ cells7 y, u.oneCell' = true := fun u hu => by
  simp [cells7] at hu
  rcases hu with rfl | rfl | rfl | rfl | rfl | rfl | rfl <;> rfl
theorem cellsL_one' (L : List It.Itm) : ∀ u ∈ cellsL L, u.oneCell' = true := fun u hu => by
  obtain ⟨y, _, h⟩ := List.mem_flatMap.1 hu
  exact cells7_one y u h

/-- Seven cells that hold an item. -/
def It7 (w : World) (b o : Nat) (y : It.Itm) : Prop := ∀ j v, (cells7 y)[j]? = some v → w.cell? ⟨b, o + j, none⟩ = some v
theorem It7.cells {w : World} {b o : Nat} {y : It.Itm} (h : It7 w b o y) :
    w.cell? ⟨b, o, none⟩ = some (.int .i64 y.k) ∧ w.cell? ⟨b, o + 1, none⟩ = some (.string (txt y.name)) ∧ w.cell? ⟨b, o + 2, none⟩ = some (.int .i64 y.n) ∧ w.cell? ⟨b, o + 3, none⟩ = some (.string (txt y.e0.n)) ∧ w.cell? ⟨b, o + 4, none⟩ = some (.int .u8 y.e0.c.toNat) ∧
      w.cell? ⟨b, o + 5, none⟩ = some (.string (txt y.e1.n)) ∧ w.cell? ⟨b, o + 6, none⟩ = some (.int .u8 y.e1.c.toNat) :=
  ⟨h 0 _ rfl, h 1 _ rfl, h 2 _ rfl, h 3 _ rfl, h 4 _ rfl, h 5 _ rfl, h 6 _ rfl⟩
/-- The cells from A on hold these items. -/
def Its (w : World) (A : Option Addr) (L : List It.Itm) : Prop :=
  L = [] ∨ ∃ b o, A = some ⟨b, o, none⟩ ∧ b < w.heap.size ∧ ∀ k y, L[k]? = some y → It7 w b (o + k * 7) y
theorem Its.nil (w : World) (A : Option Addr) : Its w A [] := .inl rfl
theorem Its.below {w w' : World} {A : Option Addr} {L : List It.Itm} {B : Nat} (h : Its w A L) (hB : B = w.heap.size) (hb : Below B w w') : Its w' A L := by
  subst hB
  rcases h with h | ⟨b, o, hA, hlt, h⟩
  · exact .inl h
  · have := hb.size
    exact .inr ⟨b, o, hA, by omega, fun k y hk j v hv => by rw [hb.cell (show (⟨b, o + k * 7 + j, none⟩ : Addr).block < w.heap.size from hlt)]; exact h k y hk j v hv⟩
theorem Its.at {w : World} {A : Option Addr} {L : List It.Itm} (h : Its w A L) {k : Nat} (hk : k < L.length) : ∃ b o, A = some ⟨b, o, none⟩ ∧ b < w.heap.size ∧ It7 w b (o + k * 7) L[k] := by
  rcases h with rfl | ⟨b, o, hA, hlt, h⟩
  · simp at hk
  · exact ⟨b, o, hA, hlt, h k _ (List.getElem?_eq_getElem hk)⟩
theorem Its.of_own {w : World} {base : Nat} {e : TypeId} {v : Value} {n : Nat} {L : List It.Itm} (h : w.ownsRow base e 7 v n (cellsL L)) :
    n = L.length ∧ ∃ A c, v = .slice A n c ∧ n ≤ c ∧ Its w A L := by
  have hl : L.length = n := by have := h.1; rw [cellsL_length] at this; omega
  refine ⟨hl.symm, ?_⟩
  rcases h.2 with ⟨rfl, rfl⟩ | ⟨g, cap, cur, rfl, _, hh, hc, _⟩
  · exact ⟨none, 0, rfl, Nat.le_refl _, .inl (List.eq_nil_of_length_eq_zero hl)⟩
  · refine ⟨some ⟨g, 0, none⟩, cap, rfl, hc, .inr ⟨g, 0, rfl, (Array.getElem?_eq_some_iff.1 hh).1, fun k y hk j u hu => ?_⟩⟩
    have hj : j < 7 := by
      have := (List.getElem?_eq_some_iff.1 hu).1
      rwa [cells7_length] at this
    have := h.cells (g := g) rfl (k * 7 + j) u (by rw [cellsL_at L k j y hk hj]; exact hu)
    rw [Go.WideShapes.add_plain] at this
    rw [show 0 + k * 7 + j = 0 + (k * 7 + j) by omega]
    exact this
theorem Its.news {w : World} {b o : Nat} {L : List It.Itm} (h : ∀ k y, L[k]? = some y → It7 w b (o + k * 7) y) : ∀ j u, (cellsL L)[j]? = some u → w.cell? ((⟨b, o, none⟩ : Addr).add j) = some u := fun j u hu => by
  have hl := (List.getElem?_eq_some_iff.1 hu).1
  rw [cellsL_length] at hl
  have hk : j / 7 < L.length := by omega
  have e := cellsL_at L (j / 7) (j % 7) _ (List.getElem?_eq_getElem hk) (Nat.mod_lt _ (by omega))
  rw [show j / 7 * 7 + j % 7 = j by omega, hu] at e
  rw [Go.WideShapes.add_plain]
  have := h (j / 7) _ (List.getElem?_eq_getElem hk) (j % 7) u e.symm
  rwa [show o + j / 7 * 7 + j % 7 = o + j by omega] at this

/-- An item's value. -/
abbrev itemV (y : It.Itm) : Value := .agg #[.int .i64 y.k, .string (txt y.name), .int .i64 y.n, .string (txt y.e0.n), .int .u8 y.e0.c.toNat, .string (txt y.e1.n), .int .u8 y.e1.c.toNat]
theorem infoItem : (Tryd.prog.info? 38).map (fun i => (i.zero, i.size, i.bytes)) = some (some (.agg #[.int .i64 0, .string ⟨#[]⟩, .int .i64 0, .string ⟨#[]⟩, .int .u8 0, .string ⟨#[]⟩, .int .u8 0]), 7, 80) := by kernel_rfl
/-- A fault: the error of a form, and the line; or none. -/
def faultV (n : Nat) : Value := if n = 0 then .agg #[.int .i64 0, .int .i64 0] else .agg #[.int .i64 2, .int .i64 n]
/-- What Parse leaves. -/
def SheetGives (p : List It.Itm × Nat) (w : World) (e : Ending) (w' : World) : Prop :=
  ∃ A c, p.1.length ≤ c ∧ e = .returned (.tuple #[.slice A p.1.length c, faultV p.2]) ∧ Its w' A p.1 ∧ Below w.heap.size w w'
theorem SheetGives.bad {p : List It.Itm × Nat} {w w' : World} {e : Ending} (k : Nat) (hp : p = ([], k + 1)) (he : e = .returned (.tuple #[.slice none 0 0, .agg #[.int .i64 2, .int .i64 ((k : Int) + 1)]])) (hb : Below w.heap.size w w') : SheetGives p w e w' := by
  subst hp; exact ⟨none, 0, Nat.le_refl _, by rw [he, faultV, if_neg (by omega)]; simp, .inl rfl, hb⟩
theorem SheetGives.good {p : List It.Itm × Nat} {w w' : World} {e : Ending} {A : Option Addr} {n c : Nat} {L : List It.Itm} (hp : p = (L, 0)) (hn : n = L.length) (hc : n ≤ c) (he : e = .returned (.tuple #[.slice A n c, .agg #[.int .i64 0, .int .i64 0]])) (hs : Its w' A L) (hb : Below w.heap.size w w') : SheetGives p w e w' := by
  subst hp hn; exact ⟨A, c, hc, by rw [he]; rfl, hs, hb⟩
theorem eql_fault (W : World) (a b c d : Int) : Sem.run Tryd.prog (Op.equalIn 10000 27 (.agg #[.int .i64 a, .int .i64 b]) (.agg #[.int .i64 c, .int .i64 d])) W = .ok (a == c && b == d) W := by
  cases h1 : a == c <;> cases h2 : b == d <;> go_simp
theorem bin_fault (W : World) (a b c d : Int) : Sem.run Tryd.prog (binOp .eql 27 (.agg #[.int .i64 a, .int .i64 b]) (.agg #[.int .i64 c, .int .i64 d])) W = .ok (.bool (a == c && b == d)) W := by
  rw [run_eql_struct, eql_fault]; rfl
end Go.Proofs.YtgagandecjljoaaDoor

