/-
  Slices of texts in memory: which texts their cells hold; kept where nothing below the heap's end changes. And the small words that the walks of layer 2 use.
-/
import Derived.Test.YtgagandecjljoaaDoorLnSpec
import Derived.Test.YtgagandecjljoaaDoorShelf
import Derived.Test.YtgagandecjljoaaDoorLawKit
import Derived.WalkSpells
import Derived.WalkLawsBesides
import Derived.Deep.QuietTactic
import Derived.BigQuiet
import Derived.Lib.Hide
import Derived.Outline
namespace Go.Proofs.YtgagandecjljoaaDoor
open Go.RowKit

theorem drop_cons (s : ByteArray) (k : Nat) (h : k < s.size) : s.data.toList.drop k = s[k] :: s.data.toList.drop (k + 1) := by
  rw [List.drop_eq_getElem_cons (by simpa using h)]; rfl
theorem below_drewN {B : Nat} {a w : World} (h : Below B a w) (n : Nat) : Below B a (w.drewN n) := ⟨h.os, h.tape, h.output, h.size, h.block⟩
theorem below_of_drewN {B : Nat} {a w : World} (h : Below B a w) (n m k : Nat) : Below B a (((w.drewN n).drewN m).drewN k) := below_drewN (below_drewN (below_drewN h n) m) k

/-- The cells from A on hold these texts. -/
def Strs (w : World) (A : Option Addr) (L : List (List UInt8)) : Prop :=
  ∀ k x, L[k]? = some x → ∃ a, A = some a ∧ a.block < w.heap.size ∧ w.cell? (a.add k) = some (str x)
theorem add_block (a : Addr) (k : Nat) : (a.add k).block = a.block := by unfold Addr.add; split <;> rfl
theorem Strs.nil (w : World) (A : Option Addr) : Strs w A [] := fun k x h => by simp at h
theorem Strs.below {w w' : World} {A : Option Addr} {L : List (List UInt8)} {B : Nat} (h : Strs w A L) (hB : B = w.heap.size) (hb : Below B w w') : Strs w' A L := fun k x hx => by
  subst hB
  obtain ⟨a, rfl, h1, h2⟩ := h k x hx
  have := hb.size
  exact ⟨a, rfl, by omega, by rw [hb.cell (by rw [add_block]; exact h1)]; exact h2⟩
theorem Strs.take {w : World} {A : Option Addr} {L : List (List UInt8)} (h : Strs w A L) (n : Nat) : Strs w A (L.take n) := fun k x hx => h k x (by
  rw [List.getElem?_take] at hx
  split at hx
  · exact hx
  · cases hx)
theorem Strs.cell {w : World} {A : Option Addr} {L : List (List UInt8)} (h : Strs w A L) {k : Nat} (hk : k < L.length) : ∃ a, A = some a ∧ a.block < w.heap.size ∧ w.cell? (a.add k) = some (str L[k]) := h k _ (List.getElem?_eq_getElem hk)
theorem Strs.of_own {w : World} {base : Nat} {e : TypeId} {v : Value} {n : Nat} {L : List (List UInt8)} (h : w.ownsRow base e 1 v n (L.map str)) :
    n = L.length ∧ ∃ A c, v = .slice A n c ∧ n ≤ c ∧ Strs w A L := by
  have hl : L.length = n := by simpa using h.1
  refine ⟨hl.symm, ?_⟩
  rcases h.2 with ⟨rfl, rfl⟩ | ⟨g, cap, cur, rfl, _, hh, hc, _⟩
  · exact ⟨none, 0, rfl, Nat.le_refl _, by rw [List.eq_nil_of_length_eq_zero hl]; exact Strs.nil _ _⟩
  · refine ⟨some ⟨g, 0, none⟩, cap, rfl, hc, fun k x hx => ⟨_, rfl, ?_, ?_⟩⟩
    · exact (Array.getElem?_eq_some_iff.1 hh).1
    · exact h.cells (g := g) rfl k _ (by rw [List.getElem?_map, hx]; rfl)
/-- A block of these texts that was laid just now. -/
theorem Strs.fresh (w : World) (L : List (List UInt8)) (t : TypeId) : Strs (w.alloc (.cells (L.map str).toArray t)) (some ⟨w.heap.size, 0, none⟩) L := fun k x hx => by
  refine ⟨_, rfl, by simp, ?_⟩
  rw [Go.WideShapes.add_plain, Nat.zero_add, cell_of_row _ _ _ _ _ _ (heap_alloc_new w _)]
  simp [hx]

/-- The library's bound on its table holds an integer. -/
def MaxOk (w : World) : Prop := ∃ m : Int, w.cell? ⟨0, 0, none⟩ = some (.int .i64 m)
theorem MaxOk.below {w w' : World} {B : Nat} (h : MaxOk w) (hB : B = w.heap.size) (hb : Below B w w') : MaxOk w' := by
  subst hB
  obtain ⟨m, hm⟩ := h
  exact ⟨m, by rw [hb.cell (World.block_lt_of_cell? _ _ hm)]; exact hm⟩

/-- What a function that makes texts and a truth leaves. -/
def GivesList (L : List (List UInt8)) (b : Bool) (w : World) (e : Ending) (w' : World) : Prop :=
  ∃ A c, L.length ≤ c ∧ e = .returned (.tuple #[.slice A L.length c, .bool b]) ∧ Strs w' A L ∧ Below w.heap.size w w'
theorem GivesList.mk {L : List (List UInt8)} {b : Bool} {w w' : World} {e : Ending} {A : Option Addr} {n c : Nat} (hc : n ≤ c) (hn : n = L.length) (he : e = .returned (.tuple #[.slice A n c, .bool b])) (hs : Strs w' A L) (hb : Below w.heap.size w w') :
    GivesList L b w e w' := by subst hn; exact ⟨A, c, hc, he, hs, hb⟩
end Go.Proofs.YtgagandecjljoaaDoor

