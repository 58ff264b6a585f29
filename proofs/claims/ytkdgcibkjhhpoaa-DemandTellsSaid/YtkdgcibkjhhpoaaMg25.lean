/-
  Texts of this claim, merged: DmLaw.
-/
import Derived.Test.YtkdgcibkjhhpoaaMg24
/-
  What the laws of layer 9 share: pairs of bytes in memory; the demands that they tell.
-/
namespace Go.Proofs.Ytkdgcibkjhhpoaa
open Go.RowKit

namespace Dm
/-- The demand that a pair of bytes tells. -/
def ofPair (x : Int × Int) : Dem := ⟨x.1, 1 + x.2 % 2⟩
/-- Put one behind the other. -/
def sets (L : List (Int × Int)) : List Dem := L.foldl (fun out x => put out (ofPair x)) []
theorem sets_take {L : List (Int × Int)} {k : Nat} {y : Int × Int} (h : L[k]? = some y) : sets (L.take (k + 1)) = put (sets (L.take k)) (ofPair y) := by
  rw [List.take_add_one, h]
  unfold sets
  rw [List.foldl_append]
  rfl
theorem ofPair_pos (x : Int × Int) : (ofPair x).pos = 1 ∨ (ofPair x).pos = 2 := by
  show 1 + x.2 % 2 = 1 ∨ 1 + x.2 % 2 = 2
  omega
theorem ofPair_ne (x : Int × Int) : (ofPair x).pos ≠ 0 := by rcases ofPair_pos x with h | h <;> omega
theorem put_mem {l : List Dem} {x y : Dem} (h : y ∈ put l x) : y ∈ l ∨ y = x := by
  unfold put at h
  split at h
  · exact .inl h
  · have hl : l.takeWhile (low x.pt) ++ l.dropWhile (low x.pt) = l := List.takeWhile_append_dropWhile
    rcases List.mem_append.1 h with h | h
    · exact .inl (by rw [← hl]; exact List.mem_append_left _ h)
    · rcases List.mem_cons.1 h with h | h
      · exact .inr h
      · exact .inl (by rw [← hl]; exact List.mem_append_right _ h)
theorem foldl_ind {L : List (Int × Int)} {P : List Dem → Prop} (h1 : ∀ l, P l → ∀ x ∈ L, P (put l (ofPair x))) : ∀ {l}, P l → P (L.foldl (fun out x => put out (ofPair x)) l) := by
  induction L with
  | nil => intro l h; exact h
  | cons x L ih =>
    intro l h
    rw [List.foldl_cons]
    exact ih (fun l hl y hy => h1 l hl y (List.mem_cons_of_mem _ hy)) (h1 l h x (List.mem_cons_self ..))
theorem sets_good (L : List (Int × Int)) : Good (sets L) := foldl_ind (P := Good) (fun _ h x _ => h.put (ofPair_ne x)) Good.nil
theorem sets_pos (L : List (Int × Int)) : ∀ x ∈ sets L, x.pos = 1 ∨ x.pos = 2 := foldl_ind (P := fun l => ∀ x ∈ l, x.pos = 1 ∨ x.pos = 2) (fun _ h x _ y hy => by
  rcases put_mem hy with hy | rfl
  · exact h y hy
  · exact ofPair_pos x) (fun _ h => by cases h)
theorem sets_pts {L : List (Int × Int)} (hL : ∀ x ∈ L, 0 ≤ x.1 ∧ x.1 < 256) : ∀ x ∈ sets L, 0 ≤ x.pt ∧ x.pt < 256 := foldl_ind (P := fun l => ∀ x ∈ l, 0 ≤ x.pt ∧ x.pt < 256) (fun _ h x hx y hy => by
  rcases put_mem hy with hy | rfl
  · exact h y hy
  · exact hL x hx) (fun _ h => by cases h)
theorem sets_len (L : List (Int × Int)) : ∀ k, (sets (L.take k)).length ≤ k
  | 0 => by rw [List.take_zero]; exact Nat.le_refl _
  | k + 1 => by
    have ih := sets_len L k
    cases h : L[k]? with
    | none =>
      rw [List.take_add_one, h]
      show (sets (L.take k ++ [])).length ≤ _
      rw [List.append_nil]; omega
    | some y =>
      rw [sets_take h]
      have := put_len (sets (L.take k)) (ofPair y)
      omega
theorem posOf_sets (L : List (Int × Int)) {k : Int} (h : posOf (sets L) k ≠ 0) : posOf (sets L) k = 1 ∨ posOf (sets L) k = 2 := by
  obtain ⟨x, hx, -, he⟩ := posOf_some h
  rw [← he]
  exact sets_pos L x hx
/-- How many of the first numbers are asked for. -/
def count (l : List Dem) : Nat → Nat
  | 0 => 0
  | k + 1 => count l k + (if posOf l (k : Int) ≠ 0 then 1 else 0)
theorem count_le (l : List Dem) : ∀ k, count l k ≤ k
  | 0 => Nat.le_refl _
  | k + 1 => by
    have := count_le l k
    unfold count
    split <;> omega
theorem filter_low {l : List Dem} (hg : Good l) (K : Int) : (l.filter fun x => decide (x.pt < K + 1)).length = (l.filter fun x => decide (x.pt < K)).length + (if posOf l K ≠ 0 then 1 else 0) := by
  induction l with
  | nil => rfl
  | cons x l ih =>
    obtain ⟨h1, h2⟩ := List.pairwise_cons.1 hg.rise
    have hl : Good l := ⟨h2, fun y hy => hg.some_ y (List.mem_cons_of_mem _ hy)⟩
    have ih := ih hl
    rw [posOf_cons]
    by_cases hx : x.pt = K
    · have hx0 := hg.some_ x (List.mem_cons_self ..)
      rw [if_pos hx, if_pos hx0, List.filter_cons, List.filter_cons, if_pos (decide_eq_true (by omega)), if_neg (by rw [decide_eq_true_eq]; omega)]
      have e1 : (l.filter fun x => decide (x.pt < K + 1)) = [] := by
        rw [List.filter_eq_nil_iff]
        intro y hy
        have := h1 y hy
        rw [decide_eq_true_eq]; omega
      have e2 : (l.filter fun x => decide (x.pt < K)) = [] := by
        rw [List.filter_eq_nil_iff]
        intro y hy
        have := h1 y hy
        rw [decide_eq_true_eq]; omega
      rw [e1, e2]
      rfl
    · rw [if_neg hx, List.filter_cons, List.filter_cons]
      by_cases hlt : x.pt < K
      · rw [if_pos (decide_eq_true (by omega)), if_pos (decide_eq_true hlt), List.length_cons, List.length_cons, ih]; omega
      · rw [if_neg (by rw [decide_eq_true_eq]; omega), if_neg (by rw [decide_eq_true_eq]; omega), ih]
theorem count_filter {l : List Dem} (hg : Good l) (h0 : ∀ x ∈ l, 0 ≤ x.pt) : ∀ k : Nat, count l k = (l.filter fun x => decide (x.pt < (k : Int))).length
  | 0 => by
    show 0 = _
    rw [List.filter_eq_nil_iff.2]
    · rfl
    · intro x hx
      have := h0 x hx
      rw [decide_eq_true_eq]; omega
  | k + 1 => by
    show count l k + _ = _
    rw [count_filter hg h0 k, ← filter_low hg (k : Int)]
    congr 2
theorem count_all {l : List Dem} (hg : Good l) (h0 : ∀ x ∈ l, 0 ≤ x.pt ∧ x.pt < 256) : count l 256 = l.length := by
  rw [count_filter hg (fun x hx => (h0 x hx).1)]
  congr 1
  rw [List.filter_eq_self]
  intro x hx
  exact decide_eq_true (h0 x hx).2
/-- What is asked of each byte's point. -/
def table (l : List Dem) : List Value := (List.range 256).map fun (k : Nat) => Value.int .i64 (posOf l (k : Int))
theorem table_len (l : List Dem) : (table l).length = 256 := by unfold table; rw [List.length_map, List.length_range]
theorem table_at (l : List Dem) {k : Nat} (hk : k < 256) : (table l)[k]? = some (.int .i64 (posOf l (k : Int))) := by
  unfold table
  rw [List.getElem?_map, List.getElem?_range hk]
  rfl
theorem table_ext {l : List Dem} {T : List Value} (hT : T.length = 256) (h : ∀ k, k < 256 → T[k]? = some (.int .i64 (posOf l (k : Int)))) : T = table l := by
  apply List.ext_getElem?
  intro k
  by_cases hk : k < 256
  · rw [h k hk, table_at l hk]
  · rw [List.getElem?_eq_none (by omega), List.getElem?_eq_none (by rw [table_len]; omega)]
theorem table_put_had {l : List Dem} {x : Dem} (h : posOf l x.pt ≠ 0) : table (put l x) = table l := by
  rw [put_had h]
theorem table_put_new {l : List Dem} (hg : Good l) {x : Dem} {j : Nat} (hj : x.pt = (j : Int)) (hj2 : j < 256) (h : posOf l x.pt = 0) : (table l).set j (.int .i64 x.pos) = table (put l x) := by
  refine table_ext (by rw [List.length_set, table_len]) fun k hk => ?_
  rw [hg.posOf_put]
  by_cases hkj : k = j
  · subst hkj
    rw [List.getElem?_set_self (by rw [table_len]; exact hk), ← hj, h, if_neg (by decide), if_pos rfl]
  · rw [List.getElem?_set_ne (Ne.symm hkj), table_at l hk]
    by_cases h0 : posOf l (k : Int) ≠ 0
    · rw [if_pos h0]
    · rw [if_neg h0, if_neg (by omega), Decidable.not_not.1 h0]
end Dm
/-- Pairs of bytes in memory. -/
def LPr : Lies (Int × Int) := ⟨2, by decide, fun x => [.int .u8 x.1, .int .u8 x.2], fun _ => rfl, fun y u hu => by
  simp at hu
  rcases hu with rfl | rfl <;> rfl⟩
theorem pr_on {w : World} {b o : Nat} {x : Int × Int} (h : LPr.On w b o x) : w.cell? ⟨b, o, none⟩ = some (.int .u8 x.1) ∧ w.cell? ⟨b, o + 1, none⟩ = some (.int .u8 x.2) :=
  ⟨h 0 _ rfl, h 1 _ rfl⟩
theorem same_dems {B1 B2 : Option Addr} {d1 d2 n : Nat} {M : List Dm.Dem} {W : World} (hn : M.length = n) (h1 : LDem.Row W B1 M) (h2 : LDem.Row W B2 M) (hl : n ≤ 1000) :
    Calls Try.prog 10 #[.slice B1 n d1, .slice B2 n d2] W (OneIs (.bool true) W) := by
  subst hn
  have := rdSame_any B1 d1 M B2 d2 M W h1 (by omega) h2 (by omega)
  rwa [decide_eq_true rfl] at this
/-- Demands that a call leaves behind a world that stands. -/
def DemMade (W0 : World) (n : Nat) (L : List Dm.Dem) (W : World) (e : Ending) (w' : World) : Prop := ∃ B d, e = .returned (.slice B n d) ∧ LDem.Row w' B L ∧ n ≤ d ∧ Below W.heap.size W w' ∧ Below W0.heap.size W0 w'
theorem DemMade.of {W0 W : World} {L : List Dm.Dem} {f : FuncId} {xs : Array Value} {n : Nat} (hn : L.length = n) (h : Below W0.heap.size W0 W) (hc : Calls Try.prog f xs W (DemsYes L W)) : Calls Try.prog f xs W (DemMade W0 n L W) :=
  hc.mono fun e w' ⟨B, d, he, hr, hd, hb⟩ => by
    subst hn
    exact ⟨B, d, he, hr, hd, hb, h.trans (hb.mono h.size)⟩
end Go.Proofs.Ytkdgcibkjhhpoaa
