/-
  Texts of this claim, merged: DmSpec.
-/
import Derived.Test.YtkdgcibkjhhpoaaMg13
/-
  Plain mathematics of layer 9: demands, by their points; what is asked of a point; whether two are opposed. No program is named here.
-/
namespace Go.Proofs.Ytkdgcibkjhhpoaa.Dm
open Go Pl Wk

structure Dem where
  pt : Int
  pos : Int
deriving DecidableEq
def posOf (l : List Dem) (k : Int) : Int := ((l.find? fun x => decide (x.pt = k)).map Dem.pos).getD 0
def low (k : Int) (x : Dem) : Bool := decide (x.pt < k)
def put (l : List Dem) (x : Dem) : List Dem := if posOf l x.pt ≠ 0 then l else l.takeWhile (low x.pt) ++ x :: l.dropWhile (low x.pt)
def opposed (a b : List Dem) : Bool := a.any fun x => decide (posOf b x.pt ≠ 0) && decide (posOf b x.pt ≠ x.pos)
/-- What steps ask of points. -/
def ofSteps (p : Plan) (l : List Stp) : List Dem := l.foldl (fun out x => if 0 < position p x then put out ⟨x.s, position p x⟩ else out) []

/-- Demands by their points, each point once, none for no position. -/
structure Good (l : List Dem) : Prop where
  rise : l.Pairwise fun x y => x.pt < y.pt
  some_ : ∀ x ∈ l, x.pos ≠ 0
theorem Good.nil : Good [] := ⟨.nil, fun _ h => (by cases h)⟩
theorem posOf_cons (x : Dem) (l : List Dem) (k : Int) : posOf (x :: l) k = if x.pt = k then x.pos else posOf l k := by
  unfold posOf
  rw [List.find?_cons]
  by_cases h : x.pt = k
  · rw [decide_eq_true h, if_pos h]; rfl
  · rw [decide_eq_false h, if_neg h]
theorem posOf_none {l : List Dem} {k : Int} (h : ∀ x ∈ l, x.pt ≠ k) : posOf l k = 0 := by
  induction l with
  | nil => rfl
  | cons x l ih =>
    rw [posOf_cons, if_neg (h x (List.mem_cons_self ..))]
    exact ih fun y hy => h y (List.mem_cons_of_mem _ hy)
theorem posOf_mem {l : List Dem} (h : l.Pairwise fun x y => x.pt < y.pt) {x : Dem} (hx : x ∈ l) : posOf l x.pt = x.pos := by
  induction l with
  | nil => cases hx
  | cons y l ih =>
    obtain ⟨h1, h2⟩ := List.pairwise_cons.1 h
    rw [posOf_cons]
    rcases List.mem_cons.1 hx with rfl | hx
    · rw [if_pos rfl]
    · have := h1 x hx
      rw [if_neg (by omega)]
      exact ih h2 hx
theorem posOf_some {l : List Dem} {k : Int} (h : posOf l k ≠ 0) : ∃ x ∈ l, x.pt = k ∧ x.pos = posOf l k := by
  induction l with
  | nil => exact absurd rfl h
  | cons y l ih =>
    rw [posOf_cons] at h ⊢
    by_cases hy : y.pt = k
    · rw [if_pos hy]
      exact ⟨y, List.mem_cons_self .., hy, rfl⟩
    · rw [if_neg hy] at h ⊢
      obtain ⟨x, h1, h2, h3⟩ := ih h
      exact ⟨x, List.mem_cons_of_mem _ h1, h2, h3⟩
theorem Good.at {l : List Dem} (h : Good l) {x : Dem} (hx : x ∈ l) : posOf l x.pt = x.pos ∧ posOf l x.pt ≠ 0 := by
  have := posOf_mem h.rise hx
  exact ⟨this, by rw [this]; exact h.some_ x hx⟩
theorem Good.free {l : List Dem} (h : Good l) {k : Int} (hk : posOf l k = 0) : ∀ x ∈ l, x.pt ≠ k := fun x hx e => (h.at hx).2 (by rw [e]; exact hk)
theorem posOf_append (a b : List Dem) (k : Int) : posOf (a ++ b) k = if (∃ x ∈ a, x.pt = k) then posOf a k else posOf b k := by
  induction a with
  | nil =>
    rw [List.nil_append, if_neg]
    rintro ⟨x, hx, -⟩
    cases hx
  | cons y a ih =>
    rw [List.cons_append, posOf_cons, posOf_cons, ih]
    by_cases hy : y.pt = k
    · rw [if_pos hy, if_pos ⟨y, List.mem_cons_self .., hy⟩, if_pos hy]
    · rw [if_neg hy]
      by_cases he : ∃ x ∈ a, x.pt = k
      · obtain ⟨x, hx, hk⟩ := he
        rw [if_pos ⟨x, hx, hk⟩, if_pos ⟨x, List.mem_cons_of_mem _ hx, hk⟩, if_neg hy]
      · rw [if_neg he, if_neg]
        rintro ⟨x, hx, hk⟩
        rcases List.mem_cons.1 hx with rfl | hx
        · exact hy hk
        · exact he ⟨x, hx, hk⟩
theorem low_take {k : Int} : ∀ {l : List Dem}, ∀ x ∈ l.takeWhile (low k), x.pt < k
  | [], _, h => by cases h
  | y :: l, x, h => by
    rw [List.takeWhile_cons] at h
    split at h
    · rename_i hy
      rcases List.mem_cons.1 h with rfl | h
      · exact of_decide_eq_true hy
      · exact low_take x h
    · cases h
theorem low_drop {k : Int} : ∀ {l : List Dem}, l.Pairwise (fun x y => x.pt < y.pt) → ∀ x ∈ l.dropWhile (low k), k ≤ x.pt
  | [], _, _, h => by cases h
  | y :: l, hp, x, h => by
    obtain ⟨h1, h2⟩ := List.pairwise_cons.1 hp
    rw [List.dropWhile_cons] at h
    split at h
    · exact low_drop h2 x h
    · rename_i hy
      have hy' : ¬ y.pt < k := fun e => hy (decide_eq_true e)
      rcases List.mem_cons.1 h with rfl | h
      · omega
      · have := h1 x h; omega
/-- With one more, demands stand by their points as before. -/
theorem Good.put {l : List Dem} (h : Good l) {x : Dem} (hx : x.pos ≠ 0) : Good (Dm.put l x) := by
  unfold Dm.put
  split
  · exact h
  · rename_i h0
    have hf := h.free (Decidable.not_not.1 h0)
    have hl : l.takeWhile (low x.pt) ++ l.dropWhile (low x.pt) = l := List.takeWhile_append_dropWhile
    have hr := h.rise
    rw [← hl] at hr
    obtain ⟨r1, r2, r3⟩ := List.pairwise_append.1 hr
    refine ⟨List.pairwise_append.2 ⟨r1, List.pairwise_cons.2 ⟨fun y hy => ?_, r2⟩, fun y hy z hz => ?_⟩, fun y hy => ?_⟩
    · have h1 := low_drop h.rise y hy
      have h2 := hf y (by rw [← hl]; exact List.mem_append_right _ hy)
      omega
    · rcases List.mem_cons.1 hz with rfl | hz
      · exact low_take y hy
      · exact r3 y hy z hz
    · rcases List.mem_append.1 hy with hy | hy
      · exact h.some_ y (by rw [← hl]; exact List.mem_append_left _ hy)
      · rcases List.mem_cons.1 hy with rfl | hy
        · exact hx
        · exact h.some_ y (by rw [← hl]; exact List.mem_append_right _ hy)
/-- What is asked of a point behind one more. -/
theorem Good.posOf_put {l : List Dem} (h : Good l) {x : Dem} (k : Int) : posOf (Dm.put l x) k = if posOf l k ≠ 0 then posOf l k else if k = x.pt then x.pos else 0 := by
  unfold Dm.put
  by_cases h0 : posOf l x.pt ≠ 0
  · rw [if_pos h0]
    by_cases hk : posOf l k ≠ 0
    · rw [if_pos hk]
    · rw [if_neg hk]
      have hk0 : posOf l k = 0 := Decidable.not_not.1 hk
      rw [hk0, if_neg]
      rintro rfl
      exact h0 hk0
  · rw [if_neg h0]
    have hf := h.free (Decidable.not_not.1 h0)
    have hl : l.takeWhile (low x.pt) ++ l.dropWhile (low x.pt) = l := List.takeWhile_append_dropWhile
    have hk := posOf_append (l.takeWhile (low x.pt)) (l.dropWhile (low x.pt)) k
    rw [hl] at hk
    rw [posOf_append, posOf_cons, hk]
    by_cases he : ∃ y ∈ l.takeWhile (low x.pt), y.pt = k
    · rw [if_pos he, if_pos he]
      obtain ⟨y, hy, hyk⟩ := he
      have hyl : y ∈ l := by rw [← hl]; exact List.mem_append_left _ hy
      have h1 := h.at hyl
      have h2 : posOf (l.takeWhile (low x.pt)) k = posOf l k := by rw [hk, if_pos ⟨y, hy, hyk⟩]
      rw [h2, if_pos (by rw [← hyk]; exact h1.2)]
    · rw [if_neg he, if_neg he]
      by_cases hkx : x.pt = k
      · rw [if_pos hkx, if_neg, if_pos hkx.symm]
        rw [Decidable.not_not]
        exact posOf_none fun y hy e => hf y (by rw [← hl]; exact List.mem_append_right _ hy) (by rw [e, hkx])
      · rw [if_neg hkx]
        by_cases hz : posOf (l.dropWhile (low x.pt)) k ≠ 0
        · rw [if_pos hz]
        · rw [if_neg hz, if_neg (fun e => hkx e.symm)]
          exact Decidable.not_not.1 hz
/-- Two are opposed just at a point of which both ask, and unlike positions. -/
theorem opposed_iff {a b : List Dem} (ha : Good a) : opposed a b = true ↔ ∃ k, posOf a k ≠ 0 ∧ posOf b k ≠ 0 ∧ posOf b k ≠ posOf a k := by
  unfold opposed
  rw [List.any_eq_true]
  constructor
  · rintro ⟨x, hx, h⟩
    rw [Bool.and_eq_true] at h
    obtain ⟨h1, h2⟩ := ha.at hx
    exact ⟨x.pt, h2, of_decide_eq_true h.1, by rw [h1]; exact of_decide_eq_true h.2⟩
  · rintro ⟨k, h1, h2, h3⟩
    obtain ⟨x, hx, rfl, hp⟩ := posOf_some h1
    exact ⟨x, hx, by rw [Bool.and_eq_true]; exact ⟨decide_eq_true h2, decide_eq_true (by rw [hp]; exact h3)⟩⟩
theorem opposed_comm {a b : List Dem} (ha : Good a) (hb : Good b) : opposed a b = opposed b a := by
  rw [Bool.eq_iff_iff, opposed_iff ha, opposed_iff hb]
  exact ⟨fun ⟨k, h1, h2, h3⟩ => ⟨k, h2, h1, fun e => h3 e.symm⟩, fun ⟨k, h1, h2, h3⟩ => ⟨k, h2, h1, fun e => h3 e.symm⟩⟩
/-- What one asks of a point of which the other asks none doesn't matter. -/
theorem opposed_put_free {a b : List Dem} (ha : Good a) {x : Dem} (hx : x.pos ≠ 0) (hk : posOf b x.pt = 0) : opposed (Dm.put a x) b = opposed a b := by
  rw [Bool.eq_iff_iff, opposed_iff (ha.put hx), opposed_iff ha]
  constructor
  · rintro ⟨k, h1, h2, h3⟩
    have hne : k ≠ x.pt := fun e => h2 (by rw [e]; exact hk)
    rw [ha.posOf_put] at h1 h3
    by_cases h : posOf a k ≠ 0
    · rw [if_pos h] at h3
      exact ⟨k, h, h2, h3⟩
    · rw [if_neg h, if_neg hne] at h1
      exact absurd rfl h1
  · rintro ⟨k, h1, h2, h3⟩
    refine ⟨k, ?_, h2, ?_⟩
    · rw [ha.posOf_put, if_pos h1]; exact h1
    · rw [ha.posOf_put, if_pos h1]; exact h3
/-- Asked for otherwise than the other one does, two are opposed. -/
theorem opposed_put_other {a b : List Dem} (ha : Good a) {x : Dem} (hx : x.pos ≠ 0) (hk : posOf b x.pt ≠ 0) (h0 : posOf a x.pt = 0) (hne : posOf b x.pt ≠ x.pos) : opposed (Dm.put a x) b = true := by
  rw [opposed_iff (ha.put hx)]
  have h1 : posOf (Dm.put a x) x.pt = x.pos := by rw [ha.posOf_put, if_neg (Decidable.not_not.2 h0), if_pos rfl]
  exact ⟨x.pt, by rw [h1]; exact hx, hk, by rw [h1]; exact hne⟩
theorem opposed_self {a : List Dem} (ha : Good a) : opposed a a = false := by
  cases h : opposed a a with
  | false => rfl
  | true =>
    obtain ⟨k, -, -, h3⟩ := (opposed_iff ha).1 h
    exact absurd rfl h3
end Go.Proofs.Ytkdgcibkjhhpoaa.Dm
