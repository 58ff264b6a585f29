/-
  Plain mathematics of layer 4: the items of a text's lines, the first line that is of no form, and items as a text. No program is named here.
-/
import Derived.Test.YtgagandecjljoaaDoorItSpec
namespace Go.Proofs.YtgagandecjljoaaDoor.Sh
open Go

def okL (x : List UInt8) : Bool := (It.parse x).isSome
/-- Is line k of an item's form, with a line feed? -/
def good (wh : Bool) (L : List (List UInt8)) (k : Nat) : Bool := (L[k]?).any okL && (wh || decide (k + 1 < L.length))
def bad (wh : Bool) (L : List (List UInt8)) : Option Nat := (List.range L.length).find? fun k => !good wh L k
def items (L : List (List UInt8)) : List It.Itm := L.filterMap It.parse
def parse (l : List UInt8) : List It.Itm × Nat := match bad (Ln.whole l) (Ln.split l) with
  | some k => ([], k + 1)
  | none => (items (Ln.split l), 0)
def print (L : List It.Itm) : List UInt8 := Ln.text (L.map It.print)

theorem bad_at {wh : Bool} {L : List (List UInt8)} {k : Nat} (hk : k < L.length) (h0 : ∀ j < k, good wh L j = true) (h : good wh L k = false) : bad wh L = some k := by
  rw [bad, List.find?_range_eq_some]
  refine ⟨by simp [h], by simpa using hk, fun j hj => by simp [h0 j hj]⟩
theorem bad_no {wh : Bool} {L : List (List UInt8)} (h : ∀ j < L.length, good wh L j = true) : bad wh L = none := by
  rw [bad, List.find?_range_eq_none]
  intro j hj
  simp [h j hj]
theorem bad_some {wh : Bool} {L : List (List UInt8)} {k : Nat} (h : bad wh L = some k) : k < L.length ∧ (∀ j < k, good wh L j = true) ∧ good wh L k = false := by
  rw [bad, List.find?_range_eq_some] at h
  obtain ⟨h1, h2, h3⟩ := h
  exact ⟨by simpa using h2, fun j hj => by simpa using h3 j hj, by simpa using h1⟩
theorem bad_none {wh : Bool} {L : List (List UInt8)} (h : bad wh L = none) : ∀ j < L.length, good wh L j = true := by
  rw [bad, List.find?_range_eq_none] at h
  intro j hj
  simpa using h j hj
theorem parse_some {l : List UInt8} {k : Nat} (h : bad (Ln.whole l) (Ln.split l) = some k) : parse l = ([], k + 1) := by rw [parse, h]
theorem parse_none {l : List UInt8} (h : bad (Ln.whole l) (Ln.split l) = none) : parse l = (items (Ln.split l), 0) := by rw [parse, h]

theorem good_iff {wh : Bool} {L : List (List UInt8)} {k : Nat} (hk : k < L.length) : good wh L k = ((It.parse L[k]).isSome && (wh || decide (k + 1 < L.length))) := by
  rw [good, List.getElem?_eq_getElem hk]; rfl
theorem good_parse {wh : Bool} {L : List (List UInt8)} {k : Nat} (h : good wh L k = true) : ∃ y, ∃ hk : k < L.length, It.parse L[k] = some y := by
  by_cases hk : k < L.length
  · rw [good_iff hk, Bool.and_eq_true] at h
    obtain ⟨y, hy⟩ := Option.isSome_iff_exists.1 h.1
    exact ⟨y, hk, hy⟩
  · rw [good, List.getElem?_eq_none (by omega)] at h
    cases h
theorem good_whole {L : List (List UInt8)} {wh : Bool} (h : ∀ j < L.length, good wh L j = true) (hne : L ≠ []) : wh = true := by
  have hl : 0 < L.length := List.length_pos_iff.2 hne
  have := h (L.length - 1) (by omega)
  rw [good_iff (by omega), Bool.and_eq_true] at this
  have h2 := this.2
  rw [decide_eq_false (by omega), Bool.or_false] at h2
  exact h2
theorem items_snoc {L : List (List UInt8)} {k : Nat} (hk : k < L.length) {y : It.Itm} (h : It.parse L[k] = some y) : items (L.take (k + 1)) = items (L.take k) ++ [y] := by
  rw [List.take_succ_eq_append_getElem hk, items, List.filterMap_append]
  simp [items, h]
theorem items_len {wh : Bool} {L : List (List UInt8)} : ∀ {k : Nat}, (∀ j < k, good wh L j = true) → (items (L.take k)).length = k
  | 0, _ => by simp [items]
  | k + 1, h => by
    obtain ⟨y, hk, hy⟩ := good_parse (h k (by omega))
    rw [items_snoc hk hy, List.length_append, items_len fun j hj => h j (by omega)]
    rfl
theorem items_le (L : List (List UInt8)) : (items L).length ≤ L.length := List.length_filterMap_le _ _
theorem items_append (a b : List (List UInt8)) : items (a ++ b) = items a ++ items b := List.filterMap_append ..
theorem items_print (nb : It.NumBack) : ∀ {L : List (List UInt8)}, (∀ x ∈ L, (It.parse x).isSome = true) → (items L).map It.print = L
  | [], _ => rfl
  | x :: L, h => by
    obtain ⟨y, hy⟩ := Option.isSome_iff_exists.1 (h x (by simp))
    have ih := items_print nb (L := L) fun z hz => h z (by simp [hz])
    rw [items] at ih
    rw [items, List.filterMap_cons, hy]
    simp only [List.map_cons]
    rw [ih, (It.print_parse nb x y hy).1]
theorem good_all {wh : Bool} {L : List (List UInt8)} (h : ∀ j < L.length, good wh L j = true) : ∀ x ∈ L, (It.parse x).isSome = true := fun x hx => by
  obtain ⟨j, hj, rfl⟩ := List.getElem_of_mem hx
  have := h j hj
  rw [good_iff hj, Bool.and_eq_true] at this
  exact this.1

/-- What is parsed is written just so. -/
theorem print_parse (nb : It.NumBack) (l : List UInt8) (h : (parse l).2 = 0) : print (parse l).1 = l := by
  cases hb : bad (Ln.whole l) (Ln.split l) with
  | some k => rw [parse_some hb] at h; simp at h
  | none =>
    have hg := bad_none hb
    rw [parse_none hb, print, items_print nb (good_all hg)]
    have ht := Ln.text_split l
    suffices hw : Ln.whole l = true by rw [hw, decide_eq_true_iff] at ht; exact ht
    by_cases hne : Ln.split l = []
    · cases hw : Ln.whole l with
      | true => rfl
      | false =>
        rw [Ln.split, hw] at hne
        simp [Ln.cut] at hne
    · exact good_whole hg hne
theorem ws_no10 {l : List UInt8} (h : Ln.ws true l = true) : (10 : UInt8) ∉ l := fun hm => by
  rw [Ln.ws_eq, Bool.and_eq_true, List.all_eq_true] at h
  exact absurd (h.1 _ hm) (by decide)
theorem right_parse {x : It.Itm} (h : It.right x = true) : It.parse (It.print x) = some x := by
  rw [It.right, Bool.and_eq_true, decide_eq_true_iff, decide_eq_true_iff] at h
  exact h.2
theorem right_no10 {x : It.Itm} (h : It.right x = true) : (10 : UInt8) ∉ It.print x := by
  have hp := right_parse h
  rw [It.parse] at hp
  split at hp
  · rename_i hw; exact ws_no10 hw
  · cases hp
theorem items_right : ∀ {L : List It.Itm}, (∀ x ∈ L, It.right x = true) → items (L.map It.print) = L
  | [], _ => rfl
  | x :: L, h => by
    have ih := items_right (L := L) fun z hz => h z (by simp [hz])
    rw [items] at ih
    rw [items, List.map_cons, List.filterMap_cons, right_parse (h x (by simp))]
    simp only []
    rw [ih]
/-- Items that may be are parsed as they were. -/
theorem parse_print (L : List It.Itm) (h : ∀ x ∈ L, It.right x = true) : parse (print L) = (L, 0) := by
  have hs : Ln.split (print L) = L.map It.print := Ln.split_text _ fun x hx => by
    obtain ⟨y, hy, rfl⟩ := List.mem_map.1 hx
    exact right_no10 (h y hy)
  have hw : Ln.whole (print L) = true := Ln.whole_text _
  have hb : bad (Ln.whole (print L)) (Ln.split (print L)) = none := by
    refine bad_no fun j hj => ?_
    rw [good_iff hj, hw, Bool.true_or, Bool.and_true]
    have hm : (Ln.split (print L))[j] ∈ L.map It.print := by rw [← hs]; exact List.getElem_mem hj
    obtain ⟨y, hy, e⟩ := List.mem_map.1 hm
    rw [← e, right_parse (h y hy)]; rfl
  rw [parse_none hb, hs, items_right h]

/-- A text behind one that is parsed. -/
theorem good_left {wh : Bool} {a b : List (List UInt8)} {k : Nat} (hk : k < a.length) (h : good true a k = true) (hw : wh = true ∨ b ≠ []) : good wh (a ++ b) k = true := by
  rw [good_iff hk, Bool.and_eq_true] at h
  rw [good_iff (by simp; omega), List.getElem_append_left hk, h.1, Bool.true_and]
  rcases hw with rfl | hb
  · rfl
  · have : 0 < b.length := List.length_pos_iff.2 hb
    rw [decide_eq_true (by simp; omega), Bool.or_true]
theorem good_right {wh : Bool} {a b : List (List UInt8)} {k : Nat} (hk : a.length ≤ k) : good wh (a ++ b) k = good wh b (k - a.length) := by
  rw [good, good, List.getElem?_append_right hk]
  congr 2
  rw [Bool.eq_iff_iff, decide_eq_true_iff, decide_eq_true_iff, List.length_append]
  omega
theorem split_ne (b : List UInt8) (h : Ln.whole b = false) : Ln.split b ≠ [] := by
  rw [Ln.split, h]
  simp [Ln.cut]
theorem whole_of {a : List UInt8} (h : (parse a).2 = 0) : Ln.whole a = true := by
  cases hb : bad (Ln.whole a) (Ln.split a) with
  | some k => rw [parse_some hb] at h; simp at h
  | none =>
    cases hw : Ln.whole a with
    | true => rfl
    | false => rw [← hw]; exact good_whole (bad_none hb) (split_ne a hw)
theorem parse_append (a b : List UInt8) (h : (parse a).2 = 0) :
    parse (a ++ b) = if (parse b).2 = 0 then ((parse a).1 ++ (parse b).1, 0) else ([], (parse a).1.length + (parse b).2) := by
  have hw := whole_of h
  obtain ⟨hs, hwb⟩ := Ln.split_append a b hw
  cases hb : bad (Ln.whole a) (Ln.split a) with
  | some k => rw [parse_some hb] at h; simp at h
  | none =>
    have ga := bad_none hb
    rw [hw] at ga
    have hla : (items (Ln.split a)).length = (Ln.split a).length := by
      have := items_len (wh := true) (L := Ln.split a) (k := (Ln.split a).length) ga
      rwa [List.take_of_length_le (Nat.le_refl _)] at this
    have hor : Ln.whole b = true ∨ Ln.split b ≠ [] := by
      cases hwb' : Ln.whole b with
      | true => exact .inl rfl
      | false => exact .inr (split_ne b hwb')
    rw [parse_none hb]
    cases hb2 : bad (Ln.whole b) (Ln.split b) with
    | some k =>
      obtain ⟨h1, h2, h3⟩ := bad_some hb2
      have : bad (Ln.whole (a ++ b)) (Ln.split (a ++ b)) = some ((Ln.split a).length + k) := by
        rw [hs, hwb]
        refine bad_at (by simp; omega) (fun j hj => ?_) ?_
        · by_cases hja : j < (Ln.split a).length
          · exact good_left hja (ga j hja) hor
          · rw [good_right (by omega)]; exact h2 _ (by omega)
        · rw [good_right (by omega), Nat.add_sub_cancel_left]; exact h3
      rw [parse_some this, parse_some hb2, if_neg (by simp), hla]
      rfl
    | none =>
      have g2 := bad_none hb2
      have : bad (Ln.whole (a ++ b)) (Ln.split (a ++ b)) = none := by
        rw [hs, hwb]
        refine bad_no fun j hj => ?_
        by_cases hja : j < (Ln.split a).length
        · exact good_left hja (ga j hja) hor
        · rw [good_right (by omega)]; exact g2 _ (by simp at hj; omega)
      rw [parse_none this, parse_none hb2, if_pos rfl, hs, items_append]

theorem mem_flat : ∀ (D : List (List UInt8)) (r x : List UInt8), x ∈ D ++ [r] → x.length ≤ ((D.map (· ++ [10])).flatten ++ r).length
  | [], r, x, h => by simp at h; subst h; simp
  | d :: D, r, x, h => by
    rcases List.mem_cons.1 (by simpa using h : x ∈ d :: (D ++ [r])) with rfl | h2
    · simp <;> omega
    · have := mem_flat D r x h2
      simp only [List.map_cons, List.flatten_cons, List.length_append] at this ⊢; omega
/-- No line is longer than the text, nor are there more of them. -/
theorem split_le (l : List UInt8) : (∀ x ∈ Ln.split l, x.length ≤ l.length) ∧ (Ln.split l).length ≤ l.length + 1 := by
  have hj := Ln.st_join 10 l
  have hl := Ln.st_len 10 l
  have hm := mem_flat (Ln.st 10 l).1 (Ln.st 10 l).2
  rw [hj] at hm
  rw [Ln.split]
  split
  · exact ⟨fun x hx => hm x (by simp [hx]), by omega⟩
  · exact ⟨fun x hx => hm x hx, by simp [Ln.cut]; omega⟩
theorem text_le (B : Nat) : ∀ (L : List (List UInt8)), (∀ x ∈ L, x.length ≤ B) → (Ln.text L).length ≤ L.length * (B + 1)
  | [], _ => by simp [Ln.text]
  | x :: L, h => by
    have ih := text_le B L fun y hy => h y (by simp [hy])
    have hx := h x (by simp)
    have : (Ln.text (x :: L)).length = x.length + 1 + (Ln.text L).length := by simp [Ln.text]; omega
    rw [this, List.length_cons, Nat.succ_mul]
    omega
end Go.Proofs.YtgagandecjljoaaDoor.Sh

