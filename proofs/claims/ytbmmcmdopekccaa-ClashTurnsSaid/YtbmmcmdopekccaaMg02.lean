/-
  Texts of this claim, merged: PlOk, PlLink, PlTip, PlItems, PlBack, PlAgain, PlFacts, PlWork, PlRank.
-/
import Derived.Test.YtbmmcmdopekccaaMg01
/-
  Plain mathematics of layer 5: which lists of lines may be, told without an order of telling. No program is named here.
-/
namespace Go.Proofs.Ytbmmcmdopekccaa.Pl
open Go It

theorem nodup_snoc {α : Type} {l : List α} {a : α} : (l ++ [a]).Nodup ↔ l.Nodup ∧ a ∉ l := by
  rw [List.nodup_append]
  constructor
  · intro ⟨h1, _, h3⟩
    exact ⟨h1, fun h => h3 a h a (by simp) rfl⟩
  · intro ⟨h1, h2⟩
    exact ⟨h1, by simp, fun b hb c hc e => h2 (by simp at hc; rw [← hc, ← e]; exact hb)⟩
/-- The ends that a line names. -/
def tips (x : Itm) : List Tp := if x.k = 7 then [x.e0, x.e1] else if x.k = 8 then [x.e0] else if x.k = 9 then [x.e0] else []
structure Ok (L : List Itm) : Prop where
  right : ∀ x ∈ L, It.right x = true
  nums : ((L.filter fun x => isNum x.k).map (·.k)).Nodup
  names : (nmS L).Nodup
  few : (secs L).length ≤ 24
  gnames : (nmG L).Nodup
  gends : ((sigs L).map (·.e0)).Nodup
  gfew : (sigs L).length ≤ 12
  ments : (ments L).Nodup
  told : ∀ M x N, L = M ++ x :: N → ∀ t ∈ tips x, t.n ∈ nmS M ∧ (endAt (ptOf M t.n) t.c).isSome = true

theorem right_kind {x : Itm} (h : It.right x = true) : 1 ≤ x.k ∧ x.k ≤ 9 := by
  have hp := Sh.right_parse h
  unfold It.parse at hp
  split at hp
  · cases hW : Ln.words (print x) with
    | nil => rw [hW] at hp; cases hp
    | cons a t =>
      rw [hW] at hp
      have hp' : parseK (kind a) t = some x := hp
      have h1 : x.k = kind a := by
        unfold parseK at hp'
        split at hp'
        · split at hp'
          · split at hp'
            · cases hp'; rfl
            · cases hp'
          · cases hp'
        · split at hp'
          · split at hp'
            · split at hp'
              · cases hp'; rfl
              · cases hp'
            · cases hp'
          · split at hp'
            · rename_i hk
              split at hp'
              · split at hp'
                · cases hp'; rfl
                · cases hp'
              · cases hp'
            · split at hp'
              · split at hp'
                · split at hp'
                  · cases hp'; rfl
                  · cases hp'
                · cases hp'
              · split at hp'
                · split at hp'
                  · split at hp'
                    · cases hp'; rfl
                    · cases hp'
                  · cases hp'
                · cases hp'
      have h2 := parseK_kind _ _ _ hp'
      rcases kind_cases a with ⟨h3, _⟩ | ⟨h3, h4, _⟩
      · exact absurd h3 h2
      · omega
  · cases hp
theorem kinds {x : Itm} (h : It.right x = true) : (isNum x.k = true ∧ isS x = false ∧ isG x = false ∧ x.k ≠ 7 ∧ x.k ≠ 8) ∨ (isNum x.k = false ∧ isS x = true ∧ isG x = false ∧ x.k ≠ 7 ∧ x.k ≠ 8) ∨ (isNum x.k = false ∧ isS x = false ∧ isG x = false ∧ x.k = 7) ∨
    (isNum x.k = false ∧ isS x = false ∧ isG x = false ∧ x.k = 8) ∨ (isNum x.k = false ∧ isS x = false ∧ isG x = true ∧ x.k = 9) := by
  obtain ⟨h1, h2⟩ := right_kind h
  unfold isS isG isNum isLen
  have : x.k = 1 ∨ x.k = 2 ∨ x.k = 3 ∨ x.k = 4 ∨ x.k = 5 ∨ x.k = 6 ∨ x.k = 7 ∨ x.k = 8 ∨ x.k = 9 := by omega
  rcases this with h | h | h | h | h | h | h | h | h <;> rw [h] <;> decide
theorem tipErr_zero {M : List Itm} {used : List Tp} {t : Tp} : tipErr M used t = 0 ↔ t.n ∈ nmS M ∧ (endAt (ptOf M t.n) t.c).isSome = true ∧ t ∉ used := by
  unfold tipErr
  by_cases h1 : t.n ∈ nmS M
  · rw [if_neg (fun h => h h1)]
    cases h2 : endAt (ptOf M t.n) t.c with
    | none => simp
    | some e =>
      rw [if_neg (by simp)]
      by_cases h3 : t ∈ used <;> simp [h1, h3]
  · rw [if_pos h1]; simp [h1]
theorem secs_snoc (M : List Itm) (x : Itm) : secs (M ++ [x]) = secs M ++ (if isS x then [x] else []) := by simp [secs, List.filter_append, List.filter_cons]
theorem sigs_snoc (M : List Itm) (x : Itm) : sigs (M ++ [x]) = sigs M ++ (if isG x then [x] else []) := by simp [sigs, List.filter_append, List.filter_cons]
theorem ments_snoc (M : List Itm) (x : Itm) : ments (M ++ [x]) = ments M ++ ment x := by simp [ments]
theorem nums_snoc (M : List Itm) (x : Itm) : ((M ++ [x]).filter fun x => isNum x.k) = (M.filter fun x => isNum x.k) ++ (if isNum x.k then [x] else []) := by simp [List.filter_append, List.filter_cons]
theorem any_nums {M : List Itm} {k : Int} (hk : isNum k = true) : M.any (fun y => decide (y.k = k)) = true ↔ k ∈ (M.filter fun x => isNum x.k).map (·.k) := by
  rw [List.any_eq_true, List.mem_map]
  constructor
  · rintro ⟨y, hy, e⟩
    have e := of_decide_eq_true e
    exact ⟨y, List.mem_filter.2 ⟨hy, by rw [e]; exact hk⟩, e⟩
  · rintro ⟨y, hy, e⟩
    exact ⟨y, (List.mem_filter.1 hy).1, by simpa using e⟩
theorem sigAt_none {M : List Itm} {t : Tp} : (sigAt M t).isSome = false ↔ t ∉ (sigs M).map (·.e0) := by
  unfold sigAt
  rw [Option.isSome_map, Option.isSome_eq_false_iff, Option.isNone_iff_eq_none, List.find?_eq_none]
  constructor
  · intro h hm
    obtain ⟨y, hy, e⟩ := List.mem_map.1 hm
    exact absurd e (by simpa using h y hy)
  · intro h y hy
    have : y.e0 ≠ t := fun e => h (List.mem_map.2 ⟨y, hy, e⟩)
    simpa using this
theorem told_snoc {M : List Itm} {x : Itm} (h : ∀ A y N, M = A ++ y :: N → ∀ t ∈ tips y, t.n ∈ nmS A ∧ (endAt (ptOf A t.n) t.c).isSome = true) (hx : ∀ t ∈ tips x, t.n ∈ nmS M ∧ (endAt (ptOf M t.n) t.c).isSome = true) :
    ∀ A y N, M ++ [x] = A ++ y :: N → ∀ t ∈ tips y, t.n ∈ nmS A ∧ (endAt (ptOf A t.n) t.c).isSome = true := fun A y N e => by
  rcases List.eq_nil_or_concat N with rfl | ⟨N', z, rfl⟩
  · obtain ⟨h1, h2⟩ := List.append_inj' e rfl
    cases h2
    subst h1
    exact hx
  · have e' : M ++ [x] = (A ++ y :: N') ++ [z] := by rw [e]; simp
    obtain ⟨h1, _⟩ := List.append_inj' e' rfl
    exact h A y N' h1
/-- A line more. -/
theorem Ok.snoc {M : List Itm} {x : Itm} (h : Ok M) (he : lineErr M x = 0) : Ok (M ++ [x]) := by
  unfold lineErr at he
  cases hr : It.right x with
  | false => rw [hr, if_pos rfl] at he; cases he
  | true =>
    rw [hr, if_neg (by simp)] at he
    have hR : ∀ y ∈ M ++ [x], It.right y = true := fun y hy => by
      rcases List.mem_append.1 hy with hy | hy
      · exact h.right y hy
      · obtain rfl : y = x := by simpa using hy
        exact hr
    rcases kinds hr with ⟨k1, k2, k3, k4, k5⟩ | ⟨k1, k2, k3, k4, k5⟩ | ⟨k1, k2, k3, k4⟩ | ⟨k1, k2, k3, k4⟩ | ⟨k1, k2, k3, k4⟩
    · rw [if_pos k1] at he
      have hn : ¬ (M.any (fun y => decide (y.k = x.k)) = true) := fun hc => by rw [if_pos hc] at he; cases he
      rw [any_nums k1] at hn
      have k6 : x.k ≠ 9 := fun e => by simp [isG, e] at k3
      refine ⟨hR, ?_, ?_, ?_, ?_, ?_, ?_, ?_, told_snoc h.told ?_⟩
      · rw [nums_snoc, if_pos k1, List.map_append]; exact nodup_snoc.2 ⟨h.nums, hn⟩
      · simpa [nmS, secs_snoc, k2] using h.names
      · simpa [secs_snoc, k2] using h.few
      · simpa [nmG, sigs_snoc, k3] using h.gnames
      · simpa [sigs_snoc, k3] using h.gends
      · simpa [sigs_snoc, k3] using h.gfew
      · rw [ments_snoc, ment, if_neg k4, if_neg k5, List.append_nil]; exact h.ments
      · intro t ht; rw [tips, if_neg k4, if_neg k5, if_neg k6] at ht; cases ht
    · rw [if_neg (by simp [k1]), if_pos k2] at he
      have hn : x.name ∉ nmS M := fun hc => by rw [if_pos hc] at he; cases he
      rw [if_neg hn] at he
      have hl : (secs M).length ≠ 24 := fun hc => by rw [if_pos hc] at he; cases he
      have := h.few
      have k6 : x.k ≠ 9 := fun e => by simp [isG, e] at k3
      refine ⟨hR, ?_, ?_, ?_, ?_, ?_, ?_, ?_, told_snoc h.told ?_⟩
      · rw [nums_snoc, if_neg (by simp [k1]), List.append_nil]; exact h.nums
      · rw [nmS, secs_snoc, if_pos k2, List.map_append]; exact nodup_snoc.2 ⟨h.names, hn⟩
      · rw [secs_snoc, if_pos k2, List.length_append, List.length_singleton]; omega
      · simpa [nmG, sigs_snoc, k3] using h.gnames
      · simpa [sigs_snoc, k3] using h.gends
      · simpa [sigs_snoc, k3] using h.gfew
      · rw [ments_snoc, ment, if_neg k4, if_neg k5, List.append_nil]; exact h.ments
      · intro t ht; rw [tips, if_neg k4, if_neg k5, if_neg k6] at ht; cases ht
    · rw [if_neg (by simp [k1]), if_neg (by simp [k2]), if_pos k4] at he
      unfold joinErr at he
      have h0 : tipErr M (Pl.ments M) x.e0 = 0 := Classical.byContradiction fun hc => by rw [if_pos hc] at he; exact hc he
      rw [if_neg (fun hc => hc h0)] at he
      rw [tipErr_zero] at h0 he
      refine ⟨hR, ?_, ?_, ?_, ?_, ?_, ?_, ?_, told_snoc h.told ?_⟩
      · rw [nums_snoc, if_neg (by simp [k1]), List.append_nil]; exact h.nums
      · simpa [nmS, secs_snoc, k2] using h.names
      · simpa [secs_snoc, k2] using h.few
      · simpa [nmG, sigs_snoc, k3] using h.gnames
      · simpa [sigs_snoc, k3] using h.gends
      · simpa [sigs_snoc, k3] using h.gfew
      · rw [ments_snoc, ment, if_pos k4, show [x.e0, x.e1] = [x.e0] ++ [x.e1] from rfl, ← List.append_assoc]
        exact nodup_snoc.2 ⟨nodup_snoc.2 ⟨h.ments, h0.2.2⟩, he.2.2⟩
      · intro t ht
        rw [tips, if_pos k4] at ht
        rcases List.mem_cons.1 ht with rfl | ht
        · exact ⟨h0.1, h0.2.1⟩
        · obtain rfl : t = x.e1 := by simpa using ht
          exact ⟨he.1, he.2.1⟩
    · have k7 : x.k ≠ 7 := by omega
      rw [if_neg (by simp [k1]), if_neg (by simp [k2]), if_neg k7, if_pos k4, tipErr_zero] at he
      refine ⟨hR, ?_, ?_, ?_, ?_, ?_, ?_, ?_, told_snoc h.told ?_⟩
      · rw [nums_snoc, if_neg (by simp [k1]), List.append_nil]; exact h.nums
      · simpa [nmS, secs_snoc, k2] using h.names
      · simpa [secs_snoc, k2] using h.few
      · simpa [nmG, sigs_snoc, k3] using h.gnames
      · simpa [sigs_snoc, k3] using h.gends
      · simpa [sigs_snoc, k3] using h.gfew
      · rw [ments_snoc, ment, if_neg k7, if_pos k4]; exact nodup_snoc.2 ⟨h.ments, he.2.2⟩
      · intro t ht
        rw [tips, if_neg k7, if_pos k4] at ht
        obtain rfl : t = x.e0 := by simpa using ht
        exact ⟨he.1, he.2.1⟩
    · have k7 : x.k ≠ 7 := by omega
      have k8 : x.k ≠ 8 := by omega
      rw [if_neg (by simp [k1]), if_neg (by simp [k2]), if_neg k7, if_neg k8] at he
      unfold sigErr at he
      have hn : x.name ∉ nmG M := fun hc => by rw [if_pos hc] at he; cases he
      rw [if_neg hn] at he
      have h0 : tipErr M [] x.e0 = 0 := Classical.byContradiction fun hc => by rw [if_pos hc] at he; exact hc he
      rw [if_neg (fun hc => hc h0)] at he
      rw [tipErr_zero] at h0
      have hs : (sigAt M x.e0).isSome = false := by
        cases hc : (sigAt M x.e0).isSome with
        | false => rfl
        | true => rw [hc, if_pos rfl] at he; cases he
      rw [hs, if_neg (by simp)] at he
      rw [sigAt_none] at hs
      have hl : (sigs M).length ≠ 12 := fun hc => by rw [if_pos hc] at he; cases he
      have := h.gfew
      refine ⟨hR, ?_, ?_, ?_, ?_, ?_, ?_, ?_, told_snoc h.told ?_⟩
      · rw [nums_snoc, if_neg (by simp [k1]), List.append_nil]; exact h.nums
      · simpa [nmS, secs_snoc, k2] using h.names
      · simpa [secs_snoc, k2] using h.few
      · rw [nmG, sigs_snoc, if_pos k3, List.map_append]; exact nodup_snoc.2 ⟨h.gnames, hn⟩
      · rw [sigs_snoc, if_pos k3, List.map_append]; exact nodup_snoc.2 ⟨h.gends, hs⟩
      · rw [sigs_snoc, if_pos k3, List.length_append, List.length_singleton]; omega
      · rw [ments_snoc, ment, if_neg k7, if_neg k8, List.append_nil]; exact h.ments
      · intro t ht
        rw [tips, if_neg k7, if_neg k8, if_pos k4] at ht
        obtain rfl : t = x.e0 := by simpa using ht
        exact ⟨h0.1, h0.2.1⟩
/-- What may be may be without its last line, which may come there. -/
theorem Ok.init {M : List Itm} {x : Itm} (h : Ok (M ++ [x])) : Ok M ∧ lineErr M x = 0 := by
  have hr : It.right x = true := h.right x (by simp)
  have hM : Ok M := by
    refine ⟨fun y hy => h.right y (by simp [hy]), ?_, ?_, ?_, ?_, ?_, ?_, ?_, fun A y N e => ?_⟩
    · have := h.nums; rw [nums_snoc, List.map_append] at this; exact (List.nodup_append.1 this).1
    · have := h.names; rw [nmS, secs_snoc, List.map_append] at this; exact (List.nodup_append.1 this).1
    · have := h.few; rw [secs_snoc, List.length_append] at this; omega
    · have := h.gnames; rw [nmG, sigs_snoc, List.map_append] at this; exact (List.nodup_append.1 this).1
    · have := h.gends; rw [sigs_snoc, List.map_append] at this; exact (List.nodup_append.1 this).1
    · have := h.gfew; rw [sigs_snoc, List.length_append] at this; omega
    · have := h.ments; rw [ments_snoc] at this; exact (List.nodup_append.1 this).1
    · exact h.told A y (N ++ [x]) (by rw [e]; simp)
  refine ⟨hM, ?_⟩
  have told := h.told M x [] rfl
  unfold lineErr
  rw [hr, if_neg (by simp)]
  rcases kinds hr with ⟨k1, k2, k3, k4, k5⟩ | ⟨k1, k2, k3, k4, k5⟩ | ⟨k1, k2, k3, k4⟩ | ⟨k1, k2, k3, k4⟩ | ⟨k1, k2, k3, k4⟩
  · rw [if_pos k1]
    have hn := h.nums
    rw [nums_snoc, if_pos k1, List.map_append] at hn
    have := (nodup_snoc.1 hn).2
    rw [← any_nums k1] at this
    rw [if_neg this]
  · rw [if_neg (by simp [k1]), if_pos k2]
    have hn := h.names
    rw [nmS, secs_snoc, if_pos k2, List.map_append] at hn
    have hl := h.few
    rw [secs_snoc, if_pos k2, List.length_append, List.length_singleton] at hl
    rw [if_neg (show x.name ∉ nmS M from (nodup_snoc.1 hn).2), if_neg (by omega)]
  · rw [if_neg (by simp [k1]), if_neg (by simp [k2]), if_pos k4]
    have hm := h.ments
    rw [ments_snoc, ment, if_pos k4, show [x.e0, x.e1] = [x.e0] ++ [x.e1] from rfl, ← List.append_assoc] at hm
    have hm2 := nodup_snoc.1 hm
    rw [tips, if_pos k4] at told
    have t0 := told x.e0 (by simp)
    have t1 := told x.e1 (by simp)
    unfold joinErr
    rw [tipErr_zero.2 ⟨t0.1, t0.2, (nodup_snoc.1 hm2.1).2⟩, if_neg (by simp)]
    exact tipErr_zero.2 ⟨t1.1, t1.2, hm2.2⟩
  · have k7 : x.k ≠ 7 := by omega
    rw [if_neg (by simp [k1]), if_neg (by simp [k2]), if_neg k7, if_pos k4]
    have hm := h.ments
    rw [ments_snoc, ment, if_neg k7, if_pos k4] at hm
    rw [tips, if_neg k7, if_pos k4] at told
    have t0 := told x.e0 (by simp)
    exact tipErr_zero.2 ⟨t0.1, t0.2, (nodup_snoc.1 hm).2⟩
  · have k7 : x.k ≠ 7 := by omega
    have k8 : x.k ≠ 8 := by omega
    rw [if_neg (by simp [k1]), if_neg (by simp [k2]), if_neg k7, if_neg k8]
    have hn := h.gnames
    rw [nmG, sigs_snoc, if_pos k3, List.map_append] at hn
    have hs := h.gends
    rw [sigs_snoc, if_pos k3, List.map_append] at hs
    have hl := h.gfew
    rw [sigs_snoc, if_pos k3, List.length_append, List.length_singleton] at hl
    rw [tips, if_neg k7, if_neg k8, if_pos k4] at told
    have t0 := told x.e0 (by simp)
    have hs' : (sigAt M x.e0).isSome = false := sigAt_none.2 (nodup_snoc.1 hs).2
    unfold sigErr
    rw [if_neg (show x.name ∉ nmG M from (nodup_snoc.1 hn).2), tipErr_zero.2 ⟨t0.1, t0.2, by simp⟩, if_neg (by simp), hs', if_neg (by simp), if_neg (by omega)]
theorem Ok.nil : Ok [] := by
  refine ⟨by simp, by simp, by simp [nmS, secs], by simp [secs], by simp [nmG, sigs], by simp [sigs], by simp [sigs], by simp [Pl.ments], fun A y N e => by simp at e⟩

theorem firstE_none {f : Nat → Int} {n : Nat} : firstE f n = none ↔ ∀ i < n, f i = 0 := by
  unfold firstE
  rw [List.find?_range_eq_none]
  simp
theorem firstE_some {f : Nat → Int} {n i : Nat} : firstE f n = some i ↔ i < n ∧ f i ≠ 0 ∧ ∀ j < i, f j = 0 := by
  unfold firstE
  rw [List.find?_range_eq_some]
  constructor
  · rintro ⟨h1, h2, h3⟩
    exact ⟨by simpa using h2, by simpa using h1, fun j hj => by simpa using h3 j hj⟩
  · rintro ⟨h1, h2, h3⟩
    exact ⟨by simpa using h2, by simpa using h1, fun j hj => by simpa using h3 j hj⟩
theorem errAt_left {M N : List Itm} {i : Nat} (h : i < M.length) : errAt (M ++ N) i = errAt M i := by
  unfold errAt
  rw [List.getElem?_append_left h, List.take_append_of_le_length (by omega)]
theorem errAt_snoc (M : List Itm) (x : Itm) : errAt (M ++ [x]) M.length = lineErr M x := by
  unfold errAt
  rw [List.getElem?_append_right (Nat.le_refl _), Nat.sub_self, List.take_append_of_le_length (Nat.le_refl _), List.take_length]
  rfl
/-- Line by line, or at once. -/
theorem ok_iff (L : List Itm) : (∀ i < L.length, errAt L i = 0) ↔ Ok L := by
  have : ∀ n, ∀ L : List Itm, L.length = n → ((∀ i < L.length, errAt L i = 0) ↔ Ok L) := by
    intro n
    induction n with
    | zero => intro L hL; obtain rfl := List.eq_nil_of_length_eq_zero hL; exact ⟨fun _ => Ok.nil, fun _ i hi => absurd hi (by simp)⟩
    | succ n ih =>
      intro L hL
      rcases List.eq_nil_or_concat L with rfl | ⟨M, x, rfl⟩
      · cases hL
      · rw [List.concat_eq_append] at hL ⊢
        have hM : M.length = n := by simpa using hL
        constructor
        · intro h
          have h1 : Ok M := (ih M hM).1 fun i hi => by rw [← errAt_left (N := [x]) hi]; exact h i (by simp; omega)
          have h2 := h M.length (by simp)
          rw [errAt_snoc] at h2
          exact h1.snoc h2
        · intro h i hi
          obtain ⟨h1, h2⟩ := h.init
          by_cases hi' : i < M.length
          · rw [errAt_left hi']; exact (ih M hM).2 h1 i hi'
          · obtain rfl : i = M.length := by simp at hi; omega
            rw [errAt_snoc]; exact h2
  exact this _ L rfl
/-- Nothing is lacking. -/
def Shut (L : List Itm) : Prop := ∀ x ∈ L, lackErr L x = 0
theorem build_ok {L : List Itm} (h : Ok L) (h2 : Shut L) : build L = (fin L, 0, 0) := by
  unfold build
  rw [firstE_none.2 ((ok_iff L).2 h)]
  simp only
  rw [firstE_none.2 fun i hi => by unfold lackAt; rw [List.getElem?_eq_getElem hi]; exact h2 _ (List.getElem_mem hi)]
theorem build_zero {L : List Itm} (h : (build L).2.1 = 0) : Ok L ∧ Shut L ∧ build L = (fin L, 0, 0) := by
  unfold build at h
  cases h1 : firstE (errAt L) L.length with
  | some i =>
    rw [h1] at h
    exact absurd h (firstE_some.1 h1).2.1
  | none =>
    rw [h1] at h
    simp only at h
    have hok := (ok_iff L).1 (firstE_none.1 h1)
    cases h2 : firstE (lackAt L) L.length with
    | some i => rw [h2] at h; exact absurd h (firstE_some.1 h2).2.1
    | none =>
      have hs : Shut L := fun x hx => by
        obtain ⟨i, hi, rfl⟩ := List.getElem_of_mem hx
        have := firstE_none.1 h2 i hi
        unfold lackAt at this
        rwa [List.getElem?_eq_getElem hi] at this
      exact ⟨hok, hs, build_ok hok hs⟩
end Go.Proofs.Ytbmmcmdopekccaa.Pl
/-
  Plain mathematics of layer 5: whom an end is joined with, whatever the order of the lines; the same lines, the same station. No program is named here.
-/
namespace Go.Proofs.Ytbmmcmdopekccaa.Pl
open Go It

def swap (x : Itm) : Itm := { x with e0 := x.e1, e1 := x.e0 }
theorem link_none {t : Tp} {x : Itm} : link t x = none ↔ t ∉ ment x := by
  unfold link ment
  by_cases h7 : x.k = 7
  · rw [if_pos h7, if_pos h7]
    by_cases h0 : x.e0 = t
    · rw [if_pos h0]; simp [h0]
    · rw [if_neg h0]
      by_cases h1 : x.e1 = t
      · rw [if_pos h1]; simp [h1]
      · rw [if_neg h1]; simp [Ne.symm h0, Ne.symm h1]
  · rw [if_neg h7, if_neg h7]
    by_cases h8 : x.k = 8
    · rw [if_pos h8]
      by_cases h0 : x.e0 = t
      · rw [if_pos ⟨h8, h0⟩]; simp [h0]
      · rw [if_neg fun h => h0 h.2]; simp [Ne.symm h0]
    · rw [if_neg fun h => h8 h.1, if_neg h8]; simp
theorem partner_none {M : List Itm} {t : Tp} : partner M t = none ↔ t ∉ ments M := by
  unfold partner ments
  rw [List.findSome?_eq_none_iff]
  constructor
  · intro h hm
    obtain ⟨x, hx, ht⟩ := List.mem_flatMap.1 hm
    exact link_none.1 (h x hx) ht
  · intro h x hx
    exact link_none.2 fun ht => h (List.mem_flatMap.2 ⟨x, hx, ht⟩)
theorem partner_mem : ∀ {M : List Itm} (_ : (ments M).Nodup) {x : Itm} (_ : x ∈ M) {t : Tp} (_ : t ∈ ment x), partner M t = link t x
  | y :: M, hn, x, hx, t, ht => by
    have hn' : (ment y ++ ments M).Nodup := by simpa [ments] using hn
    have hd := List.nodup_append.1 hn'
    unfold partner
    rw [List.findSome?_cons]
    rcases List.mem_cons.1 hx with rfl | hx
    · cases hl : link t x with
      | none => exact absurd ht (link_none.1 hl)
      | some v => rfl
    · have hy : t ∉ ment y := fun h => hd.2.2 t h t (List.mem_flatMap.2 ⟨x, hx, ht⟩) rfl
      rw [link_none.2 hy]
      exact partner_mem hd.2.1 hx ht
theorem partner_some {M : List Itm} {t : Tp} {v : Option Tp} (h : partner M t = some v) : ∃ x ∈ M, link t x = some v ∧ t ∈ ment x := by
  obtain ⟨x, hx, hl⟩ := List.exists_of_findSome?_eq_some h
  refine ⟨x, hx, hl, Classical.byContradiction fun hc => ?_⟩
  rw [link_none.2 hc] at hl; cases hl
theorem ment_nodup {M : List Itm} (hn : (ments M).Nodup) {x : Itm} (hx : x ∈ M) : (ment x).Nodup := by
  induction M with
  | nil => cases hx
  | cons y M ih =>
    have hn' : (ment y ++ ments M).Nodup := by simpa [ments] using hn
    rcases List.mem_cons.1 hx with rfl | hx
    · exact (List.nodup_append.1 hn').1
    · exact ih (List.nodup_append.1 hn').2.1 hx
theorem link_joined {t u : Tp} {x : Itm} (h : link t x = some (some u)) : x.k = 7 ∧ ((x.e0 = t ∧ x.e1 = u) ∨ (x.e1 = t ∧ x.e0 = u)) := by
  unfold link at h
  split at h
  · rename_i h7
    refine ⟨h7, ?_⟩
    split at h
    · rename_i h0; cases h; exact .inl ⟨h0, rfl⟩
    · split at h
      · rename_i h1; cases h; exact .inr ⟨h1, rfl⟩
      · cases h
  · split at h <;> cases h
theorem ment7 {x : Itm} (h : x.k = 7) : ment x = [x.e0, x.e1] := by rw [ment, if_pos h]
theorem ends_ne {M : List Itm} (hn : (ments M).Nodup) {x : Itm} (hx : x ∈ M) (h7 : x.k = 7) : x.e0 ≠ x.e1 := by
  have := ment_nodup hn hx
  rw [ment7 h7] at this
  simp at this
  exact this
/-- One is joined with whom one is joined with. -/
theorem partner_sym {M : List Itm} (hn : (ments M).Nodup) {t u : Tp} (h : partner M t = some (some u)) : partner M u = some (some t) ∧ t ≠ u := by
  obtain ⟨x, hx, hl, _⟩ := partner_some h
  obtain ⟨h7, ho⟩ := link_joined hl
  have hne := ends_ne hn hx h7
  rcases ho with ⟨rfl, rfl⟩ | ⟨rfl, rfl⟩
  · refine ⟨?_, hne⟩
    rw [partner_mem hn hx (by rw [ment7 h7]; simp), link, if_pos h7, if_neg hne, if_pos rfl]
  · refine ⟨?_, hne.symm⟩
    rw [partner_mem hn hx (by rw [ment7 h7]; simp), link, if_pos h7, if_pos rfl]
theorem mem_secs {M : List Itm} {x : Itm} : x ∈ secs M ↔ x ∈ M ∧ isS x = true := List.mem_filter
theorem mem_sigs {M : List Itm} {x : Itm} : x ∈ sigs M ↔ x ∈ M ∧ isG x = true := List.mem_filter
theorem mem_nmS {M : List Itm} {nm : Nm} : nm ∈ nmS M ↔ ∃ x ∈ secs M, x.name = nm := List.mem_map
theorem uniq {α : Type} {f : α → Nm} : ∀ {l : List α} (_ : (l.map f).Nodup) {a b : α} (_ : a ∈ l) (_ : b ∈ l) (_ : f a = f b), a = b
  | c :: l, hn, a, b, ha, hb, e => by
    rw [List.map_cons, List.nodup_cons] at hn
    rcases List.mem_cons.1 ha with rfl | ha'
    · rcases List.mem_cons.1 hb with rfl | hb'
      · rfl
      · exact absurd (e ▸ List.mem_map_of_mem hb') hn.1
    · rcases List.mem_cons.1 hb with rfl | hb'
      · exact absurd (e ▸ List.mem_map_of_mem ha') hn.1
      · exact uniq hn.2 ha' hb' e
theorem uniqT {α β : Type} {f : α → β} : ∀ {l : List α} (_ : (l.map f).Nodup) {a b : α} (_ : a ∈ l) (_ : b ∈ l) (_ : f a = f b), a = b
  | c :: l, hn, a, b, ha, hb, e => by
    rw [List.map_cons, List.nodup_cons] at hn
    rcases List.mem_cons.1 ha with rfl | ha'
    · rcases List.mem_cons.1 hb with rfl | hb'
      · rfl
      · exact absurd (e ▸ List.mem_map_of_mem hb') hn.1
    · rcases List.mem_cons.1 hb with rfl | hb'
      · exact absurd (e ▸ List.mem_map_of_mem ha') hn.1
      · exact uniqT hn.2 ha' hb' e
theorem find_uniq {α β : Type} [DecidableEq β] {f : α → β} {l : List α} (hn : (l.map f).Nodup) {a : α} (ha : a ∈ l) : (l.find? fun x => decide (f x = f a)) = some a := by
  cases h : l.find? fun x => decide (f x = f a) with
  | none => exact absurd (decide_eq_true (rfl : f a = f a)) (List.find?_eq_none.1 h a ha)
  | some b =>
    have h1 := List.find?_some h
    have h2 := List.mem_of_find?_eq_some h
    rw [uniqT hn h2 ha (of_decide_eq_true h1)]
theorem ptOf_eq {M : List Itm} (hn : (nmS M).Nodup) {x : Itm} (hx : x ∈ secs M) : ptOf M x.name = isPt x := by
  unfold ptOf
  rw [find_uniq (f := Itm.name) hn hx]; rfl
theorem sigAt_eq {M : List Itm} (hn : ((sigs M).map (·.e0)).Nodup) {x : Itm} (hx : x ∈ sigs M) : sigAt M x.e0 = some x.name := by
  unfold sigAt
  rw [find_uniq (f := Itm.e0) hn hx]; rfl
theorem sigAt_some {M : List Itm} {t : Tp} {g : Nm} (h : sigAt M t = some g) : ∃ x ∈ sigs M, x.e0 = t ∧ x.name = g := by
  unfold sigAt at h
  rw [Option.map_eq_some_iff] at h
  obtain ⟨x, hx, hg⟩ := h
  exact ⟨x, List.mem_of_find?_eq_some hx, by simpa using List.find?_some hx, hg⟩
end Go.Proofs.Ytbmmcmdopekccaa.Pl
/-
  Plain mathematics of layer 5: what items that may be look like; which joins and stops may be. No program is named here.
-/
namespace Go.Proofs.Ytbmmcmdopekccaa.Pl
open Go It

def TipG (t : Tp) : Prop := Fig.nameB t.n = true ∧ It.letter t.c = true
theorem tipG_of {l : List UInt8} (h : tipOk l = true) : TipG (It.tip l) := by
  rw [It.tip, if_pos h]
  simp only [tipOk, Bool.and_eq_true, decide_eq_true_eq] at h
  obtain ⟨⟨⟨h3, _⟩, hl⟩, hn⟩ := h
  refine ⟨hn, ?_⟩
  rw [List.getElem?_eq_getElem (by omega)] at hl ⊢
  exact hl
theorem right_parseK {x : Itm} (h : It.right x = true) : ∃ T, parseK x.k T = some x := by
  have hp := Sh.right_parse h
  unfold It.parse at hp
  split at hp
  · cases hW : Ln.words (print x) with
    | nil => rw [hW] at hp; cases hp
    | cons a t =>
      rw [hW] at hp
      have hp' : parseK (kind a) t = some x := hp
      suffices h1 : x.k = kind a by exact ⟨t, by rw [h1]; exact hp'⟩
      have : ∀ k : Int, parseK k t = some x → x.k = k := by
        intro k hk
        unfold parseK at hk
        repeat' split at hk
        all_goals first | (cases hk; rfl) | cases hk
      exact this _ hp'
  · cases hp
theorem right_join {x : Itm} (h : It.right x = true) (h7 : x.k = 7) : x = ⟨7, [], 0, x.e0, x.e1⟩ ∧ TipG x.e0 ∧ TipG x.e1 := by
  obtain ⟨T, hT⟩ := right_parseK h
  rw [h7] at hT
  unfold parseK at hT
  rw [if_neg (by decide), if_neg (by decide), if_pos rfl] at hT
  split at hT
  · split at hT
    · rename_i hc
      rw [Bool.and_eq_true] at hc
      have e := Option.some.inj hT
      rw [← e]
      exact ⟨rfl, tipG_of hc.1, tipG_of hc.2⟩
    · cases hT
  · cases hT
theorem right_stop {x : Itm} (h : It.right x = true) (h8 : x.k = 8) : x = ⟨8, [], 0, x.e0, Tp.zero⟩ ∧ TipG x.e0 := by
  obtain ⟨T, hT⟩ := right_parseK h
  rw [h8] at hT
  unfold parseK at hT
  rw [if_neg (by decide), if_neg (by decide), if_neg (by decide), if_pos rfl] at hT
  split at hT
  · split at hT
    · rename_i hc
      have e := Option.some.inj hT
      rw [← e]
      exact ⟨rfl, tipG_of hc⟩
    · cases hT
  · cases hT
theorem right_sig {x : Itm} (h : It.right x = true) (h9 : x.k = 9) : x = ⟨9, x.name, 0, x.e0, Tp.zero⟩ ∧ Fig.nameB x.name = true ∧ TipG x.e0 := by
  obtain ⟨T, hT⟩ := right_parseK h
  rw [h9] at hT
  unfold parseK at hT
  rw [if_neg (by decide), if_neg (by decide), if_neg (by decide), if_neg (by decide), if_pos rfl] at hT
  split at hT
  · split at hT
    · rename_i hc
      rw [Bool.and_eq_true] at hc
      have e := Option.some.inj hT
      rw [← e]
      exact ⟨rfl, hc.1, tipG_of hc.2⟩
    · cases hT
  · cases hT
end Go.Proofs.Ytbmmcmdopekccaa.Pl
/-
  Plain mathematics of layer 5: a station's lines build it again, in whatever order, from whichever end joins are told. No program is named here.
-/
namespace Go.Proofs.Ytbmmcmdopekccaa.Pl
open Go It

theorem letter_inj {pt : Bool} {e f : Nat} (he : e < nEnds pt) (hf : f < nEnds pt) (h : letter pt e = letter pt f) : e = f := by
  cases pt
  · have : e = 0 ∨ e = 1 := by simp [nEnds] at he; omega
    have : f = 0 ∨ f = 1 := by simp [nEnds] at hf; omega
    rcases ‹e = 0 ∨ e = 1› with rfl | rfl <;> rcases ‹f = 0 ∨ f = 1› with rfl | rfl <;> first | rfl | exact absurd h (by decide)
  · have : e = 0 ∨ e = 1 ∨ e = 2 := by simp [nEnds] at he; omega
    have : f = 0 ∨ f = 1 ∨ f = 2 := by simp [nEnds] at hf; omega
    rcases ‹e = 0 ∨ e = 1 ∨ e = 2› with rfl | rfl | rfl <;> rcases ‹f = 0 ∨ f = 1 ∨ f = 2› with rfl | rfl | rfl <;> first | rfl | exact absurd h (by decide)
theorem endAt_letter {pt : Bool} {e : Nat} (he : e < nEnds pt) : endAt pt (letter pt e) = some e := by
  cases pt
  · have : e = 0 ∨ e = 1 := by simp [nEnds] at he; omega
    rcases this with rfl | rfl <;> decide
  · have : e = 0 ∨ e = 1 ∨ e = 2 := by simp [nEnds] at he; omega
    rcases this with rfl | rfl | rfl <;> decide
theorem letter_endAt {pt : Bool} {c : UInt8} {e : Nat} (h : endAt pt c = some e) : letter pt e = c ∧ e < nEnds pt := by
  unfold endAt at h
  split at h
  · rename_i h0; cases h; exact ⟨h0, by cases pt <;> decide⟩
  · split at h
    · rename_i h1; cases h; exact ⟨h1, by cases pt <;> decide⟩
    · split at h
      · rename_i h2; cases h; exact ⟨h2.2, by rw [h2.1]; decide⟩
      · cases h

/-! ### What an end is, in lines that may be -/
theorem told_all {L : List Itm} (hL : Ok L) {x : Itm} (hx : x ∈ L) {t : Tp} (ht : t ∈ tips x) : ∃ y ∈ secs L, ∃ e, e < nEnds (isPt y) ∧ t = tip y e := by
  obtain ⟨M, N, rfl⟩ := List.append_of_mem hx
  obtain ⟨h1, h2⟩ := hL.told M x N rfl t ht
  obtain ⟨y, hy, hn⟩ := mem_nmS.1 h1
  have hsub : secs (M ++ x :: N) = secs M ++ secs (x :: N) := by simp [secs, List.filter_append]
  have hM : (nmS M).Nodup := by
    have := hL.names
    rw [nmS, hsub, List.map_append] at this
    exact (List.nodup_append.1 this).1
  rw [← hn, ptOf_eq hM hy] at h2
  obtain ⟨e, he⟩ := Option.isSome_iff_exists.1 h2
  obtain ⟨h3, h4⟩ := letter_endAt he
  exact ⟨y, by rw [hsub]; exact List.mem_append_left _ hy, e, h4, by cases t; simp at hn h3; simp [tip, hn, h3]⟩
theorem ment_tips {x : Itm} {t : Tp} (h : t ∈ ment x) : t ∈ tips x := by
  unfold ment at h
  unfold tips
  split at h
  · rename_i h7; rw [if_pos h7]; exact h
  · rename_i h7
    split at h
    · rename_i h8; rw [if_neg h7, if_pos h8]; exact h
    · cases h
theorem ments_told {L : List Itm} (hL : Ok L) {t : Tp} (ht : t ∈ ments L) : ∃ y ∈ secs L, ∃ e, e < nEnds (isPt y) ∧ t = tip y e := by
  obtain ⟨x, hx, h⟩ := List.mem_flatMap.1 ht
  exact told_all hL hx (ment_tips h)
theorem shut_sec {L : List Itm} (hS : Shut L) {x : Itm} (hx : x ∈ secs L) {e : Nat} (he : e < nEnds (isPt x)) : partner L (tip x e) ≠ none := fun hc => by
  have := hS x (mem_secs.1 hx).1
  unfold lackErr at this
  rw [if_pos (mem_secs.1 hx).2, if_pos] at this
  · cases this
  · rw [List.any_eq_true]
    exact ⟨e, List.mem_range.2 he, by simpa using hc⟩
theorem tip_at {L : List Itm} (hL : Ok L) {x : Itm} (hx : x ∈ secs L) {e : Nat} (he : e < nEnds (isPt x)) : endAt (ptOf L (tip x e).n) (tip x e).c = some e := by
  show endAt (ptOf L x.name) (letter (isPt x) e) = some e
  rw [ptOf_eq hL.names hx]
  exact endAt_letter he

/-! ### Sections and signals in order -/
def SS (L : List Itm) : List Itm := isort Itm.name (secs L)
def GG (L : List Itm) : List Itm := isort Itm.name (sigs L)
theorem SS_rise {L : List Itm} (hL : Ok L) : Rise Itm.name (SS L) := isort_rise _ _ hL.names
theorem GG_rise {L : List Itm} (hL : Ok L) : Rise Itm.name (GG L) := isort_rise _ _ hL.gnames
theorem SS_mem {L : List Itm} {x : Itm} : x ∈ SS L ↔ x ∈ secs L := isort_mem _
theorem GG_mem {L : List Itm} {x : Itm} : x ∈ GG L ↔ x ∈ sigs L := isort_mem _
theorem SS_perm (L : List Itm) : (SS L).Perm (secs L) := isort_perm _ _
theorem GG_perm (L : List Itm) : (GG L).Perm (sigs L) := isort_perm _ _
def plS (L : List Itm) (x : Itm) : Nat := (rank (nmS L) x.name).toNat
def plG (L : List Itm) (x : Itm) : Nat := (rank (nmG L) x.name).toNat
theorem SS_at {L : List Itm} (hL : Ok L) {x : Itm} (hx : x ∈ secs L) : (SS L)[plS L x]? = some x := by
  have := at_rank (SS_rise hL) (SS_mem.2 hx)
  rwa [rank_perm ((SS_perm L).map Itm.name)] at this
theorem GG_at {L : List Itm} (hL : Ok L) {x : Itm} (hx : x ∈ sigs L) : (GG L)[plG L x]? = some x := by
  have := at_rank (GG_rise hL) (GG_mem.2 hx)
  rwa [rank_perm ((GG_perm L).map Itm.name)] at this
theorem SS_pl {L : List Itm} (hL : Ok L) {x : Itm} {s : Nat} (h : (SS L)[s]? = some x) : x ∈ secs L ∧ rank (nmS L) x.name = s := by
  have hx := SS_mem.1 (List.mem_of_getElem? h)
  refine ⟨hx, ?_⟩
  rw [show nmS L = (secs L).map Itm.name from rfl, ← rank_perm ((SS_perm L).map Itm.name)]
  exact rank_at (rise_map (SS_rise hL)) s _ (by rw [List.getElem?_map, h]; rfl)
abbrev fS (L : List Itm) : Itm → Sec := secW (rank (nmS L)) (rank (nmG L)) L
theorem fin_secs (L : List Itm) : (fin L).secs = (SS L).map (fS L) := rfl
theorem fin_sigs (L : List Itm) : (fin L).sigs = (GG L).map (sigW (rank (nmS L)) L) := rfl
theorem get_fS {L : List Itm} {x : Itm} {e : Nat} (he : e < nEnds (isPt x)) : (fS L x).get e = enW (rank (nmS L)) (rank (nmG L)) L (tip x e) := by
  unfold Sec.get
  by_cases h0 : e = 0
  · rw [if_pos h0, h0]; rfl
  · rw [if_neg h0]
    by_cases h1 : e = 1
    · rw [if_pos h1, h1]; rfl
    · rw [if_neg h1]
      have hp : isPt x = true := by
        cases hp : isPt x with
        | true => rfl
        | false => rw [hp] at he; simp [nEnds] at he; omega
      have h2 : e = 2 := by rw [hp] at he; simp [nEnds] at he; omega
      rw [h2]
      show (if isPt x = true then enW _ _ L (tip x 2) else stop) = _
      rw [if_pos hp]
/-- The ends of a station's sections. -/
theorem mem_endsP {L : List Itm} {a : Nat × Nat} : a ∈ endsP (fin L) ↔ ∃ x, (SS L)[a.1]? = some x ∧ a.2 < nEnds (isPt x) := by
  obtain ⟨s, e⟩ := a
  unfold endsP
  simp only [List.mem_flatMap, List.mem_range, List.mem_map, fin_secs, List.getElem?_map, List.length_map]
  constructor
  · rintro ⟨s', hs, e', he, h⟩
    cases h
    rw [List.getElem?_eq_getElem hs] at he
    exact ⟨_, List.getElem?_eq_getElem hs, he⟩
  · rintro ⟨x, hx, he⟩
    have hs := (List.getElem?_eq_some_iff.1 hx).1
    refine ⟨s, hs, e, ?_, rfl⟩
    rw [hx]; exact he
theorem tipP_eq {L : List Itm} {s e : Nat} {x : Itm} (h : (SS L)[s]? = some x) : tipP (fin L) s e = tip x e := by
  unfold tipP
  rw [fin_secs, List.getElem?_map, h]; rfl
theorem enP_eq {L : List Itm} {s e : Nat} {x : Itm} (h : (SS L)[s]? = some x) (he : e < nEnds (isPt x)) : enP (fin L) (s, e) = enW (rank (nmS L)) (rank (nmG L)) L (tip x e) := by
  unfold enP
  rw [fin_secs, List.getElem?_map, h]
  exact get_fS he
/-- The end of a place. -/
abbrev ta (L : List Itm) (a : Nat × Nat) : Tp := tipP (fin L) a.1 a.2
theorem ta_told {L : List Itm} (hL : Ok L) {y : Itm} (hy : y ∈ secs L) {e : Nat} (he : e < nEnds (isPt y)) : (plS L y, e) ∈ endsP (fin L) ∧ ta L (plS L y, e) = tip y e :=
  ⟨mem_endsP.2 ⟨y, SS_at hL hy, he⟩, tipP_eq (SS_at hL hy)⟩
theorem ta_ments {L : List Itm} (hL : Ok L) {t : Tp} (ht : t ∈ ments L) : ∃ a ∈ endsP (fin L), ta L a = t := by
  obtain ⟨y, hy, e, he, rfl⟩ := ments_told hL ht
  exact ⟨_, ta_told hL hy he⟩
theorem ta_partner {L : List Itm} (hL : Ok L) (hS : Shut L) {a : Nat × Nat} (ha : a ∈ endsP (fin L)) : partner L (ta L a) ≠ none := by
  obtain ⟨x, hx, he⟩ := mem_endsP.1 ha
  rw [ta, tipP_eq hx]
  exact shut_sec hS (SS_pl hL hx).1 he
theorem partner_ments {L : List Itm} {t : Tp} (h : partner L t ≠ none) : t ∈ ments L := Classical.byContradiction fun hc => h (partner_none.2 hc)
theorem en_stop {L : List Itm} {a : Nat × Nat} (ha : a ∈ endsP (fin L)) (h : partner L (ta L a) = some none) : (enP (fin L) a).goes = -1 ∧ (enP (fin L) a).at_ = 0 := by
  obtain ⟨x, hx, he⟩ := mem_endsP.1 ha
  obtain ⟨s, e⟩ := a
  rw [ta, tipP_eq hx] at h
  rw [enP_eq hx he]
  simp [enW, h]
theorem en_join {L : List Itm} (hL : Ok L) {a b : Nat × Nat} (ha : a ∈ endsP (fin L)) (hb : b ∈ endsP (fin L)) (h : partner L (ta L a) = some (some (ta L b))) : (enP (fin L) a).goes = b.1 ∧ (enP (fin L) a).at_ = b.2 := by
  obtain ⟨x, hx, he⟩ := mem_endsP.1 ha
  obtain ⟨y, hy, hf⟩ := mem_endsP.1 hb
  obtain ⟨s, e⟩ := a
  obtain ⟨s', e'⟩ := b
  rw [ta, tipP_eq hx, ta, tipP_eq hy] at h
  rw [enP_eq hx he]
  obtain ⟨hy', r2⟩ := SS_pl hL hy
  simp only [enW, h]
  refine ⟨r2, ?_⟩
  rw [tip_at hL hy' hf]; rfl
end Go.Proofs.Ytbmmcmdopekccaa.Pl
/-
  Plain mathematics of layer 5: there and back. No program is named here.
-/
namespace Go.Proofs.Ytbmmcmdopekccaa.Pl
open Go It

section
variable {L : List Itm} (hL : Ok L) (hS : Shut L)
include hL hS
def JJ (L : List Itm) : List Itm := (endsP (fin L)).filterMap (joinP (fin L))
def BB (L : List Itm) : List Itm := (endsP (fin L)).filterMap (stopP (fin L))
end
end Go.Proofs.Ytbmmcmdopekccaa.Pl
/-
  Plain mathematics of layer 5: a station's lines, and these turned, build it again. No program is named here.
-/
namespace Go.Proofs.Ytbmmcmdopekccaa.Pl
open Go It

theorem num_facts {x : Itm} (h : isNum x.k = true) : isS x = false ∧ isG x = false ∧ x.k ≠ 7 ∧ x.k ≠ 8 ∧ x.k ≠ 9 := by
  unfold isNum at h
  have := of_decide_eq_true h
  unfold isS isG isLen
  exact ⟨decide_eq_false (by omega), decide_eq_false (by omega), by omega, by omega, by omega⟩
theorem sec_facts {x : Itm} (h : isS x = true) : isNum x.k = false ∧ isG x = false ∧ x.k ≠ 7 ∧ x.k ≠ 8 ∧ x.k ≠ 9 := by
  unfold isS isLen at h
  have := of_decide_eq_true h
  unfold isNum isG
  exact ⟨decide_eq_false (by omega), decide_eq_false (by omega), by omega, by omega, by omega⟩
theorem sig_facts {x : Itm} (h : isG x = true) : isNum x.k = false ∧ isS x = false ∧ x.k ≠ 7 ∧ x.k ≠ 8 ∧ x.k = 9 := by
  unfold isG at h
  have := of_decide_eq_true h
  unfold isNum isS isLen
  exact ⟨decide_eq_false (by omega), decide_eq_false (by omega), by omega, by omega, by omega⟩
theorem end_facts {x : Itm} (h : x.k = 7 ∨ x.k = 8) : isNum x.k = false ∧ isS x = false ∧ isG x = false := by
  unfold isNum isS isLen isG
  exact ⟨decide_eq_false (by omega), decide_eq_false (by omega), decide_eq_false (by omega)⟩
/-! ### A station's own lines -/
def CC (L : List Itm) : List Itm := JJ L ++ BB L ++ GG L
/-! ### Turned -/
end Go.Proofs.Ytbmmcmdopekccaa.Pl
/-
  Plain mathematics of layer 5: what is true of every station that is built; what is found in it; what is told of a text stays. No program is named here.
-/
namespace Go.Proofs.Ytbmmcmdopekccaa.Pl
open Go It

section
variable {L : List Itm} (hL : Ok L) (hS : Shut L)
include hL
theorem secs_at {i : Nat} {s : Sec} (h : (fin L).secs[i]? = some s) : ∃ x, (SS L)[i]? = some x ∧ x ∈ secs L ∧ plS L x = i ∧ rank (nmS L) x.name = i ∧ s = fS L x := by
  rw [fin_secs, List.getElem?_map, Option.map_eq_some_iff] at h
  obtain ⟨x, hx, rfl⟩ := h
  obtain ⟨h1, h2⟩ := SS_pl hL hx
  exact ⟨x, hx, h1, by unfold plS; omega, h2, rfl⟩
theorem secs_pl {x : Itm} (hx : x ∈ secs L) : (fin L).secs[plS L x]? = some (fS L x) := by
  rw [fin_secs, List.getElem?_map, SS_at hL hx]; rfl
theorem sigs_at {i : Nat} {g : Sig} (h : (fin L).sigs[i]? = some g) : ∃ x, (GG L)[i]? = some x ∧ x ∈ sigs L ∧ plG L x = i ∧ rank (nmG L) x.name = i ∧ g = sigW (rank (nmS L)) L x := by
  rw [fin_sigs, List.getElem?_map, Option.map_eq_some_iff] at h
  obtain ⟨x, hx, rfl⟩ := h
  have hx' := GG_mem.1 (List.mem_of_getElem? hx)
  have hr : rank (nmG L) x.name = i := by
    rw [show nmG L = (sigs L).map Itm.name from rfl, ← rank_perm ((GG_perm L).map Itm.name)]
    exact rank_at (rise_map (GG_rise hL)) i _ (by rw [List.getElem?_map, hx]; rfl)
  exact ⟨x, hx, hx', by unfold plG; omega, hr, rfl⟩
theorem sigs_pl {x : Itm} (hx : x ∈ sigs L) : (fin L).sigs[plG L x]? = some (sigW (rank (nmS L)) L x) := by
  rw [fin_sigs, List.getElem?_map, GG_at hL hx]; rfl
omit hL in
theorem secs_len : (fin L).secs.length = (secs L).length := by rw [fin_secs, List.length_map]; exact isort_len _ _
omit hL in
theorem sigs_len : (fin L).sigs.length = (sigs L).length := by rw [fin_sigs, List.length_map]; exact isort_len _ _
theorem plain_end {i : Nat} {s : Sec} (h : (fin L).secs[i]? = some s) (hp : s.pt = false) : s.e2 = stop := by
  obtain ⟨x, _, _, _, _, rfl⟩ := secs_at hL h
  show (if isPt x then _ else stop) = stop
  have : isPt x = false := hp
  rw [this]; rfl
include hS
/-- An end of a station's section: no end at all; or stopped; or joined, there and back. -/
theorem end_cases {i e : Nat} {s : Sec} (h : (fin L).secs[i]? = some s) (he : e < 3) :
    s.get e = stop ∨
    (∃ x, x ∈ secs L ∧ e < nEnds (isPt x) ∧ plS L x = i ∧ s = fS L x ∧ partner L (tip x e) = some none ∧ (s.get e).goes = -1 ∧ (s.get e).at_ = 0 ∧ (s.get e).sig = -1) ∨
    (∃ (x : Itm) (j f : Nat) (t : Sec), x ∈ secs L ∧ e < nEnds (isPt x) ∧ plS L x = i ∧ s = fS L x ∧ (fin L).secs[j]? = some t ∧ f < 3 ∧ (s.get e).goes = (j : Int) ∧ (s.get e).at_ = (f : Int) ∧ (t.get f).goes = (i : Int) ∧ (t.get f).at_ = (e : Int) ∧
      ((s.get e).sig = -1 ∨ ∃ (k : Nat) (g : Sig), (fin L).sigs[k]? = some g ∧ (s.get e).sig = (k : Int) ∧ g.sec = (i : Int) ∧ g.en = (e : Int))) := by
  obtain ⟨x, hx, hxs, hpl, hrk, rfl⟩ := secs_at hL h
  by_cases hen : e < nEnds (isPt x)
  · right
    have ha : (i, e) ∈ endsP (fin L) := mem_endsP.2 ⟨x, hx, hen⟩
    have hta : ta L (i, e) = tip x e := tipP_eq hx
    have hg : (fS L x).get e = enP (fin L) (i, e) := by rw [enP_eq hx hen, get_fS hen]
    have hne := ta_partner hL hS ha
    have hsg : ∀ u, sigAt L (tip x e) = some u → ∃ y ∈ sigs L, y.e0 = tip x e ∧ y.name = u ∧ ∃ v, partner L (tip x e) = some (some v) := fun u hu => by
      obtain ⟨y, hy, h1, h2⟩ := sigAt_some hu
      refine ⟨y, hy, h1, h2, ?_⟩
      have := hS y (mem_sigs.1 hy).1
      unfold lackErr at this
      rw [if_neg (by rw [(sig_facts (mem_sigs.1 hy).2).2.1]; simp), if_pos (mem_sigs.1 hy).2, h1] at this
      cases hp : partner L (tip x e) with
      | none => rw [hp] at this; cases this
      | some v =>
        cases v with
        | none => rw [hp] at this; cases this
        | some v => exact ⟨v, rfl⟩
    cases hp : partner L (ta L (i, e)) with
    | none => exact absurd hp hne
    | some v =>
      cases v with
      | none =>
        left
        obtain ⟨h1, h2⟩ := en_stop ha hp
        rw [hta] at hp
        refine ⟨x, hxs, hen, hpl, rfl, hp, by rw [hg]; exact h1, by rw [hg]; exact h2, ?_⟩
        rw [get_fS hen]
        show (match sigAt L (tip x e) with | some g => rank (nmG L) g | none => -1) = -1
        cases hs : sigAt L (tip x e) with
        | none => rfl
        | some u =>
          obtain ⟨_, _, _, _, v, hv⟩ := hsg u hs
          rw [hp] at hv; cases hv
      | some u =>
        right
        obtain ⟨b, hb, rfl⟩ := ta_ments hL (partner_ments (t := u) (by rw [(partner_sym hL.ments hp).1]; simp))
        obtain ⟨h1, h2⟩ := en_join hL ha hb hp
        obtain ⟨h3, h4⟩ := en_join hL hb ha (partner_sym hL.ments hp).1
        obtain ⟨j, f⟩ := b
        obtain ⟨y, hy, hf⟩ := mem_endsP.1 hb
        have hf3 : f < 3 := by
          have : nEnds (isPt y) ≤ 3 := by unfold nEnds; split <;> omega
          exact Nat.lt_of_lt_of_le hf this
        have hgy : (fS L y).get f = enP (fin L) (j, f) := by rw [enP_eq hy hf, get_fS hf]
        refine ⟨x, j, f, fS L y, hxs, hen, hpl, rfl, by rw [fin_secs, List.getElem?_map, hy]; rfl, hf3, by rw [hg]; exact h1, by rw [hg]; exact h2, by rw [hgy]; exact h3, by rw [hgy]; exact h4, ?_⟩
        rw [get_fS hen]
        show ((match sigAt L (tip x e) with | some g => rank (nmG L) g | none => -1) = -1) ∨ ∃ k g, _ ∧ (match sigAt L (tip x e) with | some g => rank (nmG L) g | none => -1) = _ ∧ _
        cases hs : sigAt L (tip x e) with
        | none => exact .inl rfl
        | some u =>
          obtain ⟨z, hz, h5, h6, _⟩ := hsg u hs
          refine .inr ⟨plG L z, _, sigs_pl hL hz, ?_, ?_, ?_⟩
          · show rank (nmG L) u = _
            rw [← h6]
            have := rank_nonneg (nmG L) z.name
            unfold plG; omega
          · show rank (nmS L) z.e0.n = _
            rw [h5]; exact hrk
          · show (((endAt (ptOf L z.e0.n) z.e0.c).getD 0 : Nat) : Int) = _
            rw [h5, tip_at hL hxs hen]; rfl
  · left
    unfold Sec.get
    have hp : isPt x = false := by
      cases hp : isPt x with
      | false => rfl
      | true => rw [hp] at hen; exact absurd he hen
    have h2 : e = 2 := by rw [hp] at hen; simp [nEnds] at hen; omega
    subst h2
    show (if isPt x then _ else stop) = stop
    rw [hp]; rfl
omit hS in
/-- A signal stands at an end that names it. -/
theorem sig_cases {i : Nat} {g : Sig} (h : (fin L).sigs[i]? = some g) : ∃ (j f : Nat) (t : Sec), (fin L).secs[j]? = some t ∧ f < 3 ∧ g.sec = (j : Int) ∧ g.en = (f : Int) ∧ (t.get f).sig = (i : Int) := by
  obtain ⟨x, hx, hxs, _, hrk, rfl⟩ := sigs_at hL h
  have h9 := (sig_facts (mem_sigs.1 hxs).2).2.2.2.2
  obtain ⟨y, hy, f, hf, ht⟩ := told_all hL (mem_sigs.1 hxs).1 (t := x.e0) (by unfold tips; rw [if_neg (by omega), if_neg (by omega), if_pos h9]; simp)
  have hf3 : f < 3 := by
    have : nEnds (isPt y) ≤ 3 := by unfold nEnds; split <;> omega
    exact Nat.lt_of_lt_of_le hf this
  refine ⟨plS L y, f, _, secs_pl hL hy, hf3, ?_, ?_, ?_⟩
  · show rank (nmS L) x.e0.n = _
    rw [ht]
    have := rank_nonneg (nmS L) y.name
    show rank (nmS L) y.name = _
    unfold plS; omega
  · show (((endAt (ptOf L x.e0.n) x.e0.c).getD 0 : Nat) : Int) = _
    rw [ht, tip_at hL hy hf]; rfl
  · rw [get_fS hf]
    show (match sigAt L (tip y f) with | some g => rank (nmG L) g | none => -1) = _
    rw [← ht, sigAt_eq hL.gends hxs]
    exact hrk
end

/-! ### Finding a name -/
def find (l : List Sec) (nm : Nm) : Int := match l.findIdx? fun s => decide (s.name = nm) with | some i => (i : Int) | none => -1
theorem find_none {l : List Sec} {nm : Nm} (h : ∀ s ∈ l, s.name ≠ nm) : find l nm = -1 := by
  unfold find
  rw [List.findIdx?_eq_none_iff.2 fun s hs => by simpa using h s hs]
theorem find_at {l : List Sec} {nm : Nm} {i : Nat} {s : Sec} (h : l[i]? = some s) (hn : s.name = nm) (h0 : ∀ j < i, ∀ t, l[j]? = some t → t.name ≠ nm) : find l nm = i := by
  unfold find
  have : l.findIdx? (fun s => decide (s.name = nm)) = some i := by
    rw [List.findIdx?_eq_some_iff_getElem]
    obtain ⟨hi, rfl⟩ := List.getElem?_eq_some_iff.1 h
    exact ⟨hi, by simpa using hn, fun j hj => by simpa using h0 j hj _ (List.getElem?_eq_getElem (by omega))⟩
  rw [this]
theorem find_cases (l : List Sec) (nm : Nm) : (find l nm = -1 ∧ ∀ s ∈ l, s.name ≠ nm) ∨ ∃ i s, find l nm = (i : Nat) ∧ l[i]? = some s ∧ s.name = nm := by
  cases h : l.findIdx? fun s => decide (s.name = nm) with
  | none => exact .inl ⟨by unfold find; rw [h], fun s hs => by simpa using List.findIdx?_eq_none_iff.1 h s hs⟩
  | some i =>
    obtain ⟨hi, h1, _⟩ := List.findIdx?_eq_some_iff_getElem.1 h
    exact .inr ⟨i, l[i], by unfold find; rw [h], List.getElem?_eq_getElem hi, by simpa using h1⟩
/-! ### What is told of a text stays -/
theorem tipErr_in (M : List Itm) (used : List Tp) (t : Tp) : tipErr M used t = 0 ∨ tipErr M used t = 4 ∨ tipErr M used t = 5 ∨ tipErr M used t = 6 := by
  unfold tipErr
  repeat' split
  all_goals simp
theorem lineErr_2 (M : List Itm) (x : Itm) : lineErr M x = 2 ↔ It.right x = false := by
  constructor
  · intro h
    cases hr : It.right x with
    | false => rfl
    | true =>
      have h1 := tipErr_in M (ments M) x.e0
      have h2 := tipErr_in M (ments M ++ [x.e0]) x.e1
      have h3 := tipErr_in M [] x.e0
      unfold lineErr joinErr sigErr at h
      rw [hr, if_neg (by simp)] at h
      repeat' split at h
      all_goals (first | omega | simp at h)
  · intro h
    unfold lineErr
    rw [h]; rfl
theorem build_at {K : List Itm} {i : Nat} {e : Int} (hi : i < K.length) (he : errAt K i = e) (h0 : e ≠ 0) (hj : ∀ j < i, errAt K j = 0) : build K = (Plan.zero, e, i + 1) := by
  unfold build
  rw [firstE_some.2 ⟨hi, by rw [he]; exact h0, hj⟩]
  simp only [he]
theorem errAt_take {L : List Itm} {i n : Nat} (h : i < n) (hn : n ≤ L.length) : errAt (L.take n) i = errAt L i := by
  have := errAt_left (M := L.take n) (N := L.drop n) (i := i) (by rw [List.length_take]; omega)
  rw [List.take_append_drop] at this
  exact this.symm
end Go.Proofs.Ytbmmcmdopekccaa.Pl
/-
  Plain mathematics of layer 5: sections and signals as they were told, line by line, each with places in the order of telling. No program is named here.
-/
namespace Go.Proofs.Ytbmmcmdopekccaa.Pl
open Go It

/-- A section whose ends are told by a function. -/
def secG (g : Tp → En) (x : Itm) : Sec := ⟨x.name, isPt x, x.n, g (tip x 0), g (tip x 1), if isPt x then g (tip x 2) else stop⟩
def upd (g : Tp → En) (t : Tp) (a : En) : Tp → En := fun v => if v = t then a else g v
def Sec.put (s : Sec) (e : Nat) (a : En) : Sec := if e = 0 then { s with e0 := a } else if e = 1 then { s with e1 := a } else { s with e2 := a }
def Sec.setTo (e : Nat) (v : Int) (s : Sec) : Sec := s.put e { s.get e with goes := v }
def Sec.setAt (e : Nat) (v : Int) (s : Sec) : Sec := s.put e { s.get e with at_ := v }
def Sec.setSig (e : Nat) (v : Int) (s : Sec) : Sec := s.put e { s.get e with sig := v }
theorem get_secG (g : Tp → En) {x : Itm} {e : Nat} (he : e < nEnds (isPt x)) : (secG g x).get e = g (tip x e) := by
  unfold Sec.get
  by_cases h0 : e = 0
  · rw [if_pos h0, h0]; rfl
  · rw [if_neg h0]
    by_cases h1 : e = 1
    · rw [if_pos h1, h1]; rfl
    · rw [if_neg h1]
      have hp : isPt x = true := by
        cases hp : isPt x with
        | true => rfl
        | false => rw [hp] at he; simp [nEnds] at he; omega
      have h2 : e = 2 := by rw [hp] at he; simp [nEnds] at he; omega
      rw [h2]
      show (if isPt x = true then g (tip x 2) else stop) = _
      rw [if_pos hp]
theorem tip_ne {x : Itm} {e f : Nat} (he : e < nEnds (isPt x)) (hf : f < nEnds (isPt x)) (h : e ≠ f) : tip x e ≠ tip x f := fun hc => h (letter_inj he hf (congrArg Tp.c hc))
theorem secG_upd (g : Tp → En) (a : En) {x : Itm} {e : Nat} (he : e < nEnds (isPt x)) : secG (upd g (tip x e) a) x = (secG g x).put e a := by
  have n0 : 0 < nEnds (isPt x) := by unfold nEnds; split <;> omega
  have n1 : 1 < nEnds (isPt x) := by unfold nEnds; split <;> omega
  unfold Sec.put
  by_cases h0 : e = 0
  · subst h0
    rw [if_pos rfl]
    unfold secG upd
    rw [if_pos rfl, if_neg (tip_ne n1 n0 (by omega))]
    by_cases hp : isPt x = true
    · rw [if_pos hp, if_pos hp, if_neg (tip_ne (by rw [hp]; decide) n0 (by omega))]
    · rw [if_neg hp, if_neg hp]
  · rw [if_neg h0]
    by_cases h1 : e = 1
    · subst h1
      rw [if_pos rfl]
      unfold secG upd
      rw [if_pos rfl, if_neg (tip_ne n0 n1 (by omega))]
      by_cases hp : isPt x = true
      · rw [if_pos hp, if_pos hp, if_neg (tip_ne (by rw [hp]; decide) n1 (by omega))]
      · rw [if_neg hp, if_neg hp]
    · rw [if_neg h1]
      have hp : isPt x = true := by
        cases hp : isPt x with
        | true => rfl
        | false => rw [hp] at he; simp [nEnds] at he; omega
      have h2 : e = 2 := by rw [hp] at he; simp [nEnds] at he; omega
      subst h2
      unfold secG upd
      rw [if_neg (tip_ne n0 he (by omega)), if_neg (tip_ne n1 he (by omega)), if_pos hp, if_pos hp, if_pos rfl]
theorem secG_other (g : Tp → En) (a : En) {x y : Itm} {e : Nat} (h : x.name ≠ y.name) : secG (upd g (tip y e) a) x = secG g x := by
  have n : ∀ f, tip x f ≠ tip y e := fun f hc => h (congrArg Tp.n hc)
  unfold secG upd
  rw [if_neg (n 0), if_neg (n 1), if_neg (n 2)]
theorem modify_at {α : Type} (L : List α) (i k : Nat) (f : α → α) : (L.modify i f)[k]? = if i = k then (L[k]?).map f else L[k]? := by
  rw [List.getElem?_modify]
  by_cases h : i = k
  · subst h
    cases L[i]? <;> simp
  · cases L[k]? <;> simp [h]
/-- One end told otherwise. -/
theorem map_upd {S : List Itm} (hn : (S.map (·.name)).Nodup) (g : Tp → En) (a : En) {i : Nat} {y : Itm} (hy : S[i]? = some y) {e : Nat} (he : e < nEnds (isPt y)) : S.map (secG (upd g (tip y e) a)) = (S.map (secG g)).modify i (fun s => s.put e a) := by
  apply List.ext_getElem?
  intro k
  rw [modify_at, List.getElem?_map, List.getElem?_map]
  cases hk : S[k]? with
  | none => split <;> rfl
  | some x =>
    simp only [Option.map_some]
    by_cases hik : i = k
    · subst hik
      rw [hk] at hy
      cases hy
      rw [if_pos rfl, secG_upd g a he]
    · rw [if_neg hik]
      have : x.name ≠ y.name := fun e => by
        have hi := List.getElem?_map (f := Itm.name) (l := S) (i := i)
        have hk2 := List.getElem?_map (f := Itm.name) (l := S) (i := k)
        rw [hy] at hi
        rw [hk] at hk2
        simp only [Option.map_some] at hi hk2
        rw [e] at hk2
        obtain ⟨h1, h1'⟩ := List.getElem?_eq_some_iff.1 hi
        obtain ⟨h2, h2'⟩ := List.getElem?_eq_some_iff.1 hk2
        have hp := List.nodup_iff_pairwise_ne.1 hn
        rcases Nat.lt_or_gt_of_ne hik with h | h
        · exact List.pairwise_iff_getElem.1 hp i k h1 h2 h (h1'.trans h2'.symm)
        · exact List.pairwise_iff_getElem.1 hp k i h2 h1 h (h2'.trans h1'.symm)
      rw [secG_other g a this]

theorem pos_at : ∀ {N : List Nm} (_ : N.Nodup) (i : Nat) (nm : Nm), N[i]? = some nm → pos N nm = i
  | [], _, i, nm, hi => by simp at hi
  | a :: N, h, 0, nm, hi => by
    obtain rfl : a = nm := by simpa using hi
    simp [pos, List.findIdx_cons]
  | a :: N, h, i + 1, nm, hi => by
    have h' := List.nodup_cons.1 h
    have hi' : N[i]? = some nm := by simpa using hi
    have ih := pos_at h'.2 i nm hi'
    have hne : ¬ a = nm := fun e => h'.1 (e ▸ List.mem_of_getElem? hi')
    unfold pos at ih ⊢
    rw [List.findIdx_cons]
    simp [hne]
    omega
theorem pos_append {N R : List Nm} {nm : Nm} (h : nm ∈ N) : pos (N ++ R) nm = pos N nm := by
  unfold pos
  rw [List.findIdx_append]
  have : N.findIdx (fun a => decide (a = nm)) < N.length := List.findIdx_lt_length.2 ⟨nm, h, by simp⟩
  rw [if_pos this]

/-! ### As it was told -/
abbrev gW (M : List Itm) : Tp → En := enW (pos (nmS M)) (pos (nmG M)) M
def wS (M : List Itm) : List Sec := (secs M).map (secG (gW M))
def wG (M : List Itm) : List Sig := (sigs M).map (sigW (pos (nmS M)) M)
theorem wS_len (M : List Itm) : (wS M).length = (secs M).length := by simp [wS]
theorem wG_len (M : List Itm) : (wG M).length = (sigs M).length := by simp [wG]
theorem wS_at {M : List Itm} {i : Nat} {s : Sec} (h : (wS M)[i]? = some s) : ∃ x, (secs M)[i]? = some x ∧ s = secG (gW M) x := by
  rw [wS, List.getElem?_map, Option.map_eq_some_iff] at h
  obtain ⟨x, hx, rfl⟩ := h
  exact ⟨x, hx, rfl⟩
theorem wS_of {M : List Itm} {i : Nat} {x : Itm} (h : (secs M)[i]? = some x) : (wS M)[i]? = some (secG (gW M) x) := by rw [wS, List.getElem?_map, h]; rfl
theorem nmS_at {M : List Itm} {i : Nat} {x : Itm} (h : (secs M)[i]? = some x) : (nmS M)[i]? = some x.name := by rw [nmS, List.getElem?_map, h]; rfl
theorem pos_sec {M : List Itm} (hn : (nmS M).Nodup) {i : Nat} {x : Itm} (h : (secs M)[i]? = some x) : pos (nmS M) x.name = i := pos_at hn i _ (nmS_at h)
theorem find_wS {M : List Itm} (nm : Nm) : (nm ∉ nmS M ∧ find (wS M) nm = -1) ∨ ∃ (i : Nat) (x : Itm), find (wS M) nm = i ∧ (secs M)[i]? = some x ∧ x.name = nm := by
  rcases find_cases (wS M) nm with ⟨h1, h2⟩ | ⟨i, s, h1, h2, h3⟩
  · refine .inl ⟨fun h => ?_, h1⟩
    obtain ⟨x, hx, e⟩ := mem_nmS.1 h
    exact h2 _ (List.mem_map.2 ⟨x, hx, rfl⟩) e
  · obtain ⟨x, hx, rfl⟩ := wS_at h2
    exact .inr ⟨i, x, h1, hx, h3⟩
theorem partner_snoc (M : List Itm) (x : Itm) (t : Tp) : partner (M ++ [x]) t = (partner M t).or (link t x) := by
  unfold partner
  rw [List.findSome?_append]
  simp only [List.findSome?_cons, List.findSome?_nil]
  cases link t x <;> rfl
theorem ments_nm {M : List Itm} (hM : Ok M) {t : Tp} (h : t ∈ ments M) : t.n ∈ nmS M := by
  obtain ⟨y, hy, e, _, rfl⟩ := ments_told hM h
  exact mem_nmS.2 ⟨y, hy, rfl⟩
theorem sig_nm {M : List Itm} (hM : Ok M) {x : Itm} (h : x ∈ sigs M) : x.e0.n ∈ nmS M := by
  have h9 := (sig_facts (mem_sigs.1 h).2).2.2.2.2
  obtain ⟨y, hy, e, _, he⟩ := told_all hM (mem_sigs.1 h).1 (t := x.e0) (by unfold tips; rw [if_neg (by omega), if_neg (by omega), if_pos h9]; simp)
  exact mem_nmS.2 ⟨y, hy, by rw [he]; rfl⟩
theorem secs_same {M : List Itm} {x : Itm} (h : isS x = false) : secs (M ++ [x]) = secs M := by rw [secs_snoc, h]; simp
theorem sigs_same {M : List Itm} {x : Itm} (h : isG x = false) : sigs (M ++ [x]) = sigs M := by rw [sigs_snoc, h]; simp
theorem ptOf_same {M : List Itm} {x : Itm} (h : isS x = false) : ptOf (M ++ [x]) = ptOf M := by funext nm; unfold ptOf; rw [secs_same h]
theorem sigAt_same {M : List Itm} {x : Itm} (h : isG x = false) : sigAt (M ++ [x]) = sigAt M := by funext t; unfold sigAt; rw [sigs_same h]
theorem ment_none {x : Itm} (h7 : x.k ≠ 7) (h8 : x.k ≠ 8) (t : Tp) : link t x = none := by rw [link_none, ment, if_neg h7, if_neg h8]; simp
theorem num_snoc {M : List Itm} {x : Itm} (k : Int) (h : ∀ y ∈ M, y.k ≠ x.k) : num (M ++ [x]) k = if k = x.k then x.n else num M k := by
  unfold num
  rw [List.find?_append]
  by_cases hk : k = x.k
  · subst hk
    rw [if_pos rfl, List.find?_eq_none.2 fun y hy => by simpa using h y hy]
    simp
  · rw [if_neg hk]
    have : ¬ x.k = k := fun e => hk e.symm
    simp [this]
theorem num_other {M : List Itm} {x : Itm} {k : Int} (h : x.k ≠ k) : num (M ++ [x]) k = num M k := by
  unfold num
  rw [List.find?_append]
  simp [h]
/-- A number more. -/
theorem w_num {M : List Itm} {x : Itm} (hx : isNum x.k = true) : wS (M ++ [x]) = wS M ∧ wG (M ++ [x]) = wG M := by
  obtain ⟨h1, h2, h7, h8, _⟩ := num_facts hx
  have ep : partner (M ++ [x]) = partner M := by funext t; rw [partner_snoc, ment_none h7 h8]; simp
  have e1 : gW (M ++ [x]) = gW M := by
    funext t
    simp only [gW, enW, ep, ptOf_same h1, sigAt_same h2, nmS, nmG, secs_same h1, sigs_same h2]
  constructor
  · rw [wS, e1, secs_same h1]; rfl
  · rw [wG, sigs_same h2]
    unfold wG
    congr 1
    funext y
    simp only [sigW, ptOf_same h1, nmS, secs_same h1]
def openE : En := ⟨-2, 0, -1⟩
/-- A section more. -/
theorem w_sec {M : List Itm} {x : Itm} (hM : Ok M) (hx : isS x = true) (hn : x.name ∉ nmS M) : wS (M ++ [x]) = wS M ++ [⟨x.name, isPt x, x.n, openE, openE, if isPt x then openE else stop⟩] ∧ wG (M ++ [x]) = wG M := by
  obtain ⟨_, h2, h7, h8, _⟩ := sec_facts hx
  have es : secs (M ++ [x]) = secs M ++ [x] := by rw [secs_snoc, if_pos hx]
  have en : nmS (M ++ [x]) = nmS M ++ [x.name] := by rw [nmS, es, List.map_append]; rfl
  have ep : partner (M ++ [x]) = partner M := by funext t; rw [partner_snoc, ment_none h7 h8]; simp
  have ept : ∀ nm, nm ∈ nmS M → ptOf (M ++ [x]) nm = ptOf M nm := fun nm h => by
    obtain ⟨y, hy, rfl⟩ := mem_nmS.1 h
    unfold ptOf
    rw [es, find_uniq (f := Itm.name) hM.names hy, List.find?_append, find_uniq (f := Itm.name) hM.names hy]
    rfl
  have e1 : ∀ t, gW (M ++ [x]) t = gW M t := fun t => by
    simp only [gW, enW, ep, sigAt_same h2, nmG, sigs_same h2]
    cases hp : partner M t with
    | none => rfl
    | some v =>
      cases v with
      | none => rfl
      | some u =>
        have hu := ments_nm hM (partner_ments (t := u) (by rw [(partner_sym hM.ments hp).1]; simp))
        simp only [en, pos_append hu, ept _ hu]
  have e0 : ∀ e, gW M (tip x e) = openE := fun e => by
    have hp : partner M (tip x e) = none := partner_none.2 fun h => hn (ments_nm hM h)
    have hs : sigAt M (tip x e) = none := by
      cases h : sigAt M (tip x e) with
      | none => rfl
      | some g =>
        obtain ⟨y, hy, h3, _⟩ := sigAt_some h
        exact absurd (sig_nm hM hy) (by rw [h3]; exact hn)
    simp only [gW, enW, hp, hs]; rfl
  constructor
  · rw [wS, es, List.map_append, show gW (M ++ [x]) = gW M from funext e1]
    unfold wS
    congr 1
    show [secG (gW M) x] = _
    unfold secG
    rw [e0, e0, e0]
  · rw [wG, sigs_same h2]
    unfold wG
    refine List.map_congr_left fun y hy => ?_
    have := sig_nm hM hy
    simp only [sigW, en, pos_append this, ept _ this]
/-- A stop more. -/
theorem w_stop {M : List Itm} {x : Itm} (hM : Ok M) (h8 : x.k = 8) (hm : x.e0 ∉ ments M) {i : Nat} {y : Itm} (hy : (secs M)[i]? = some y) {e : Nat} (he : e < nEnds (isPt y)) (ht : x.e0 = tip y e) :
    wS (M ++ [x]) = (wS M).modify i (Sec.setTo e (-1)) ∧ wG (M ++ [x]) = wG M := by
  obtain ⟨h0, h1, h2⟩ := end_facts (x := x) (.inr h8)
  have eg : gW (M ++ [x]) = upd (gW M) (tip y e) ⟨-1, 0, (gW M (tip y e)).sig⟩ := by
    funext v
    unfold upd
    simp only [gW, enW, partner_snoc, ptOf_same h1, sigAt_same h2, nmS, nmG, secs_same h1, sigs_same h2]
    by_cases hv : v = tip y e
    · subst hv
      rw [if_pos rfl]
      rw [ht] at hm
      rw [partner_none.2 hm]
      have : link (tip y e) x = some none := by unfold link; rw [if_neg (by omega), if_pos ⟨h8, ht⟩]
      rw [this]; rfl
    · rw [if_neg hv]
      have : link v x = none := by unfold link; rw [if_neg (by omega), if_neg (fun h => hv (by rw [← h.2, ht]))]
      rw [this]
      simp
  constructor
  · rw [wS, eg, secs_same h1, map_upd hM.names _ _ hy he]
    apply List.ext_getElem?
    intro k
    rw [modify_at, modify_at]
    by_cases hik : i = k
    · subst hik
      rw [if_pos rfl, if_pos rfl, ← wS, wS_of hy]
      show some _ = some _
      congr 1
      unfold Sec.setTo
      rw [get_secG _ he]
      have hp : partner M (tip y e) = none := partner_none.2 (by rw [← ht]; exact hm)
      simp only [gW, enW, hp]
    · rw [if_neg hik, if_neg hik]; rfl
  · rw [wG, sigs_same h2]
    unfold wG
    congr 1
    funext z
    simp only [sigW, ptOf_same h1, nmS, secs_same h1]
/-- A join more. -/
theorem w_join {M : List Itm} {x : Itm} (hM : Ok M) (h7 : x.k = 7) (hm : x.e0 ∉ ments M) (hm1 : x.e1 ∉ ments M) (hne : x.e0 ≠ x.e1) {i j : Nat} {y z : Itm} (hy : (secs M)[i]? = some y) (hz : (secs M)[j]? = some z) {e f : Nat} (he : e < nEnds (isPt y)) (hf : f < nEnds (isPt z)) (ht : x.e0 = tip y e) (hu : x.e1 = tip z f) :
    wS (M ++ [x]) = ((wS M).modify i (fun s => s.put e ⟨j, f, (gW M (tip y e)).sig⟩)).modify j (fun s => s.put f ⟨i, e, (gW M (tip z f)).sig⟩) ∧ wG (M ++ [x]) = wG M := by
  obtain ⟨h0, h1, h2⟩ := end_facts (x := x) (.inl h7)
  have hys : y ∈ secs M := List.mem_of_getElem? hy
  have hzs : z ∈ secs M := List.mem_of_getElem? hz
  have eg : gW (M ++ [x]) = upd (upd (gW M) (tip y e) ⟨j, f, (gW M (tip y e)).sig⟩) (tip z f) ⟨i, e, (gW M (tip z f)).sig⟩ := by
    funext v
    unfold upd
    simp only [gW, enW, partner_snoc, ptOf_same h1, sigAt_same h2, nmS, nmG, secs_same h1, sigs_same h2]
    by_cases hv : v = tip z f
    · subst hv
      rw [if_pos rfl]
      rw [hu] at hm1
      rw [partner_none.2 hm1]
      have : link (tip z f) x = some (some (tip y e)) := by unfold link; rw [if_pos h7, if_neg (by rw [← hu]; exact hne), if_pos hu, ht]
      rw [this]
      have hpos : pos ((secs M).map (·.name)) (tip y e).n = i := pos_sec hM.names hy
      simp only [Option.none_or, hpos, tip_at hM hys he, Option.getD_some]
    · rw [if_neg hv]
      by_cases hv2 : v = tip y e
      · subst hv2
        rw [if_pos rfl]
        rw [ht] at hm
        rw [partner_none.2 hm]
        have : link (tip y e) x = some (some (tip z f)) := by unfold link; rw [if_pos h7, if_pos ht, hu]
        rw [this]
        have hpos : pos ((secs M).map (·.name)) (tip z f).n = j := pos_sec hM.names hz
        simp only [Option.none_or, hpos, tip_at hM hzs hf, Option.getD_some]
      · rw [if_neg hv2]
        have : link v x = none := by unfold link; rw [if_pos h7, if_neg (fun h => hv2 (by rw [← h, ht])), if_neg (fun h => hv (by rw [← h, hu]))]
        rw [this]
        simp
  constructor
  · rw [wS, eg, secs_same h1, map_upd hM.names _ _ hz hf, map_upd hM.names _ _ hy he]; rfl
  · rw [wG, sigs_same h2]
    unfold wG
    congr 1
    funext z
    simp only [sigW, ptOf_same h1, nmS, secs_same h1]
/-- A signal more. -/
theorem w_sig {M : List Itm} {x : Itm} (hM : Ok M) (hg : isG x = true) (hn : x.name ∉ nmG M) (hs : x.e0 ∉ (sigs M).map (·.e0)) {i : Nat} {y : Itm} (hy : (secs M)[i]? = some y) {e : Nat} (he : e < nEnds (isPt y)) (ht : x.e0 = tip y e) :
    wS (M ++ [x]) = (wS M).modify i (Sec.setSig e (wG M).length) ∧ wG (M ++ [x]) = wG M ++ [⟨x.name, i, e⟩] := by
  obtain ⟨_, h1, h7, h8, _⟩ := sig_facts hg
  have eG : sigs (M ++ [x]) = sigs M ++ [x] := by rw [sigs_snoc, if_pos hg]
  have hys : y ∈ secs M := List.mem_of_getElem? hy
  have enG : nmG (M ++ [x]) = nmG M ++ [x.name] := by rw [nmG, eG, List.map_append]; rfl
  have ep : partner (M ++ [x]) = partner M := by funext t; rw [partner_snoc, ment_none h7 h8]; simp
  have hlast : pos (nmG M ++ [x.name]) x.name = (wG M).length := by
    have : (nmG M ++ [x.name]).Nodup := nodup_snoc.2 ⟨hM.gnames, hn⟩
    rw [pos_at this (nmG M).length x.name (by simp), wG_len, nmG, List.length_map]
  have eg : gW (M ++ [x]) = upd (gW M) (tip y e) { gW M (tip y e) with sig := (wG M).length } := by
    funext v
    unfold upd
    have hsv : sigAt (M ++ [x]) v = (sigAt M v).or (if x.e0 = v then some x.name else none) := by
      unfold sigAt
      rw [eG, List.find?_append]
      by_cases hv : x.e0 = v
      · rw [if_pos hv]
        cases (sigs M).find? fun z => decide (z.e0 = v) <;> simp [hv]
      · rw [if_neg hv]
        cases (sigs M).find? fun z => decide (z.e0 = v) <;> simp [hv]
    by_cases hv : v = tip y e
    · subst hv
      rw [if_pos rfl]
      have hno : sigAt M (tip y e) = none := by
        have := sigAt_none.2 hs
        rw [ht] at this
        cases h : sigAt M (tip y e) with
        | none => rfl
        | some g => rw [h] at this; cases this
      simp only [gW, enW, ep, ptOf_same h1, nmS, secs_same h1, hsv, hno, if_pos ht, Option.none_or, enG, hlast]
    · rw [if_neg hv]
      rw [if_neg (fun h => hv (by rw [← h, ht])), Option.or_none] at hsv
      simp only [gW, enW, ep, ptOf_same h1, nmS, secs_same h1, hsv, enG]
      cases h : sigAt M v with
      | none => rfl
      | some g =>
        obtain ⟨z, hz, _, rfl⟩ := sigAt_some h
        simp only [pos_append (show z.name ∈ nmG M from List.mem_map.2 ⟨z, hz, rfl⟩)]
  constructor
  · rw [wS, eg, secs_same h1, map_upd hM.names _ _ hy he]
    apply List.ext_getElem?
    intro k
    rw [modify_at, modify_at]
    by_cases hik : i = k
    · subst hik
      rw [if_pos rfl, if_pos rfl, ← wS, wS_of hy]
      show some _ = some _
      congr 1
      unfold Sec.setSig
      rw [get_secG _ he]
    · rw [if_neg hik, if_neg hik]; rfl
  · have e1 : ∀ z, sigW (pos (nmS (M ++ [x]))) (M ++ [x]) z = sigW (pos (nmS M)) M z := fun z => by simp only [sigW, ptOf_same h1, nmS, secs_same h1]
    rw [wG, eG, List.map_append, show sigW (pos (nmS (M ++ [x]))) (M ++ [x]) = sigW (pos (nmS M)) M from funext e1]
    unfold wG
    congr 1
    show [sigW (pos (nmS M)) M x] = _
    unfold sigW
    rw [ht, tip_at hM hys he, show (tip y e).n = y.name from rfl, pos_sec hM.names hy]
    rfl
end Go.Proofs.Ytbmmcmdopekccaa.Pl
/-
  Plain mathematics of layer 5: from the order of telling to the order of the names. No program is named here.
-/
namespace Go.Proofs.Ytbmmcmdopekccaa.Pl
open Go It

/-- The ranks of names, one for each. -/
def ranks (N : List Nm) : List Int := N.map (rank N)
def ren1 (R : List Int) (v : Int) : Int := if 0 ≤ v then R.getD v.toNat 0 else v
def renEn (R Q : List Int) (e : En) : En := ⟨ren1 R e.goes, e.at_, ren1 Q e.sig⟩
def renSec (R Q : List Int) (s : Sec) : Sec := ⟨s.name, s.pt, s.len, renEn R Q s.e0, renEn R Q s.e1, renEn R Q s.e2⟩
def renSig (R : List Int) (g : Sig) : Sig := ⟨g.name, ren1 R g.sec, g.en⟩
theorem ranks_len (N : List Nm) : (ranks N).length = N.length := by simp [ranks]
theorem ranks_at {N : List Nm} {i : Nat} {nm : Nm} (h : N[i]? = some nm) : (ranks N)[i]? = some (rank N nm) := by rw [ranks, List.getElem?_map, h]; rfl
theorem ren_pos {N : List Nm} {nm : Nm} (h : nm ∈ N) : ren1 (ranks N) (pos N nm) = rank N nm := by
  have hl : N.findIdx (fun a => decide (a = nm)) < N.length := List.findIdx_lt_length.2 ⟨nm, h, by simp⟩
  have he := List.findIdx_getElem (xs := N) (p := fun a => decide (a = nm)) (w := hl)
  have he' : N[N.findIdx (fun a => decide (a = nm))] = nm := of_decide_eq_true he
  unfold ren1 pos
  rw [if_pos (by omega), List.getD_eq_getElem?_getD, Int.toNat_natCast, ranks_at (List.getElem?_eq_getElem hl), he']
  rfl
theorem ren_neg {R : List Int} {v : Int} (h : v < 0) : ren1 R v = v := by unfold ren1; rw [if_neg (by omega)]
theorem partner_nm {M : List Itm} (hM : Ok M) {t u : Tp} (h : partner M t = some (some u)) : u.n ∈ nmS M := by
  have h2 := (partner_sym hM.ments h).1
  refine ments_nm hM (t := u) (Classical.byContradiction fun hc => ?_)
  rw [partner_none.2 hc] at h2
  cases h2
theorem ren_en {M : List Itm} (hM : Ok M) (t : Tp) : renEn (ranks (nmS M)) (ranks (nmG M)) (gW M t) = enW (rank (nmS M)) (rank (nmG M)) M t := by
  unfold renEn gW enW
  congr 1
  · rcases hp : partner M t with _ | _ | u
    · exact ren_neg (show (-2 : Int) < 0 by decide)
    · exact ren_neg (show (-1 : Int) < 0 by decide)
    · exact ren_pos (partner_nm hM hp)
  · rcases hs : sigAt M t with _ | g
    · exact ren_neg (show (-1 : Int) < 0 by decide)
    · obtain ⟨x, hx, -, rfl⟩ := sigAt_some hs
      exact ren_pos (List.mem_map.2 ⟨x, hx, rfl⟩)
theorem ren_stop (R Q : List Int) : renEn R Q stop = stop := by
  unfold renEn stop
  rw [ren_neg (by decide)]
  congr 1
theorem ren_sec {M : List Itm} (hM : Ok M) (x : Itm) : renSec (ranks (nmS M)) (ranks (nmG M)) (secG (gW M) x) = secW (rank (nmS M)) (rank (nmG M)) M x := by
  unfold renSec secG secW
  simp only
  rw [ren_en hM, ren_en hM]
  congr 1
  cases isPt x
  · exact ren_stop _ _
  · exact ren_en hM _
theorem ren_sig {M : List Itm} (hM : Ok M) {x : Itm} (hx : x ∈ sigs M) : renSig (ranks (nmS M)) (sigW (pos (nmS M)) M x) = sigW (rank (nmS M)) M x := by
  unfold renSig sigW
  congr 1
  exact ren_pos (sig_nm hM hx)
theorem fin_secs_len (M : List Itm) : (fin M).secs.length = (wS M).length := by simp [fin, wS, isort_len]
theorem fin_sigs_len (M : List Itm) : (fin M).sigs.length = (wG M).length := by simp [fin, wG, isort_len]
theorem isort_names {l : List Itm} : ((isort Itm.name l).map (·.name)).Perm (l.map (·.name)) := (isort_perm Itm.name l).map _
theorem fin_sec_at {M : List Itm} (hM : Ok M) {i : Nat} {s : Sec} (h : (wS M)[i]? = some s) :
    (fin M).secs[(rank (nmS M) s.name).toNat]? = some (renSec (ranks (nmS M)) (ranks (nmG M)) s) := by
  obtain ⟨x, hx, rfl⟩ := wS_at h
  rw [ren_sec hM]
  have h1 := at_rank (isort_rise Itm.name (secs M) hM.names) ((isort_mem Itm.name).2 (List.mem_of_getElem? hx))
  rw [rank_perm isort_names] at h1
  show ((isort Itm.name (secs M)).map (secW (rank (nmS M)) (rank (nmG M)) M))[(rank (nmS M) x.name).toNat]? = _
  rw [List.getElem?_map]
  rw [show (isort Itm.name (secs M))[(rank (nmS M) x.name).toNat]? = some x from h1]
  rfl
theorem fin_sig_at {M : List Itm} (hM : Ok M) {i : Nat} {g : Sig} (h : (wG M)[i]? = some g) :
    (fin M).sigs[(rank (nmG M) g.name).toNat]? = some (renSig (ranks (nmS M)) g) := by
  rw [wG, List.getElem?_map, Option.map_eq_some_iff] at h
  obtain ⟨x, hx, rfl⟩ := h
  rw [ren_sig hM (List.mem_of_getElem? hx)]
  have h1 := at_rank (isort_rise Itm.name (sigs M) hM.gnames) ((isort_mem Itm.name).2 (List.mem_of_getElem? hx))
  rw [rank_perm isort_names] at h1
  show ((isort Itm.name (sigs M)).map (sigW (rank (nmS M)) M))[(rank (nmG M) x.name).toNat]? = _
  rw [List.getElem?_map]
  rw [show (isort Itm.name (sigs M))[(rank (nmG M) x.name).toNat]? = some x from h1]
  rfl
/-- Every place of a list in order is somebody's rank. -/
theorem rank_onto {l : List Itm} (hn : (l.map (·.name)).Nodup) {p : Nat} (hp : p < l.length) : ∃ i, i < l.length ∧ ∀ nm, (l.map (·.name))[i]? = some nm → (rank (l.map (·.name)) nm).toNat = p := by
  have hp' : p < (isort Itm.name l).length := by rw [isort_len]; exact hp
  have hm : (isort Itm.name l)[p] ∈ l := (isort_mem Itm.name).1 (List.getElem_mem hp')
  obtain ⟨i, hi, e⟩ := List.getElem_of_mem hm
  refine ⟨i, hi, fun nm h => ?_⟩
  rw [List.getElem?_map, List.getElem?_eq_getElem hi] at h
  obtain rfl : l[i].name = nm := by simpa using h
  rw [← rank_perm isort_names, rank_at (rise_map (isort_rise Itm.name l hn)) p _ (by rw [List.getElem?_map, List.getElem?_eq_getElem hp', ← e]; rfl)]
  simp
end Go.Proofs.Ytbmmcmdopekccaa.Pl
