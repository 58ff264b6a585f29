/-
  Texts of this claim, merged: WkFacts, WkTurn.
-/
import Derived.Test.YtgbeebjbmbikiaaMg12
/-
  Plain mathematics of layer 6: where a station's ends lead one is led back from. No program is named here.
-/
namespace Go.Proofs.Ytgbeebjbmbikiaa.Wk
open Go Pl

theorem mem_ends {p : Plan} {i e : Nat} : (i, e) ∈ endsP p ↔ ∃ s, p.secs[i]? = some s ∧ e < nEnds s.pt := by
  unfold endsP
  simp only [List.mem_flatMap, List.mem_range, List.mem_map]
  constructor
  · rintro ⟨j, hj, f, hf, h⟩
    cases h
    rw [List.getElem?_eq_getElem hj] at hf
    exact ⟨_, List.getElem?_eq_getElem hj, hf⟩
  · rintro ⟨s, hs, he⟩
    refine ⟨i, (List.getElem?_eq_some_iff.1 hs).1, e, ?_, rfl⟩
    rw [hs]
    exact he
theorem nEnds_le {b : Bool} : nEnds b ≤ 3 := by cases b <;> decide
theorem endOf_in {p : Plan} {i e : Nat} (h : (i, e) ∈ endsP p) : endOf p i e = some (enP p (i, e)) := by
  obtain ⟨s, hs, he⟩ := mem_ends.1 h
  have h3 : nEnds s.pt ≤ 3 := nEnds_le
  unfold endOf
  rw [secAt_some hs]
  have hE : isEnd s (e : Int) = true := by
    unfold isEnd
    rw [decide_eq_true (show (0 : Int) ≤ e by omega), decide_eq_true (show (e : Int) ≤ 2 by omega), Bool.true_and, Bool.true_and]
    by_cases h2 : e = 2
    · subst h2
      cases hp : s.pt with
      | true => rw [Bool.or_true]
      | false => rw [hp] at he; exact absurd he (by decide)
    · rw [decide_eq_true (show (e : Int) ≠ 2 by omega), Bool.true_or]
  simp only
  rw [hE, if_pos rfl, Int.toNat_natCast, enP_at hs]
theorem endOf_out {p : Plan} {i e : Nat} (h : (i, e) ∉ endsP p) : endOf p i e = none := by
  unfold endOf
  rcases sec_ways p i with ⟨h0, _⟩ | ⟨k, hk, ⟨_, hn⟩ | ⟨s, hs, hn⟩⟩
  · omega
  · obtain rfl : i = k := by omega
    rw [hn]
  · obtain rfl : i = k := by omega
    rw [hn]
    have hE : isEnd s (e : Int) = false := by
      cases hq : isEnd s (e : Int) with
      | false => rfl
      | true =>
        refine absurd (mem_ends.2 ⟨s, hs, ?_⟩) h
        unfold isEnd at hq
        simp only [Bool.and_eq_true, Bool.or_eq_true, decide_eq_true_eq] at hq
        obtain ⟨_, h2, h3⟩ := hq
        unfold nEnds
        cases hp : s.pt with
        | true => rw [if_pos rfl]; omega
        | false =>
          rw [if_neg (by decide)]
          rcases h3 with h3 | h3
          · omega
          · rw [hp] at h3; cases h3
    simp only
    rw [hE]
    rfl
section
variable {L : List It.Itm} (hL : Pl.Ok L) (hS : Pl.Shut L)
include hL hS
theorem ends_ways {a : Nat × Nat} (ha : a ∈ endsP (fin L)) : ((enP (fin L) a).goes = -1 ∧ (enP (fin L) a).sig = -1) ∨ ∃ b, b ∈ endsP (fin L) ∧ (enP (fin L) a).goes = b.1 ∧ (enP (fin L) a).at_ = b.2 ∧ (enP (fin L) b).goes = a.1 ∧ (enP (fin L) b).at_ = a.2 ∧ b ≠ a := by
  cases hp : partner L (ta L a) with
  | none => exact absurd hp (ta_partner hL hS ha)
  | some v =>
    cases v with
    | none =>
      obtain ⟨h1, -⟩ := en_stop ha hp
      refine .inl ⟨h1, ?_⟩
      obtain ⟨i, e⟩ := a
      obtain ⟨s, hs, he⟩ := mem_ends.1 ha
      rw [enP_at hs] at h1 ⊢
      rcases end_cases hL hS hs (Nat.lt_of_lt_of_le he nEnds_le) with h | ⟨_, -, -, -, -, -, -, -, h⟩ | ⟨_, j, f, t, -, -, -, -, -, -, h, -⟩
      · rw [h]; rfl
      · exact h
      · omega
    | some u =>
      obtain ⟨hq, hne⟩ := partner_sym hL.ments hp
      obtain ⟨b, hb, rfl⟩ := ta_ments hL (partner_ments (t := u) (by rw [hq]; simp))
      obtain ⟨h1, h2⟩ := en_join hL ha hb hp
      obtain ⟨h3, h4⟩ := en_join hL hb ha hq
      exact .inr ⟨b, hb, h1, h2, h3, h4, fun h => hne (by rw [h])⟩
omit hL hS in
theorem next_of {a b : Nat × Nat} (ha : a ∈ endsP (fin L)) (h1 : (enP (fin L) a).goes = b.1) (h2 : (enP (fin L) a).at_ = b.2) : next (fin L) a.1 a.2 = ((b.1 : Int), (b.2 : Int), true) := by
  unfold next
  rw [endOf_in ha]
  simp only
  rw [if_neg (by rw [h1]; omega), h1, h2]
/-- An end leads nowhere, and no signal stands there; or it leads there and back. -/
theorem next_ways (i e : Nat) : (next (fin L) i e = (0, 0, false) ∧ signal (fin L) i e = -1) ∨ ((i, e) ∈ endsP (fin L) ∧ ∃ b, b ∈ endsP (fin L) ∧ next (fin L) i e = ((b.1 : Int), (b.2 : Int), true) ∧ next (fin L) b.1 b.2 = ((i : Int), (e : Int), true) ∧ b ≠ (i, e)) := by
  by_cases ha : (i, e) ∈ endsP (fin L)
  · rcases ends_ways hL hS ha with ⟨h1, h2⟩ | ⟨b, hb, h1, h2, h3, h4, hne⟩
    · left
      unfold next signal
      rw [endOf_in ha]
      exact ⟨if_pos (by rw [h1]; omega), h2⟩
    · exact .inr ⟨ha, b, hb, next_of ha h1 h2, next_of (a := b) (b := (i, e)) hb h3 h4, hne⟩
  · left
    unfold next signal
    rw [endOf_out ha]
    exact ⟨rfl, rfl⟩
end
/-- What is paired off, none with itself, is an even number. -/
theorem even_pairs {α : Type} [DecidableEq α] (φ : α → α) : ∀ (n : Nat) (l : List α), l.length ≤ n → l.Nodup → (∀ a ∈ l, φ a ∈ l ∧ φ (φ a) = a ∧ φ a ≠ a) → l.length % 2 = 0
  | 0, l, hn, _, _ => by rw [Nat.le_zero.1 hn]
  | n + 1, [], _, _, _ => rfl
  | n + 1, a :: t, hn, hd, h => by
    obtain ⟨ha, hd⟩ := List.nodup_cons.1 hd
    obtain ⟨h1, h2, h3⟩ := h a (List.mem_cons_self ..)
    have hb : φ a ∈ t := (List.mem_cons.1 h1).resolve_left h3
    have hlen : (t.erase (φ a)).length = t.length - 1 := List.length_erase_of_mem hb
    have ht : 0 < t.length := List.length_pos_of_mem hb
    have := even_pairs φ n (t.erase (φ a)) (by rw [hlen]; rw [List.length_cons] at hn; omega) (hd.erase _) (fun x hx => by
      obtain ⟨hxn, hxt⟩ := (List.Nodup.mem_erase_iff hd).1 hx
      obtain ⟨k1, k2, k3⟩ := h x (List.mem_cons_of_mem _ hxt)
      have e1 : φ x ≠ a := fun e => hxn (by rw [← k2, e])
      refine ⟨(List.Nodup.mem_erase_iff hd).2 ⟨fun e => ?_, (List.mem_cons.1 k1).resolve_left e1⟩, k2, k3⟩
      have : x = a := by rw [← k2, e, h2]
      exact ha (this ▸ hxt))
    rw [List.length_cons]
    omega
end Go.Proofs.Ytgbeebjbmbikiaa.Wk
/-
  Plain mathematics of layer 6: a step may be gone the other way round. No program is named here.
-/
namespace Go.Proofs.Ytgbeebjbmbikiaa.Wk
open Go Pl

theorem turn_step {p : Plan} {i : Nat} {e : Nat} {x : Sec} (hx : p.secs[i]? = some x) {y : Stp} (hy : y ∈ outs p i e) :
    y.s = i ∧ y.f = e ∧ (⟨i, y.t, e⟩ : Stp) ∈ outs p i y.t ∧ position p ⟨i, y.t, e⟩ = position p y ∧ (position p y != 0) = x.pt := by
  have hp : ∀ f t, position p ⟨i, f, t⟩ = if x.pt then max (max f t) 0 else 0 := fun f t => by
    unfold position isPoint
    rw [secAt_some hx]
    rfl
  have ho : ∀ f, outs p i f = if x.pt then (if f = 0 then [⟨i, 0, 1⟩, ⟨i, 0, 2⟩] else if f = 1 ∨ f = 2 then [⟨i, f, 0⟩] else []) else if f = 0 ∨ f = 1 then [⟨i, f, 1 - f⟩] else [] := fun f => by
    unfold outs
    rw [secAt_some hx]
  cases hpt : x.pt with
  | false =>
    rw [ho, hpt, if_neg (by decide)] at hy
    by_cases h : (e : Int) = 0 ∨ (e : Int) = 1
    · rw [if_pos h, List.mem_singleton] at hy
      subst hy
      refine ⟨rfl, rfl, ?_, by rw [hp, hp, hpt]; rfl, by rw [hp, hpt]; rfl⟩
      rw [ho, hpt, if_neg (by decide)]
      rw [if_pos (by simp only; omega), List.mem_singleton]
      simp only [Stp.mk.injEq, true_and]
      omega
    · rw [if_neg h] at hy
      cases hy
  | true =>
    rw [ho, hpt, if_pos rfl] at hy
    by_cases h0 : (e : Int) = 0
    · rw [if_pos h0] at hy
      obtain rfl : e = 0 := by omega
      rcases List.mem_cons.1 hy with rfl | hy
      · refine ⟨rfl, rfl, ?_, by rw [hp, hp, hpt]; rfl, by rw [hp, hpt]; rfl⟩
        rw [ho, hpt, if_pos rfl, if_neg (show ¬ (1 : Int) = 0 by decide), if_pos (show (1 : Int) = 1 ∨ (1 : Int) = 2 by decide)]
        exact List.mem_singleton.2 rfl
      · rw [List.mem_singleton] at hy
        subst hy
        refine ⟨rfl, rfl, ?_, by rw [hp, hp, hpt]; rfl, by rw [hp, hpt]; rfl⟩
        rw [ho, hpt, if_pos rfl, if_neg (show ¬ (2 : Int) = 0 by decide), if_pos (show (2 : Int) = 1 ∨ (2 : Int) = 2 by decide)]
        exact List.mem_singleton.2 rfl
    · rw [if_neg h0] at hy
      by_cases h : (e : Int) = 1 ∨ (e : Int) = 2
      · rw [if_pos h, List.mem_singleton] at hy
        subst hy
        refine ⟨rfl, rfl, ?_, ?_, ?_⟩
        · rw [ho, hpt, if_pos rfl, if_pos rfl]
          rcases h with h | h
          · rw [h]; simp
          · rw [h]; simp
        · rw [hp, hp, hpt, if_pos rfl, if_pos rfl]
          show max (max (0 : Int) e) 0 = max (max (e : Int) 0) 0
          omega
        · rw [hp, hpt, if_pos rfl, bne_iff_ne]
          show max (max (e : Int) 0) 0 ≠ 0
          omega
      · rw [if_neg h] at hy
        cases hy
/-- Has it been found among the first ones? -/
def seen (l : List Stp) (z : Stp) (j : Nat) : Bool := (l.take j).any fun q => decide (q = z)
theorem seen_next {l : List Stp} {z q : Stp} {j : Nat} (h : l[j]? = some q) : seen l z (j + 1) = (seen l z j || decide (q = z)) := by
  unfold seen
  rw [List.take_add_one, h, List.any_append]
  simp
theorem seen_all {l : List Stp} {z : Stp} (h : z ∈ l) : seen l z l.length = true := by
  unfold seen
  rw [List.take_length, List.any_eq_true]
  exact ⟨z, h, decide_eq_true rfl⟩
end Go.Proofs.Ytgbeebjbmbikiaa.Wk
