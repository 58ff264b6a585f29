/-
  Texts of this claim, merged: NrSpec, WkFacts, NrMore, NrTab, NrMem.
-/
import Derived.Test.YtgajdfecajleiaaMg13
import Derived.Test.YtgajdfecajleiaaMg15
import Derived.Test.YtgajdfecajleiaaMg17
/-
  Plain mathematics of layer 11: how far a section's end is from a signal; the sections from which a train may come. No program is named here.
-/
namespace Go.Proofs.Ytgajdfecajleiaa.Nr
open Go Pl Wk

/-- How long a section is. -/
def lenAt (p : Plan) (s : Nat) : Int := ((p.secs[s]?).map Sec.len).getD 0
/-- A train that leaves a section by an end may have come from another one, left by an end. -/
def Edge (p : Plan) (a b : Nat × Nat) : Prop := ∃ from_ : Nat, from_ < 3 ∧ (∃ x ∈ outs p a.1 from_, x.t = (a.2 : Int)) ∧ next p a.1 from_ = ((b.1 : Int), (b.2 : Int), true)
/-- There is a way from an end to the signal's, so long between. -/
inductive Reach (p : Plan) (st : Nat × Nat) : Nat × Nat → Int → Prop
  | start : Reach p st st 0
  | step {a b : Nat × Nat} {n : Int} : Reach p st a n → Edge p a b → Reach p st b (n + lenAt p a.1)
/-- A train may come from that section within so much. -/
def Got (p : Plan) (ap : Int) (st : Nat × Nat) (s : Nat) : Prop := ∃ (e : Nat) (n : Int), e < 3 ∧ Reach p st (s, e) n ∧ n < ap
/-- Whether something is so. -/
noncomputable def yes (P : Prop) : Bool := @decide P (Classical.propDecidable P)
theorem yes_iff {P : Prop} : yes P = true ↔ P := @decide_eq_true_iff P (Classical.propDecidable P)
/-- The sections from which a train may come within so much. -/
noncomputable def sects (p : Plan) (ap : Int) (st : Nat × Nat) : List Nat := (List.range p.secs.length).filter fun s => yes (Got p ap st s)
def total (p : Plan) (l : List Nat) : Int := l.foldl (fun n s => n + lenAt p s) 0

/-- A table's entry of an end. -/
def at_ (T : List Int) (a : Nat × Nat) : Int := (T[3 * a.1 + a.2]?).getD (-1)
/-- What a table of all ends tells is so. -/
structure Sound (p : Plan) (ap : Int) (st : Nat × Nat) (T : List Int) : Prop where
  len : T.length = 3 * p.secs.length
  least : ∀ a : Nat × Nat, a.1 < p.secs.length → a.2 < 3 → at_ T a = -1 ∨ (0 ≤ at_ T a ∧ at_ T a < ap ∧ Reach p st a (at_ T a))
  first : at_ T st = 0
/-- An end's ways on tell nothing new. -/
def ClosedAt (p : Plan) (ap : Int) (T : List Int) (a : Nat × Nat) : Prop := 0 ≤ at_ T a → ∀ b, Edge p a b → at_ T a + lenAt p a.1 < ap → 0 ≤ at_ T b ∧ at_ T b ≤ at_ T a + lenAt p a.1
def Closed (p : Plan) (ap : Int) (T : List Int) : Prop := ∀ a : Nat × Nat, a.1 < p.secs.length → a.2 < 3 → ClosedAt p ap T a
/-- A table in which nothing is left to be bettered. -/
structure Done (p : Plan) (ap : Int) (st : Nat × Nat) (T : List Int) : Prop extends Sound p ap st T where
  closed : Closed p ap T

theorem lenAt_bd {p : Plan} (hm : Lp.Meas p) (s : Nat) : 0 ≤ lenAt p s ∧ lenAt p s ≤ 1099511627776 := by
  unfold lenAt
  cases h : p.secs[s]? with
  | none => exact ⟨by decide, by decide⟩
  | some x => exact hm.len s x h
theorem Reach.nonneg {p : Plan} (hm : Lp.Meas p) {st a : Nat × Nat} {n : Int} (h : Reach p st a n) : 0 ≤ n := by
  induction h with
  | start => exact Int.le_refl _
  | @step a _ _ _ _ ih => have := (lenAt_bd hm a.1).1; omega
theorem edge_in {p : Plan} (hf : Fit p) {a b : Nat × Nat} (h : Edge p a b) : b.1 < p.secs.length ∧ b.2 < 3 := by
  obtain ⟨k, hk, -, hn⟩ := h
  have hd : (Wk.next p (a.1 : Int) (k : Int)) = ((b.1 : Int), (b.2 : Int), true) := hn
  unfold Wk.next at hd
  split at hd
  · exact absurd (congrArg (fun x => x.2.2) hd) (by simp)
  · rename_i x hx
    split at hd
    · exact absurd (congrArg (fun x => x.2.2) hd) (by simp)
    · rename_i hg
      unfold endOf at hx
      split at hx
      · cases hx
      · rename_i y hy
        split at hx
        · rename_i hend
          have hyk : p.secs[a.1]? = some y := by
            unfold secAt at hy
            rw [if_neg (by omega), Int.toNat_natCast] at hy
            exact hy
          cases hx
          rw [Int.toNat_natCast] at hd hg
          have h1 := hf.ends a.1 y hyk k hk
          simp only [Prod.mk.injEq] at hd
          obtain ⟨e1, e2, -⟩ := hd
          have h2 := h1.2.2 (by omega)
          omega
        · cases hx
theorem edge_from {p : Plan} {a b : Nat × Nat} (h : Edge p a b) : a.1 < p.secs.length := by
  obtain ⟨k, -, ⟨x, hx, -⟩, -⟩ := h
  rcases Nat.lt_or_ge a.1 p.secs.length with h | h
  · exact h
  · unfold outs at hx
    rw [secAt_big h] at hx
    cases hx
theorem edge_to {p : Plan} {a b : Nat × Nat} (h : Edge p a b) : a.2 < 3 := by
  obtain ⟨k, -, ⟨x, hx, ht⟩, -⟩ := h
  have h2 : x.t = 1 ∨ x.t = 2 ∨ x.t = 0 ∨ x.t = 1 - (k : Int) := by
    unfold outs at hx
    split at hx
    · cases hx
    · split at hx
      · split at hx
        · simp only [List.mem_cons, List.not_mem_nil, or_false] at hx
          rcases hx with rfl | rfl
          · exact .inl rfl
          · exact .inr (.inl rfl)
        · split at hx
          · simp only [List.mem_cons, List.not_mem_nil, or_false] at hx
            rw [hx]
            exact .inr (.inr (.inl rfl))
          · cases hx
      · split at hx
        · simp only [List.mem_cons, List.not_mem_nil, or_false] at hx
          rw [hx]
          exact .inr (.inr (.inr rfl))
        · cases hx
  omega
theorem Reach.in_ {p : Plan} (hf : Fit p) {st a : Nat × Nat} {n : Int} (hst : st.1 < p.secs.length ∧ st.2 < 3) (h : Reach p st a n) : a.1 < p.secs.length ∧ a.2 < 3 := by
  cases h with
  | start => exact hst
  | step _ he => exact edge_in hf he
/-- In a table in which nothing is left to be bettered each end has no more than any way to it. -/
theorem Done.le {p : Plan} (hm : Lp.Meas p) {ap : Int} {st : Nat × Nat} {T : List Int} (hd : Done p ap st T) {a : Nat × Nat} {n : Int} (h : Reach p st a n) (hn : n < ap) : 0 ≤ at_ T a ∧ at_ T a ≤ n := by
  induction h with
  | start => rw [hd.first]; exact ⟨Int.le_refl _, Int.le_refl _⟩
  | @step a b n hr he ih =>
    have hl := (lenAt_bd hm a.1).1
    obtain ⟨h1, h2⟩ := ih (by omega)
    obtain ⟨h3, h4⟩ := hd.closed a (edge_from he) (edge_to he) h1 b he (by omega)
    exact ⟨h3, by omega⟩
/-- Is one of a section's ends told? -/
def told (T : List Int) (s : Nat) : Bool := decide (0 ≤ max (at_ T (s, 0)) (max (at_ T (s, 1)) (at_ T (s, 2))))
theorem told_iff {p : Plan} (hm : Lp.Meas p) {ap : Int} {st : Nat × Nat} {T : List Int} (hd : Done p ap st T) {s : Nat} (hs : s < p.secs.length) : told T s = true ↔ Got p ap st s := by
  have one : ∀ e, e < 3 → (0 ≤ at_ T (s, e) ↔ ∃ n, Reach p st (s, e) n ∧ n < ap) := fun e he => by
    constructor
    · intro h
      rcases hd.least (s, e) hs he with h2 | ⟨_, h3, h4⟩
      · omega
      · exact ⟨_, h4, h3⟩
    · rintro ⟨n, h1, h2⟩
      exact (hd.le hm h1 h2).1
  have h0 := one 0 (by decide)
  have h1 := one 1 (by decide)
  have h2 := one 2 (by decide)
  unfold told
  rw [decide_eq_true_eq]
  constructor
  · intro h
    by_cases g0 : 0 ≤ at_ T (s, 0)
    · obtain ⟨n, a, b⟩ := h0.1 g0
      exact ⟨0, n, by decide, a, b⟩
    · by_cases g1 : 0 ≤ at_ T (s, 1)
      · obtain ⟨n, a, b⟩ := h1.1 g1
        exact ⟨1, n, by decide, a, b⟩
      · obtain ⟨n, a, b⟩ := h2.1 (by omega)
        exact ⟨2, n, by decide, a, b⟩
  · rintro ⟨e, n, he, hr, hn⟩
    match e, he with
    | 0, _ => have := h0.2 ⟨n, hr, hn⟩; omega
    | 1, _ => have := h1.2 ⟨n, hr, hn⟩; omega
    | 2, _ => have := h2.2 ⟨n, hr, hn⟩; omega
theorem told_sects {p : Plan} (hm : Lp.Meas p) {ap : Int} {st : Nat × Nat} {T : List Int} (hd : Done p ap st T) : (List.range p.secs.length).filter (told T) = sects p ap st := by
  unfold sects
  apply List.filter_congr
  intro s hs
  rw [Bool.eq_iff_iff, told_iff hm hd (List.mem_range.1 hs), yes_iff]
theorem ap_fin {L : List It.Itm} (hL : Pl.Ok L) : 0 ≤ (fin L).ap ∧ (fin L).ap ≤ 1099511627776 := by
  have h := Lp.num_le hL 2
  show 0 ≤ num L 2 ∧ num L 2 ≤ 1099511627776
  omega
/-- What is asked of a signal's number, of a station. -/
noncomputable def of (p : Plan) (i : Int) : List Nat × Int :=
  match Cr.sigAt p i with
  | none => ([], 0)
  | some g => if p.ap = 0 then ([], 0) else (sects p p.ap (g.sec.toNat, g.en.toNat), total p (sects p p.ap (g.sec.toNat, g.en.toNat)))
end Go.Proofs.Ytgajdfecajleiaa.Nr
/-
  Plain mathematics of layer 6: where a station's ends lead one is led back from. No program is named here.
-/
namespace Go.Proofs.Ytgajdfecajleiaa.Wk
open Go Pl

theorem mem_ends {p : Plan} {i e : Nat} : (i, e) ∈ endsP p ↔ ∃ s, p.secs[i]? = some s ∧ e < nEnds s.pt := by
  unfold endsP
  simp only [List.mem_flatMap, List.mem_range, List.mem_map]
  constructor
  · rintro ⟨j, hj, f, hf, h⟩
    cases h
    rw [List.getElem?_eq_getElem hj] at hf
    exact ⟨_, List.getElem?_eq_getElem hj, hf⟩
  · rintro ⟨s, hs, he⟩
    refine ⟨i, (List.getElem?_eq_some_iff.1 hs).1, e, ?_, rfl⟩
    rw [hs]
    exact he
theorem nEnds_le {b : Bool} : nEnds b ≤ 3 := by cases b <;> decide
theorem endOf_in {p : Plan} {i e : Nat} (h : (i, e) ∈ endsP p) : endOf p i e = some (enP p (i, e)) := by
  obtain ⟨s, hs, he⟩ := mem_ends.1 h
  have h3 : nEnds s.pt ≤ 3 := nEnds_le
  unfold endOf
  rw [secAt_some hs]
  have hE : isEnd s (e : Int) = true := by
    unfold isEnd
    rw [decide_eq_true (show (0 : Int) ≤ e by omega), decide_eq_true (show (e : Int) ≤ 2 by omega), Bool.true_and, Bool.true_and]
    by_cases h2 : e = 2
    · subst h2
      cases hp : s.pt with
      | true => rw [Bool.or_true]
      | false => rw [hp] at he; exact absurd he (by decide)
    · rw [decide_eq_true (show (e : Int) ≠ 2 by omega), Bool.true_or]
  simp only
  rw [hE, if_pos rfl, Int.toNat_natCast, enP_at hs]
theorem endOf_out {p : Plan} {i e : Nat} (h : (i, e) ∉ endsP p) : endOf p i e = none := by
  unfold endOf
  rcases sec_ways p i with ⟨h0, _⟩ | ⟨k, hk, ⟨_, hn⟩ | ⟨s, hs, hn⟩⟩
  · omega
  · obtain rfl : i = k := by omega
    rw [hn]
  · obtain rfl : i = k := by omega
    rw [hn]
    have hE : isEnd s (e : Int) = false := by
      cases hq : isEnd s (e : Int) with
      | false => rfl
      | true =>
        refine absurd (mem_ends.2 ⟨s, hs, ?_⟩) h
        unfold isEnd at hq
        simp only [Bool.and_eq_true, Bool.or_eq_true, decide_eq_true_eq] at hq
        obtain ⟨_, h2, h3⟩ := hq
        unfold nEnds
        cases hp : s.pt with
        | true => rw [if_pos rfl]; omega
        | false =>
          rw [if_neg (by decide)]
          rcases h3 with h3 | h3
          · omega
          · rw [hp] at h3; cases h3
    simp only
    rw [hE]
    rfl
section
variable {L : List It.Itm} (hL : Pl.Ok L) (hS : Pl.Shut L)
include hL hS
theorem ends_ways {a : Nat × Nat} (ha : a ∈ endsP (fin L)) : ((enP (fin L) a).goes = -1 ∧ (enP (fin L) a).sig = -1) ∨ ∃ b, b ∈ endsP (fin L) ∧ (enP (fin L) a).goes = b.1 ∧ (enP (fin L) a).at_ = b.2 ∧ (enP (fin L) b).goes = a.1 ∧ (enP (fin L) b).at_ = a.2 ∧ b ≠ a := by
  cases hp : partner L (ta L a) with
  | none => exact absurd hp (ta_partner hL hS ha)
  | some v =>
    cases v with
    | none =>
      obtain ⟨h1, -⟩ := en_stop ha hp
      refine .inl ⟨h1, ?_⟩
      obtain ⟨i, e⟩ := a
      obtain ⟨s, hs, he⟩ := mem_ends.1 ha
      rw [enP_at hs] at h1 ⊢
      rcases end_cases hL hS hs (Nat.lt_of_lt_of_le he nEnds_le) with h | ⟨_, -, -, -, -, -, -, -, h⟩ | ⟨_, j, f, t, -, -, -, -, -, -, h, -⟩
      · rw [h]; rfl
      · exact h
      · omega
    | some u =>
      obtain ⟨hq, hne⟩ := partner_sym hL.ments hp
      obtain ⟨b, hb, rfl⟩ := ta_ments hL (partner_ments (t := u) (by rw [hq]; simp))
      obtain ⟨h1, h2⟩ := en_join hL ha hb hp
      obtain ⟨h3, h4⟩ := en_join hL hb ha hq
      exact .inr ⟨b, hb, h1, h2, h3, h4, fun h => hne (by rw [h])⟩
omit hL hS in
theorem next_of {a b : Nat × Nat} (ha : a ∈ endsP (fin L)) (h1 : (enP (fin L) a).goes = b.1) (h2 : (enP (fin L) a).at_ = b.2) : next (fin L) a.1 a.2 = ((b.1 : Int), (b.2 : Int), true) := by
  unfold next
  rw [endOf_in ha]
  simp only
  rw [if_neg (by rw [h1]; omega), h1, h2]
/-- An end leads nowhere, and no signal stands there; or it leads there and back. -/
theorem next_ways (i e : Nat) : (next (fin L) i e = (0, 0, false) ∧ signal (fin L) i e = -1) ∨ ((i, e) ∈ endsP (fin L) ∧ ∃ b, b ∈ endsP (fin L) ∧ next (fin L) i e = ((b.1 : Int), (b.2 : Int), true) ∧ next (fin L) b.1 b.2 = ((i : Int), (e : Int), true) ∧ b ≠ (i, e)) := by
  by_cases ha : (i, e) ∈ endsP (fin L)
  · rcases ends_ways hL hS ha with ⟨h1, h2⟩ | ⟨b, hb, h1, h2, h3, h4, hne⟩
    · left
      unfold next signal
      rw [endOf_in ha]
      exact ⟨if_pos (by rw [h1]; omega), h2⟩
    · exact .inr ⟨ha, b, hb, next_of ha h1 h2, next_of (a := b) (b := (i, e)) hb h3 h4, hne⟩
  · left
    unfold next signal
    rw [endOf_out ha]
    exact ⟨rfl, rfl⟩
end
end Go.Proofs.Ytgajdfecajleiaa.Wk
/-
  Plain mathematics of layer 11: with more asked for; whence one goes on; all from which a train may come at all. No program is named here.
-/
namespace Go.Proofs.Ytgajdfecajleiaa.Nr
open Go Pl Wk

/-- A station that asks for another distance. -/
def far (p : Plan) (n : Int) : Plan := { p with ap := n }
theorem far_reach {p : Plan} {n m : Int} {st a : Nat × Nat} (h : Reach (far p n) st a m) : Reach p st a m := by
  induction h with
  | start => exact .start
  | step _ he ih => exact .step ih he
theorem reach_far {p : Plan} (n : Int) {m : Int} {st a : Nat × Nat} (h : Reach p st a m) : Reach (far p n) st a m := by
  induction h with
  | start => exact .start
  | @step a b k _ he ih => exact Reach.step (p := far p n) (a := a) (b := b) ih he
theorem got_far {p : Plan} (n : Int) {ap : Int} {st : Nat × Nat} {s : Nat} : Got (far p n) ap st s ↔ Got p ap st s :=
  ⟨fun ⟨e, m, he, hr, hn⟩ => ⟨e, m, he, far_reach hr, hn⟩, fun ⟨e, m, he, hr, hn⟩ => ⟨e, m, he, reach_far n hr, hn⟩⟩
theorem sects_far {p : Plan} (n ap : Int) (st : Nat × Nat) : sects (far p n) ap st = sects p ap st := by
  unfold sects
  show (List.range p.secs.length).filter _ = _
  apply List.filter_congr
  intro s _
  rw [Bool.eq_iff_iff, yes_iff, yes_iff]
  exact got_far n
theorem mem_sects {p : Plan} {ap : Int} {st : Nat × Nat} {s : Nat} : s ∈ sects p ap st ↔ s < p.secs.length ∧ Got p ap st s := by
  unfold sects
  rw [List.mem_filter, List.mem_range, yes_iff]
theorem sects_more {p : Plan} {ap ap' : Int} (h : ap ≤ ap') {st : Nat × Nat} {s : Nat} (hs : s ∈ sects p ap st) : s ∈ sects p ap' st := by
  rw [mem_sects] at hs ⊢
  obtain ⟨h1, e, n, he, hr, hn⟩ := hs
  exact ⟨h1, e, n, he, hr, by omega⟩
theorem sects_here {p : Plan} (hm : Lp.Meas p) {ap : Int} {st : Nat × Nat} (hst : st.1 < p.secs.length ∧ st.2 < 3) : st.1 ∈ sects p ap st ↔ 0 < ap := by
  rw [mem_sects]
  constructor
  · rintro ⟨-, e, n, -, hr, hn⟩
    have := hr.nonneg hm
    omega
  · intro h
    exact ⟨hst.1, st.2, 0, hst.2, .start, h⟩
theorem sects_none {p : Plan} (hm : Lp.Meas p) {st : Nat × Nat} : sects p 0 st = [] := by
  apply List.eq_nil_iff_forall_not_mem.2
  intro s hs
  obtain ⟨-, e, n, -, hr, hn⟩ := mem_sects.1 hs
  have := hr.nonneg hm
  omega
theorem sects_len {p : Plan} (hf : Fit p) (ap : Int) (st : Nat × Nat) : (sects p ap st).length ≤ 24 := by
  unfold sects
  have := List.length_filter_le (fun s => yes (Got p ap st s)) (List.range p.secs.length)
  rw [List.length_range] at this
  have := hf.few
  omega
theorem of_len {p : Plan} (hf : Fit p) {i : Int} : (of p i).1.length ≤ 24 := by
  unfold of
  split
  · exact Nat.zero_le _
  · split
    · exact Nat.zero_le _
    · exact sects_len hf _ _
theorem sects_rise (p : Plan) (ap : Int) (st : Nat × Nat) : (sects p ap st).Pairwise (· < ·) := List.pairwise_lt_range.filter _
theorem total_from (p : Plan) (l : List Nat) : ∀ n, l.foldl (fun n s => n + lenAt p s) n = n + total p l := by
  unfold total
  induction l with
  | nil => intro n; simp
  | cons s l ih =>
    intro n
    rw [List.foldl_cons, List.foldl_cons, ih, ih (0 + lenAt p s)]
    omega
theorem total_cons (p : Plan) (s : Nat) (l : List Nat) : total p (s :: l) = lenAt p s + total p l := by
  rw [show total p (s :: l) = l.foldl (fun n s => n + lenAt p s) (0 + lenAt p s) from rfl, total_from]
  omega
theorem total_snoc (p : Plan) (l : List Nat) (s : Nat) : total p (l ++ [s]) = total p l + lenAt p s := by
  unfold total
  rw [List.foldl_append]
  rfl
theorem total_bd {p : Plan} (hm : Lp.Meas p) : ∀ l : List Nat, 0 ≤ total p l ∧ total p l ≤ l.length * 1099511627776
  | [] => ⟨Int.le_refl _, Int.le_refl _⟩
  | s :: l => by
    have h1 := total_bd hm l
    have h2 := lenAt_bd hm s
    rw [total_cons, List.length_cons]
    refine ⟨by omega, ?_⟩
    rw [Int.natCast_add, Int.add_mul]
    omega
theorem total_filter {p : Plan} (hm : Lp.Meas p) {P Q : Nat → Bool} (h : ∀ s, P s = true → Q s = true) : ∀ l : List Nat, total p (l.filter P) ≤ total p (l.filter Q)
  | [] => Int.le_refl _
  | s :: l => by
    have ih := total_filter hm h l
    have h2 := (lenAt_bd hm s).1
    rw [List.filter_cons, List.filter_cons]
    by_cases hp : P s = true
    · rw [if_pos hp, if_pos (h s hp), total_cons, total_cons]; omega
    · rw [if_neg hp]
      by_cases hq : Q s = true
      · rw [if_pos hq, total_cons]; omega
      · rw [if_neg hq]; exact ih
theorem of_at {p : Plan} (hm : Lp.Meas p) {k : Nat} {g : Pl.Sig} (hg : p.sigs[k]? = some g) : of p (k : Int) = (sects p p.ap (g.sec.toNat, g.en.toNat), total p (sects p p.ap (g.sec.toNat, g.en.toNat))) := by
  unfold of Cr.sigAt
  rw [if_neg (by omega), Int.toNat_natCast, hg]
  simp only
  split
  · rename_i h
    rw [h, sects_none hm]
    rfl
  · rfl
theorem total_more {p : Plan} (hm : Lp.Meas p) {ap ap' : Int} (h : ap ≤ ap') (st : Nat × Nat) : total p (sects p ap st) ≤ total p (sects p ap' st) := by
  unfold sects
  refine total_filter hm (fun s hs => ?_) _
  rw [yes_iff] at hs ⊢
  obtain ⟨e, n, he, hr, hn⟩ := hs
  exact ⟨e, n, he, hr, by omega⟩
/-- Where an end leads one is led back. -/
def Back (p : Plan) : Prop := ∀ (a b : Nat × Nat), next p a.1 a.2 = ((b.1 : Int), (b.2 : Int), true) → next p b.1 b.2 = ((a.1 : Int), (a.2 : Int), true)
theorem back_fin {L : List It.Itm} (hL : Pl.Ok L) (hS : Pl.Shut L) : Back (fin L) := by
  intro a b h
  rcases next_ways hL hS a.1 a.2 with ⟨h1, -⟩ | ⟨-, c, -, h1, h2, -⟩
  · rw [h1] at h
    exact absurd (congrArg (fun x => x.2.2) h) (by simp)
  · rw [h1] at h
    simp only [Prod.mk.injEq] at h
    obtain ⟨e1, e2, -⟩ := h
    have e3 : c.1 = b.1 := by omega
    have e4 : c.2 = b.2 := by omega
    rw [← e3, ← e4]
    exact h2
/-- From each section but the signal's own one goes on into another one of them. -/
theorem sects_on {p : Plan} (hm : Lp.Meas p) (hb : Back p) {ap : Int} {st : Nat × Nat} {s : Nat} (hs : s ∈ sects p ap st) (hne : s ≠ st.1) : ∃ (e : Nat) (b : Nat × Nat), e < 3 ∧ next p s e = ((b.1 : Int), (b.2 : Int), true) ∧ b.1 ∈ sects p ap st := by
  obtain ⟨-, e, n, he, hr, hn⟩ := mem_sects.1 hs
  generalize ha : (s, e) = c at hr
  cases hr with
  | start => exact absurd (congrArg Prod.fst ha) hne
  | @step a _ n hr hed =>
    have h1 := edge_from hed
    have h2 := edge_to hed
    have hl := (lenAt_bd hm a.1).1
    obtain ⟨k, hk, -, hnx⟩ := hed
    subst ha
    have := hb (a.1, k) (s, e) hnx
    exact ⟨e, (a.1, k), he, this, mem_sects.2 ⟨h1, a.2, n, h2, hr, by omega⟩⟩
/-! ### All from which a train may come at all -/
/-- Of ever more things of a list there are no new ones at some time. -/
theorem chain_stops {α : Type} (U : List α) (P : Nat → α → Prop) (mono : ∀ k a, P k a → P (k + 1) a) : ∃ k, k ≤ U.length ∧ ∀ a ∈ U, P (k + 1) a → P k a := by
  apply Classical.byContradiction
  intro hno
  have hnew : ∀ k, k ≤ U.length → ∃ a ∈ U, P (k + 1) a ∧ ¬ P k a := by
    intro k hk
    apply Classical.byContradiction
    intro hn
    exact hno ⟨k, hk, fun a ha h => Classical.byContradiction fun h2 => hn ⟨a, ha, h, h2⟩⟩
  have lt : ∀ (V : List α) (Q R : α → Prop), (∀ a, Q a → R a) → (∃ a ∈ V, R a ∧ ¬ Q a) → (V.filter fun a => yes (Q a)).length + 1 ≤ (V.filter fun a => yes (R a)).length := by
    intro V Q R hqr
    have le : ∀ V : List α, (V.filter fun a => yes (Q a)).length ≤ (V.filter fun a => yes (R a)).length := by
      intro V
      induction V with
      | nil => exact Nat.le_refl _
      | cons a V ih =>
        rw [List.filter_cons, List.filter_cons]
        by_cases hq : Q a
        · rw [if_pos (yes_iff.2 hq), if_pos (yes_iff.2 (hqr a hq)), List.length_cons, List.length_cons]; omega
        · rw [if_neg (by rw [yes_iff]; exact hq)]
          split
          · rw [List.length_cons]; omega
          · exact ih
    induction V with
    | nil => rintro ⟨a, h, -⟩; cases h
    | cons a V ih =>
      rintro ⟨b, hb, hr, hq⟩
      have hle := le V
      rw [List.filter_cons, List.filter_cons]
      rcases List.mem_cons.1 hb with rfl | hb
      · rw [if_neg (by rw [yes_iff]; exact hq), if_pos (yes_iff.2 hr), List.length_cons]; omega
      · have ih := ih ⟨b, hb, hr, hq⟩
        by_cases hqa : Q a
        · rw [if_pos (yes_iff.2 hqa), if_pos (yes_iff.2 (hqr a hqa)), List.length_cons, List.length_cons]; omega
        · rw [if_neg (by rw [yes_iff]; exact hqa)]
          split
          · rw [List.length_cons]; omega
          · exact ih
  have up : ∀ k, k ≤ U.length + 1 → k ≤ (U.filter fun a => yes (P k a)).length := by
    intro k
    induction k with
    | zero => intro _; exact Nat.zero_le _
    | succ k ih =>
      intro hk
      have h1 := ih (by omega)
      have h2 := lt U (P k) (P (k + 1)) (fun a => mono k a) (hnew k (by omega))
      omega
  have h1 := up (U.length + 1) (Nat.le_refl _)
  have h2 := List.length_filter_le (fun a => yes (P (U.length + 1) a)) U
  omega
/-- All ends of so many sections. -/
def allEnds (n : Nat) : List (Nat × Nat) := (List.range n).flatMap fun s => [(s, 0), (s, 1), (s, 2)]
theorem mem_allEnds {n : Nat} {a : Nat × Nat} (h1 : a.1 < n) (h2 : a.2 < 3) : a ∈ allEnds n := by
  obtain ⟨s, e⟩ := a
  refine List.mem_flatMap.2 ⟨s, List.mem_range.2 h1, ?_⟩
  match e, h2 with
  | 0, _ => simp
  | 1, _ => simp
  | 2, _ => simp
theorem allEnds_len (n : Nat) : (allEnds n).length = 3 * n := by
  unfold allEnds
  rw [List.length_flatMap]
  induction n with
  | zero => rfl
  | succ n ih => rw [List.range_succ, List.map_append, List.sum_append, ih]; simp; omega
/-- What can be reached is reached within no more than there is. -/
theorem reach_short {p : Plan} (hm : Lp.Meas p) (hf : Fit p) {st a : Nat × Nat} {n : Int} (h : Reach p st a n) : ∃ m, Reach p st a m ∧ m ≤ 79164837199872 := by
  obtain ⟨k, hk, hstop⟩ := chain_stops (allEnds p.secs.length) (fun k b => ∃ m, Reach p st b m ∧ m ≤ (k : Int) * 1099511627776) (fun k b ⟨m, h1, h2⟩ => ⟨m, h1, by omega⟩)
  have all : ∀ {b n}, Reach p st b n → ∃ m, Reach p st b m ∧ m ≤ (k : Int) * 1099511627776 := by
    intro b n hr
    induction hr with
    | start => exact ⟨0, .start, by omega⟩
    | @step b c n hr he ih =>
      obtain ⟨m, h1, h2⟩ := ih
      have hi := edge_in hf he
      refine hstop c (mem_allEnds hi.1 hi.2) ⟨m + lenAt p b.1, .step h1 he, ?_⟩
      have := (lenAt_bd hm b.1).2
      omega
  obtain ⟨m, h1, h2⟩ := all h
  refine ⟨m, h1, ?_⟩
  rw [allEnds_len] at hk
  have := hf.few
  have hk2 : (k : Int) ≤ 72 := by omega
  omega
theorem got_all {p : Plan} (hm : Lp.Meas p) (hf : Fit p) {st : Nat × Nat} {s : Nat} : Got p 1125899906842624 st s ↔ ∃ (e : Nat) (n : Int), e < 3 ∧ Reach p st (s, e) n := by
  constructor
  · rintro ⟨e, n, he, hr, -⟩
    exact ⟨e, n, he, hr⟩
  · rintro ⟨e, n, he, hr⟩
    obtain ⟨m, h1, h2⟩ := reach_short hm hf hr
    exact ⟨e, m, he, h1, by omega⟩
end Go.Proofs.Ytgajdfecajleiaa.Nr
/-
  Plain mathematics of layer 11: tables of all ends, and how they are bettered. No program is named here.
-/
namespace Go.Proofs.Ytgajdfecajleiaa.Nr
open Go Pl Wk

/-- Where an end's entry stands. -/
def slot (a : Nat × Nat) : Nat := 3 * a.1 + a.2
theorem slot_inj {a b : Nat × Nat} (ha : a.2 < 3) (hb : b.2 < 3) (h : slot a = slot b) : a = b := by
  unfold slot at h
  have h1 : a.1 = b.1 := by omega
  have h2 : a.2 = b.2 := by omega
  exact Prod.ext h1 h2
theorem slot_lt {n : Nat} {a : Nat × Nat} (h1 : a.1 < n) (h2 : a.2 < 3) : slot a < 3 * n := by unfold slot; omega
/-- A better number of an end. -/
def bet (T : List Int) (a : Nat × Nat) (n : Int) : List Int := T.set (slot a) n
theorem at_bet_same {T : List Int} {a : Nat × Nat} {n : Int} (h : slot a < T.length) : at_ (bet T a n) a = n := by
  unfold at_ bet
  show ((T.set (slot a) n)[slot a]?).getD (-1) = n
  rw [List.getElem?_set_self h]
  rfl
theorem at_bet_other {T : List Int} {a b : Nat × Nat} {n : Int} (ha : a.2 < 3) (hb : b.2 < 3) (h : b ≠ a) : at_ (bet T a n) b = at_ T b := by
  unfold at_ bet
  show ((T.set (slot a) n)[slot b]?).getD (-1) = _
  rw [List.getElem?_set_ne (fun e => h (slot_inj hb ha e.symm))]
  rfl
/-- How much there is left to be bettered. -/
def weight (ap : Int) (T : List Int) : Nat := (T.map fun x => if x < 0 then ap.toNat else x.toNat).sum
theorem weight_set {ap : Int} : ∀ {T : List Int} {i : Nat} {x n : Int}, T[i]? = some x → 0 ≤ n → n < ap → (x < 0 ∨ n < x) → weight ap (T.set i n) < weight ap T
  | [], i, x, n, h, _, _, _ => by simp at h
  | y :: T, 0, x, n, h, h0, h1, h2 => by
    obtain rfl : y = x := by simpa using h
    show ((if n < 0 then ap.toNat else n.toNat) + weight ap T) < ((if y < 0 then ap.toNat else y.toNat) + weight ap T)
    rw [if_neg (by omega)]
    split <;> omega
  | y :: T, i + 1, x, n, h, h0, h1, h2 => by
    have := weight_set (T := T) (i := i) (x := x) (n := n) (by simpa using h) h0 h1 h2
    show (_ + weight ap (T.set i n)) < (_ + weight ap T)
    omega
theorem at_get {T : List Int} {a : Nat × Nat} (h : slot a < T.length) : T[slot a]? = some (at_ T a) := by
  unfold at_
  show _ = some ((T[slot a]?).getD (-1))
  rw [List.getElem?_eq_getElem h]
  rfl
/-- Bettered, a table tells what is so. -/
theorem Sound.bet {p : Plan} {ap : Int} {st : Nat × Nat} {T : List Int} (h : Sound p ap st T) (hst : st.2 < 3) {b : Nat × Nat} {n : Int} (hb1 : b.1 < p.secs.length) (hb2 : b.2 < 3) (h0 : 0 ≤ n) (hn : n < ap) (hr : Reach p st b n) (hlt : at_ T b < 0 ∨ n < at_ T b) : Sound p ap st (Nr.bet T b n) ∧ weight ap (Nr.bet T b n) < weight ap T := by
  have hs : slot b < T.length := by rw [h.len]; exact slot_lt hb1 hb2
  have hne : st ≠ b := by
    rintro rfl
    rw [h.first] at hlt
    omega
  refine ⟨⟨by unfold Nr.bet; rw [List.length_set]; exact h.len, fun a ha1 ha2 => ?_, ?_⟩, weight_set (at_get hs) h0 hn hlt⟩
  · by_cases e : a = b
    · subst e
      rw [at_bet_same hs]
      exact .inr ⟨h0, hn, hr⟩
    · rw [at_bet_other hb2 ha2 e]
      exact h.least a ha1 ha2
  · rw [at_bet_other hb2 hst hne]
    exact h.first
/-- A table in which nothing is told, bettered by the signal's own end. -/
theorem blank_sound {p : Plan} {ap : Int} (hap : 0 < ap) {st : Nat × Nat} {T : List Int} (hl : T.length = 3 * p.secs.length) (hT : ∀ a : Nat × Nat, a.1 < p.secs.length → a.2 < 3 → at_ T a = -1) (h1 : st.1 < p.secs.length) (h2 : st.2 < 3) : Sound p ap st (bet T st 0) := by
  have hs : slot st < T.length := by rw [hl]; exact slot_lt h1 h2
  refine ⟨by unfold bet; rw [List.length_set]; exact hl, fun a ha1 ha2 => ?_, at_bet_same hs⟩
  by_cases e : a = st
  · subst e
    rw [at_bet_same hs]
    exact .inr ⟨Int.le_refl _, hap, .start⟩
  · rw [at_bet_other h2 ha2 e]
    exact .inl (hT a ha1 ha2)
/-- So many sections' ends are blank. -/
def Blank (T : List Int) (n k : Nat) : Prop := T.length = 3 * n ∧ ∀ a : Nat × Nat, a.1 < k → a.2 < 3 → at_ T a = -1
theorem Blank.next {T : List Int} {n k : Nat} (h : Blank T n k) (hk : k < n) : Blank (bet (bet (bet T (k, 0) (-1)) (k, 1) (-1)) (k, 2) (-1)) n (k + 1) := by
  have l1 : (bet T (k, 0) (-1)).length = 3 * n := by unfold bet; rw [List.length_set]; exact h.1
  have l2 : (bet (bet T (k, 0) (-1)) (k, 1) (-1)).length = 3 * n := by unfold bet; rw [List.length_set]; exact l1
  refine ⟨by unfold bet; rw [List.length_set]; exact l2, fun a ha1 ha2 => ?_⟩
  by_cases e2 : a = (k, 2)
  · subst e2
    exact at_bet_same (by rw [l2]; exact slot_lt hk (by show _ < 3; omega))
  rw [at_bet_other (by show _ < 3; omega) ha2 e2]
  by_cases e1 : a = (k, 1)
  · subst e1
    exact at_bet_same (by rw [l1]; exact slot_lt hk (by show _ < 3; omega))
  rw [at_bet_other (by show _ < 3; omega) ha2 e1]
  by_cases e0 : a = (k, 0)
  · subst e0
    exact at_bet_same (by rw [h.1]; exact slot_lt hk (by show _ < 3; omega))
  rw [at_bet_other (by show _ < 3; omega) ha2 e0]
  refine h.2 a ?_ ha2
  rcases Nat.lt_or_ge a.1 k with h3 | h3
  · exact h3
  · exfalso
    have h4 : a.1 = k := by omega
    obtain ⟨s, e⟩ := a
    simp only at h4 ha2
    subst h4
    match e, ha2 with
    | 0, _ => exact e0 rfl
    | 1, _ => exact e1 rfl
    | 2, _ => exact e2 rfl
/-- What one end's ways on tell, as far as from these ends. -/
def ClosedTo (p : Plan) (ap : Int) (T : List Int) (a : Nat × Nat) (n : Int) (k : Nat) : Prop := ∀ from_ : Nat, from_ < k → (∃ x ∈ outs p a.1 from_, x.t = (a.2 : Int)) → ∀ b : Nat × Nat, next p a.1 from_ = ((b.1 : Int), (b.2 : Int), true) → n < ap → 0 ≤ at_ T b ∧ at_ T b ≤ n
theorem ClosedTo.all {p : Plan} {ap : Int} {T : List Int} {a : Nat × Nat} (h : ClosedTo p ap T a (at_ T a + lenAt p a.1) 3) : ClosedAt p ap T a := by
  intro _ b ⟨k, hk, hx, hn⟩ hl
  exact h k hk hx b hn hl
theorem sound_bd {p : Plan} {ap : Int} {st : Nat × Nat} {T : List Int} (h : Sound p ap st T) {a : Nat × Nat} (h1 : a.1 < p.secs.length) (h2 : a.2 < 3) : -1 ≤ at_ T a ∧ (at_ T a < ap ∨ at_ T a = -1) := by
  rcases h.least a h1 h2 with h | ⟨h, h', -⟩ <;> omega
end Go.Proofs.Ytgajdfecajleiaa.Nr
/-
  Tables of all ends in memory: three numbers a section, one section behind the other.
-/
namespace Go.Proofs.Ytgajdfecajleiaa
open Go.RowKit

def tabV (T : List Int) : List Value := T.map fun x => .int .i64 x
theorem tabV_len (T : List Int) : (tabV T).length = T.length := List.length_map ..
abbrev tabO (T : List Int) : Obj := .cells (tabV T).toArray 63
def TabAt (w : World) (b : Nat) (T : List Int) : Prop := w.heap[b]? = some (.cells (tabV T).toArray 63 (0, 0))
theorem TabAt.lt {w : World} {b : Nat} {T : List Int} (h : TabAt w b T) : b < w.heap.size := (Array.getElem?_eq_some_iff.1 h).1
theorem TabAt.cell {w : World} {b : Nat} {T : List Int} (h : TabAt w b T) {s e : Nat} (hs : Nr.slot (s, e) < T.length) : w.cell? ⟨b, s * 3 + e, none⟩ = some (.int .i64 (Nr.at_ T (s, e))) := by
  rw [cell_of_row w b _ _ _ _ h, List.getElem?_toArray]
  unfold tabV
  have := Nr.at_get hs
  rw [List.getElem?_map, show s * 3 + e = Nr.slot (s, e) by unfold Nr.slot; show s * 3 + e = 3 * s + e; omega, this]
  rfl
theorem TabAt.frozen {w : World} {b : Nat} {T : List Int} (h : TabAt w b T) (j : Nat) : w.frozen? ⟨b, j, none⟩ = false := frozen_of_row w b j _ _ h
theorem TabAt.kept {w w' : World} {b B : Nat} {T : List Int} (h : TabAt w b T) (hlt : b < B) (hb : Below B w w') : TabAt w' b T := (hb.block _ hlt).trans h
theorem TabAt.set {w : World} {b : Nat} {T : List Int} (h : TabAt w b T) (s e : Nat) (n : Int) : TabAt (w.setCell ⟨b, s * 3 + e, none⟩ (.int .i64 n)) b (Nr.bet T (s, e) n) := by
  have := heap_setCell_same w b (s * 3 + e) _ _ (.int .i64 n) h
  rw [show (tabV T).toArray.setIfInBounds (s * 3 + e) (.int .i64 n) = (tabV (Nr.bet T (s, e) n)).toArray by
    unfold tabV Nr.bet
    rw [show s * 3 + e = Nr.slot (s, e) by unfold Nr.slot; show s * 3 + e = 3 * s + e; omega, List.map_set]
    simp] at this
  exact this
end Go.Proofs.Ytgajdfecajleiaa
