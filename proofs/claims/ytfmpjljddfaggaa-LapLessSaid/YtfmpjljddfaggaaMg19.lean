/-
  Texts of this claim, merged: LpSpec, LpFacts.
-/
import Derived.Test.YtfmpjljddfaggaaMg16
/-
  Plain mathematics of layer 8: the overlap behind a way's exit, as a search finds it. No program is named here.
-/
namespace Go.Proofs.Ytfmpjljddfaggaa.Lp
open Go Pl Wk

/-- How long a section is; one that there isn't counts nought. -/
def secLen (p : Plan) (s : Int) : Int := match secAt p s with | none => 0 | some x => x.len
/-- How long steps' sections are, together. -/
def len (p : Plan) : List Stp → Int
  | [] => 0
  | x :: l => secLen p x.s + len p l
theorem len_append (p : Plan) : ∀ (l m : List Stp), len p (l ++ m) = len p l + len p m
  | [], m => by rw [List.nil_append]; show _ = 0 + _; omega
  | x :: l, m => by
    show secLen p x.s + len p (l ++ m) = secLen p x.s + len p l + len p m
    rw [len_append p l m]; omega
theorem len_snoc (p : Plan) (l : List Stp) (x : Stp) : len p (l ++ [x]) = len p l + secLen p x.s := by
  rw [len_append]
  show _ + (secLen p x.s + 0) = _
  omega
/-- May a search not enter that section? -/
def bars (b : Int) (way st : List Stp) (s : Int) : Bool := decide (s = b) || (within way s || within st s)
/-- Does an overlap end with that step? -/
def lasts (p : Plan) (sum s : Int) (x : Stp) : Bool := !(next p s x.t).2.2 || decide (p.ov ≤ sum)
def seek (p : Plan) (go : Int → Int → List Stp → Nat → Option (List Stp) × Nat) (s sum : Int) (st : List Stp) : List Stp → Nat → Option (List Stp) × Nat
  | [], n => (none, n)
  | x :: l, n => if lasts p sum s x then (some (st ++ [x]), n) else
      match go (next p s x.t).1 (next p s x.t).2.1 (st ++ [x]) n with
      | (some r, m) => (some r, m)
      | (none, m) => seek p go s sum st l m
/-- What a search finds by entering a section, and how many it has entered then. -/
def enter (p : Plan) (b : Int) (way : List Stp) : Nat → Int → Int → List Stp → Int → Nat → Option (List Stp) × Nat
  | 0, _, _, _, _, n => (none, n + 1)
  | k + 1, s, f, st, sum, n => if decide (400 < n + 1) || bars b way st s then (none, n + 1) else
      seek p (fun s' f' st' n' => enter p b way k s' f' st' (sum + secLen p s) n') s (sum + secLen p s) st (outs p s f) (n + 1)
def hunt (p : Plan) (b : Int) (way : List Stp) (x : Sig) : Option (List Stp) × Nat := enter p b way 16 (next p x.sec x.en).1 (next p x.sec x.en).2.1 [] 0 0
def ofSig (p : Plan) (b : Int) (way : List Stp) (x : Sig) : List Stp × Int :=
  if (next p x.sec x.en).2.2 then (if 400 < (hunt p b way x).2 then ([], 10) else ((hunt p b way x).1.getD [], 0)) else ([], 0)
/-- The overlap of a way from a signal, or the error. -/
def of (p : Plan) (i : Int) (w : Cr.Way) : List Stp × Int :=
  match Cr.sigAt p i with
  | none => ([], 4)
  | some g => if (p.sigs.length : Int) ≤ w.exit then ([], 4) else if w.exit < 0 ∨ p.ov = 0 then ([], 0) else
      match Cr.sigAt p w.exit with
      | none => ([], 4)
      | some x => ofSig p g.sec w.steps x

/-! ### What a search finds -/
/-- From a section entered at an end, behind some steps, these steps go on, and end as an overlap does. -/
def Chain (p : Plan) (b : Int) (way : List Stp) : Int → Int → List Stp → Int → List Stp → Prop
  | _, _, _, _, [] => False
  | s, f, st, sum, x :: t => (s ≠ b ∧ within way s = false ∧ within st s = false ∧ x ∈ outs p s f) ∧
      ((lasts p (sum + secLen p s) s x = true ∧ t = []) ∨ (lasts p (sum + secLen p s) s x = false ∧ Chain p b way (next p s x.t).1 (next p s x.t).2.1 (st ++ [x]) (sum + secLen p s) t))
theorem bars_false {b s : Int} {way st : List Stp} (h : bars b way st s = false) : s ≠ b ∧ within way s = false ∧ within st s = false := by
  unfold bars at h
  rw [Bool.or_eq_false_iff, Bool.or_eq_false_iff] at h
  exact ⟨of_decide_eq_false h.1, h.2.1, h.2.2⟩
theorem seek_found {p : Plan} {go : Int → Int → List Stp → Nat → Option (List Stp) × Nat} {s sum : Int} {st : List Stp} {Q : Stp → List Stp → Prop} :
    ∀ (l : List Stp) (n : Nat) {r : List Stp} {m : Nat}, (∀ x ∈ l, lasts p sum s x = true → Q x []) → (∀ x ∈ l, lasts p sum s x = false → ∀ n r m, go (next p s x.t).1 (next p s x.t).2.1 (st ++ [x]) n = (some r, m) → ∃ t, r = st ++ x :: t ∧ Q x t) → seek p go s sum st l n = (some r, m) → ∃ x t, r = st ++ x :: t ∧ Q x t
  | [], n, r, m, _, _, h => by unfold seek at h; cases h
  | x :: l, n, r, m, h1, h2, h => by
    unfold seek at h
    cases hl : lasts p sum s x with
    | true =>
      rw [hl, if_pos rfl] at h
      cases h
      exact ⟨x, [], rfl, h1 x (List.mem_cons_self ..) hl⟩
    | false =>
      rw [hl, if_neg (by decide)] at h
      split at h
      · rename_i r' m' hg
        cases h
        obtain ⟨t, ht, hq⟩ := h2 x (List.mem_cons_self ..) hl n _ _ hg
        exact ⟨x, t, ht, hq⟩
      · exact seek_found l _ (fun y hy => h1 y (List.mem_cons_of_mem _ hy)) (fun y hy => h2 y (List.mem_cons_of_mem _ hy)) h
theorem enter_found (p : Plan) (b : Int) (way : List Stp) : ∀ (k : Nat) (s f : Int) (st : List Stp) (sum : Int) (n : Nat) {r : List Stp} {m : Nat}, enter p b way k s f st sum n = (some r, m) → ∃ t, r = st ++ t ∧ t.length ≤ k ∧ Chain p b way s f st sum t
  | 0, s, f, st, sum, n, r, m, h => by unfold enter at h; cases h
  | k + 1, s, f, st, sum, n, r, m, h => by
    unfold enter at h
    split at h
    · cases h
    · rename_i hb
      rw [Bool.not_eq_true, Bool.or_eq_false_iff] at hb
      obtain ⟨b1, b2, b3⟩ := bars_false hb.2
      obtain ⟨x, t, ht, hx, hl, hc⟩ := seek_found (Q := fun x t => x ∈ outs p s f ∧ t.length ≤ k ∧ ((lasts p (sum + secLen p s) s x = true ∧ t = []) ∨ (lasts p (sum + secLen p s) s x = false ∧ Chain p b way (next p s x.t).1 (next p s x.t).2.1 (st ++ [x]) (sum + secLen p s) t))) (outs p s f) (n + 1)
        (fun x hx hl => ⟨hx, Nat.zero_le _, .inl ⟨hl, rfl⟩⟩)
        (fun x hx hl n r m hg => by
          obtain ⟨t, ht, h1, h2⟩ := enter_found p b way k _ _ _ _ _ hg
          exact ⟨t, by rw [ht, List.append_assoc]; rfl, hx, h1, .inr ⟨hl, h2⟩⟩) h
      exact ⟨x :: t, ht, by rw [List.length_cons]; omega, ⟨b1, b2, b3, hx⟩, hc⟩
/-! ### How many sections it enters -/
theorem seek_le {p : Plan} {go : Int → Int → List Stp → Nat → Option (List Stp) × Nat} {s sum : Int} {st : List Stp} {B : Nat} (hg : ∀ s f st n, n ≤ (go s f st n).2 ∧ (go s f st n).2 ≤ n + B) :
    ∀ (l : List Stp) (n : Nat), n ≤ (seek p go s sum st l n).2 ∧ (seek p go s sum st l n).2 ≤ n + l.length * B
  | [], n => by unfold seek; exact ⟨Nat.le_refl _, Nat.le_add_right _ _⟩
  | x :: l, n => by
    unfold seek
    rw [List.length_cons, Nat.succ_mul]
    cases hl : lasts p sum s x with
    | true =>
      rw [if_pos rfl]
      exact ⟨Nat.le_refl _, Nat.le_add_right _ _⟩
    | false =>
      rw [if_neg (by decide)]
      have h1 := hg (next p s x.t).1 (next p s x.t).2.1 (st ++ [x]) n
      split
      · rename_i r m hq
        rw [hq] at h1
        exact ⟨h1.1, by simp only at h1 ⊢; omega⟩
      · rename_i m hq
        rw [hq] at h1
        have h2 := seek_le (p := p) (s := s) (sum := sum) (st := st) hg l m
        simp only at h1
        omega
theorem enter_le (p : Plan) (b : Int) (way : List Stp) : ∀ (k : Nat) (s f : Int) (st : List Stp) (sum : Int) (n : Nat), n < (enter p b way k s f st sum n).2 ∧ (enter p b way k s f st sum n).2 ≤ n + (2 ^ (k + 1) - 1)
  | 0, s, f, st, sum, n => by unfold enter; exact ⟨Nat.lt_succ_self _, by simp⟩
  | k + 1, s, f, st, sum, n => by
    have hp : 1 ≤ 2 ^ k := Nat.one_le_two_pow
    have e1 : 2 ^ (k + 1) = 2 * 2 ^ k := by rw [Nat.pow_succ, Nat.mul_comm]
    have e2 : 2 ^ (k + 1 + 1) = 2 * 2 ^ (k + 1) := by rw [Nat.pow_succ, Nat.mul_comm]
    unfold enter
    split
    · exact ⟨Nat.lt_succ_self _, by simp only; omega⟩
    · have h := seek_le (p := p) (go := fun s' f' st' n' => enter p b way k s' f' st' (sum + secLen p s) n') (s := s) (sum := sum + secLen p s) (st := st) (B := 2 ^ (k + 1) - 1) (fun s' f' st' n' => ⟨Nat.le_of_lt (enter_le p b way k s' f' st' _ n').1, (enter_le p b way k s' f' st' _ n').2⟩) (outs p s f) (n + 1)
      have q1 : (outs p s f).length * (2 ^ (k + 1) - 1) ≤ 2 * (2 ^ (k + 1) - 1) := Nat.mul_le_mul_right _ (outs_len p s f)
      omega
/-! ### With a lesser length asked for -/
theorem seek_less {p q : Plan} {g h : Int → Int → List Stp → Nat → Option (List Stp) × Nat} {s sum : Int} {st : List Stp} (hn : ∀ s e, next q s e = next p s e) (ho : q.ov ≤ p.ov)
    (hgm : ∀ s f st n, n ≤ (g s f st n).2)
    (hgh : ∀ s f st a c, c ≤ a → (g s f st a).2 ≤ 400 → (h s f st c).2 ≤ (g s f st a).2 ∧ ((g s f st a).1.isSome = true → (h s f st c).1.isSome = true)) :
    ∀ (l : List Stp) (a c : Nat), c ≤ a → (seek p g s sum st l a).2 ≤ 400 → (seek q h s sum st l c).2 ≤ (seek p g s sum st l a).2 ∧ ((seek p g s sum st l a).1.isSome = true → (seek q h s sum st l c).1.isSome = true)
  | [], a, c, hc, _ => by unfold seek; exact ⟨hc, id⟩
  | x :: l, a, c, hc, h4 => by
    have hgs : ∀ l n, n ≤ (seek p g s sum st l n).2 := by
      intro l
      induction l with
      | nil => intro n; unfold seek; exact Nat.le_refl _
      | cons y l ih =>
        intro n
        unfold seek
        split
        · exact Nat.le_refl _
        · have h1 := hgm (next p s y.t).1 (next p s y.t).2.1 (st ++ [y]) n
          split
          · rename_i r m hq
            rw [hq] at h1; exact h1
          · rename_i m hq
            rw [hq] at h1
            exact Nat.le_trans h1 (ih m)
    have h0 := hgs (x :: l) a
    have hl : lasts p sum s x = true → lasts q sum s x = true := by
      unfold lasts
      rw [hn]
      intro h'
      rw [Bool.or_eq_true] at h' ⊢
      rcases h' with h' | h'
      · exact .inl h'
      · refine .inr (decide_eq_true ?_)
        have := of_decide_eq_true h'
        omega
    unfold seek at h4 h0 ⊢
    cases hlq : lasts q sum s x with
    | true =>
      rw [if_pos (show true = true from rfl)]
      exact ⟨Nat.le_trans hc h0, fun _ => rfl⟩
    | false =>
      have hlp : lasts p sum s x = false := by
        cases h' : lasts p sum s x with
        | false => rfl
        | true => rw [hl h'] at hlq; cases hlq
      rw [hlp] at h4 h0 ⊢
      simp only [Bool.false_eq_true, if_false, hn] at h4 h0 ⊢
      have h1 := hgm (next p s x.t).1 (next p s x.t).2.1 (st ++ [x]) a
      have h2 := hgh (next p s x.t).1 (next p s x.t).2.1 (st ++ [x]) a c hc
      generalize g (next p s x.t).1 (next p s x.t).2.1 (st ++ [x]) a = rg at h1 h2 h4 h0 ⊢
      generalize h (next p s x.t).1 (next p s x.t).2.1 (st ++ [x]) c = rh at h2 ⊢
      obtain ⟨og, mg⟩ := rg
      obtain ⟨oh, mh⟩ := rh
      cases og with
      | some r =>
        simp only at h1 h2 h4 h0 ⊢
        obtain ⟨h5, h6⟩ := h2 h4
        have h7 := h6 rfl
        cases oh with
        | none => cases h7
        | some r' => exact ⟨h5, fun _ => rfl⟩
      | none =>
        simp only at h1 h2 h4 h0 ⊢
        have h8 := hgs l mg
        obtain ⟨h5, -⟩ := h2 (by omega)
        cases oh with
        | some r' => exact ⟨by simp only; omega, fun _ => rfl⟩
        | none => exact seek_less hn ho hgm hgh l mg mh h5 h4
theorem enter_less {p q : Plan} (hn : ∀ s e, next q s e = next p s e) (hu : ∀ s f, outs q s f = outs p s f) (hs : ∀ s, secLen q s = secLen p s) (ho : q.ov ≤ p.ov) (b : Int) (way : List Stp) :
    ∀ (k : Nat) (s f : Int) (st : List Stp) (sum : Int) (a c : Nat), c ≤ a → (enter p b way k s f st sum a).2 ≤ 400 → (enter q b way k s f st sum c).2 ≤ (enter p b way k s f st sum a).2 ∧ ((enter p b way k s f st sum a).1.isSome = true → (enter q b way k s f st sum c).1.isSome = true)
  | 0, s, f, st, sum, a, c, hc, h4 => by unfold enter; exact ⟨by simp only; omega, id⟩
  | k + 1, s, f, st, sum, a, c, hc, h4 => by
    have h0 := (enter_le p b way (k + 1) s f st sum a).1
    have d1 : decide (400 < a + 1) = false := decide_eq_false (by omega)
    have d2 : decide (400 < c + 1) = false := decide_eq_false (by omega)
    unfold enter at h4 ⊢
    rw [d1] at h4 ⊢
    rw [d2]
    simp only [Bool.false_or] at h4 ⊢
    cases hb : bars b way st s with
    | true => rw [hb] at h4; rw [if_pos rfl, if_pos rfl]; exact ⟨by simp only; omega, id⟩
    | false =>
      rw [hb] at h4
      simp only [Bool.false_eq_true, if_false] at h4 ⊢
      rw [hu, hs]
      exact seek_less hn ho (fun s' f' st' n => Nat.le_of_lt (enter_le p b way k s' f' st' _ n).1) (fun s' f' st' a' c' hc' h' => enter_less hn hu hs ho b way k s' f' st' _ a' c' hc' h') (outs p s f) (a + 1) (c + 1) (by omega) h4
end Go.Proofs.Ytfmpjljddfaggaa.Lp
/-
  Plain mathematics of layer 8: how great a station's numbers are, where ends lead, an overlap step by step, how long it is, with a lesser length asked for, with more than there is. No program is named here.
-/
namespace Go.Proofs.Ytfmpjljddfaggaa.Lp
open Go Pl Wk

/-! ### A station's numbers -/
structure Meas (p : Plan) : Prop where
  ov : 0 ≤ p.ov ∧ p.ov ≤ 1125899906842624
  len : ∀ (i : Nat) (s : Sec), p.secs[i]? = some s → 0 ≤ s.len ∧ s.len ≤ 1099511627776
  sig : ∀ (i : Nat) (s : Sec), p.secs[i]? = some s → ∀ e, e < 3 → -1 ≤ (s.get e).sig ∧ (s.get e).sig < p.sigs.length
theorem parseN_le {d : List UInt8} {m : Int} (h : Fig.parseB d m = true) : Fig.parseN d m ≤ m := by
  unfold Fig.parseN
  rw [if_pos h]
  unfold Fig.parseB at h
  rw [Bool.and_eq_true] at h
  exact of_decide_eq_true h.2
theorem most_le (k : Int) : It.most k ≤ 1099511627776 := by
  unfold It.most
  split
  · exact Int.le_refl _
  · split
    · exact Int.le_refl _
    · split
      · decide
      · split
        · decide
        · exact Int.le_refl _
theorem parse_le {l : List UInt8} {x : It.Itm} (h : It.parse l = some x) : x.n ≤ 1099511627776 := by
  unfold It.parse at h
  split at h
  · cases hw : Ln.words l with
    | nil => rw [hw] at h; cases h
    | cons a t =>
      rw [hw] at h
      unfold It.parseW at h
      simp only at h
      generalize It.kind a = k at h
      unfold It.parseK at h
      split at h
      · split at h
        · split at h
          · rename_i hb
            cases h
            exact Int.le_trans (parseN_le hb) (most_le k)
          · cases h
        · cases h
      · split at h
        · split at h
          · split at h
            · rename_i hb
              cases h
              simp only [Bool.and_eq_true] at hb
              exact parseN_le hb.1.2
            · cases h
          · cases h
        · split at h
          · split at h
            · split at h
              · cases h; exact (by decide : (0 : Int) ≤ 1099511627776)
              · cases h
            · cases h
          · split at h
            · split at h
              · split at h
                · cases h; exact (by decide : (0 : Int) ≤ 1099511627776)
                · cases h
              · cases h
            · split at h
              · split at h
                · split at h
                  · cases h; exact (by decide : (0 : Int) ≤ 1099511627776)
                  · cases h
                · cases h
              · cases h
  · cases h
theorem right_le {x : It.Itm} (h : It.right x = true) : 0 ≤ x.n ∧ x.n ≤ 1099511627776 := by
  unfold It.right at h
  rw [Bool.and_eq_true] at h
  exact ⟨of_decide_eq_true h.1, parse_le (of_decide_eq_true h.2)⟩
theorem num_le {L : List It.Itm} (hL : Ok L) (k : Int) : 0 ≤ num L k ∧ num L k ≤ 1099511627776 := by
  unfold num
  cases h : L.find? (fun x => decide (x.k = k)) with
  | none => exact ⟨Int.le_refl _, by decide⟩
  | some x => exact right_le (hL.right x (List.mem_of_find?_eq_some h))
theorem meas_fin {L : List It.Itm} (hL : Ok L) (hS : Pl.Shut L) : Meas (fin L) where
  ov := by
    have h := num_le hL 1
    show 0 ≤ num L 1 ∧ num L 1 ≤ 1125899906842624
    omega
  len i s hs := by
    obtain ⟨x, -, hx, -, -, rfl⟩ := secs_at hL hs
    exact right_le (hL.right x (mem_secs.1 hx).1)
  sig i s hs e he := by
    rcases end_cases hL hS hs he with h | ⟨_, -, -, -, -, -, -, -, h⟩ | ⟨_, _, _, _, -, -, -, -, -, -, -, -, -, -, h | ⟨k, g, hg, h, -, -⟩⟩
    · rw [h]; exact ⟨by decide, by show (-1 : Int) < _; omega⟩
    · rw [h]; exact ⟨by decide, by omega⟩
    · rw [h]; exact ⟨by decide, by omega⟩
    · rw [h]
      have := (List.getElem?_eq_some_iff.1 hg).1
      exact ⟨by omega, by omega⟩
theorem secLen_bd {p : Plan} (hm : Meas p) (s : Int) : 0 ≤ secLen p s ∧ secLen p s ≤ 1099511627776 := by
  unfold secLen secAt
  split
  · exact ⟨Int.le_refl _, by decide⟩
  · rename_i x h
    split at h
    · cases h
    · exact hm.len _ _ h
theorem len_bd {p : Plan} (hm : Meas p) : ∀ (l : List Stp), 0 ≤ len p l ∧ len p l ≤ l.length * 1099511627776
  | [] => ⟨Int.le_refl _, by show (0 : Int) ≤ _; simp⟩
  | x :: l => by
    have h1 := len_bd hm l
    have h2 := secLen_bd hm x.s
    rw [List.length_cons]
    show 0 ≤ secLen p x.s + len p l ∧ secLen p x.s + len p l ≤ _
    omega
theorem endOf_some {p : Plan} {s e : Int} {x : En} (h : endOf p s e = some x) : ∃ (i k : Nat) (y : Sec), s = i ∧ e = k ∧ k < 3 ∧ p.secs[i]? = some y ∧ x = y.get k := by
  unfold endOf at h
  rcases sec_ways p s with ⟨-, h1⟩ | ⟨i, rfl, ⟨-, h1⟩ | ⟨y, hy, h1⟩⟩
  · rw [h1] at h; cases h
  · rw [h1] at h; cases h
  · rw [h1] at h
    simp only at h
    split at h
    · rename_i hi
      have := isEnd_lt hi
      cases h
      exact ⟨i, e.toNat, y, rfl, by omega, by omega, hy, rfl⟩
    · cases h
theorem signal_bd {p : Plan} (hm : Meas p) (s e : Int) : -1 ≤ signal p s e ∧ signal p s e < p.sigs.length := by
  unfold signal
  split
  · exact ⟨Int.le_refl _, by omega⟩
  · rename_i x h
    obtain ⟨i, k, y, -, -, hk, hy, rfl⟩ := endOf_some h
    exact hm.sig i y hy k hk
theorem next_in {p : Plan} (hf : Fit p) {s e : Int} (h : (next p s e).2.2 = true) : ∃ (j f : Nat), (next p s e).1 = j ∧ j < p.secs.length ∧ (next p s e).2.1 = f ∧ f < 3 := by
  unfold next at h ⊢
  split at h
  · cases h
  · rename_i x hx
    split at h
    · cases h
    · rename_i h0
      obtain ⟨i, k, y, -, -, hk, hy, rfl⟩ := endOf_some hx
      obtain ⟨h1, h2, h3⟩ := hf.ends i y hy k hk
      have h4 := h3 (by omega)
      rw [if_neg h0]
      exact ⟨((y.get k).goes).toNat, ((y.get k).at_).toNat, by simp only; omega, by omega, by simp only; omega, by omega⟩
theorem secLen_at {p : Plan} {i : Nat} {x : Sec} (h : p.secs[i]? = some x) : secLen p (i : Int) = x.len := by
  unfold secLen
  rw [secAt_some h]
theorem chain_exit {p : Plan} {b : Int} : ∀ {t : List Stp} {s f : Int} {st : List Stp} {e : Int}, Cr.Chain p b s f st t e → ∃ s' f', e = signal p s' f'
  | [], _, _, _, _, h => by unfold Cr.Chain at h; exact h.elim
  | x :: t, s, f, st, e, h => by
    unfold Cr.Chain at h
    rcases h.2 with ⟨-, -, h⟩ | ⟨-, h⟩
    · exact ⟨_, _, h⟩
    · exact chain_exit h
/-- A way's exit is a signal's number, or none. -/
theorem way_exit {p : Plan} (hm : Meas p) {i : Int} {w : Cr.Way} (hw : w ∈ (Cr.of p i).1) : -1 ≤ w.exit ∧ w.exit < p.sigs.length := by
  unfold Cr.of at hw
  split at hw
  · cases hw
  · obtain ⟨-, -, -, h⟩ := Cr.of_way hw
    obtain ⟨s', f', h⟩ := chain_exit h
    rw [h]
    exact signal_bd hm s' f'

/-! ### An overlap -/
theorem chain_pos {p : Plan} {b s f sum : Int} {way st t : List Stp} (h : Chain p b way s f st sum t) : 0 < t.length := by
  cases t with
  | nil => unfold Chain at h; exact h.elim
  | cons x t => exact Nat.succ_pos _
theorem ofSig_cases (p : Plan) (b : Int) (way : List Stp) (x : Sig) : ofSig p b way x = ([], 10) ∨ ofSig p b way x = ([], 0) ∨ ((hunt p b way x).2 ≤ 400 ∧ ∃ l, (hunt p b way x).1 = some l ∧ ofSig p b way x = (l, 0) ∧ (next p x.sec x.en).2.2 = true ∧ l.length ≤ 16 ∧ Chain p b way (next p x.sec x.en).1 (next p x.sec x.en).2.1 [] 0 l) := by
  unfold ofSig
  split
  · rename_i hn
    split
    · exact .inl rfl
    · rename_i h4
      cases hh : (hunt p b way x).1 with
      | none => exact .inr (.inl rfl)
      | some l =>
        obtain ⟨t, h1, h2, h3⟩ := enter_found p b way 16 (next p x.sec x.en).1 (next p x.sec x.en).2.1 [] 0 0 (r := l) (m := (hunt p b way x).2) (by rw [← hh]; rfl)
        rw [List.nil_append] at h1
        subst h1
        exact .inr (.inr ⟨by omega, l, rfl, rfl, hn, h2, h3⟩)
  · exact .inr (.inl rfl)
theorem of_eq {p : Plan} {i : Int} {g : Sig} (hg : Cr.sigAt p i = some g) {w : Cr.Way} (hw : w.exit < p.sigs.length) : (w.exit < 0 ∨ p.ov = 0) ∧ of p i w = ([], 0) ∨ 0 ≤ w.exit ∧ p.ov ≠ 0 ∧ ∃ x, Cr.sigAt p w.exit = some x ∧ of p i w = ofSig p g.sec w.steps x := by
  unfold of
  rw [hg]
  simp only
  rw [if_neg (by omega)]
  by_cases h : w.exit < 0 ∨ p.ov = 0
  · rw [if_pos h]
    exact .inl ⟨h, rfl⟩
  · rw [if_neg h]
    rcases Cr.sigAt_ways p w.exit with ⟨h1, -⟩ | ⟨k, hk, ⟨h1, -⟩ | ⟨x, -, hx⟩⟩
    · exact absurd (.inl h1) h
    · omega
    · rw [hk, hx]
      exact .inr ⟨by omega, fun h' => h (.inr h'), x, rfl, rfl⟩
theorem of_steps {p : Plan} {i : Int} {w : Cr.Way} : (of p i w).1.length ≤ 16 := by
  unfold of
  split
  · exact Nat.zero_le _
  · split
    · exact Nat.zero_le _
    · split
      · exact Nat.zero_le _
      · split
        · exact Nat.zero_le _
        · rename_i g _ _ _ _ x _
          rcases ofSig_cases p g.sec w.steps x with h | h | ⟨-, l, -, h, -, h2, -⟩
          · rw [h]; exact Nat.zero_le _
          · rw [h]; exact Nat.zero_le _
          · rw [h]; exact h2
/-- Where one stands behind k steps of an overlap: it goes on from there, or ends there. -/
def Reach (p : Plan) (b : Int) (way t : List Stp) (k : Nat) (at_ en : Int) : Prop :=
  (k < t.length ∧ (next p at_ en).2.2 = true ∧ len p (t.take k) < p.ov ∧ Chain p b way (next p at_ en).1 (next p at_ en).2.1 (t.take k) (len p (t.take k)) (t.drop k)) ∨
    (k = t.length ∧ ((next p at_ en).2.2 = false ∨ p.ov ≤ len p t) ∧ len p t - secLen p at_ < p.ov)
theorem lasts_false {p : Plan} {sum s : Int} {x : Stp} (h : lasts p sum s x = false) : (next p s x.t).2.2 = true ∧ sum < p.ov := by
  unfold lasts at h
  rw [Bool.or_eq_false_iff] at h
  exact ⟨by simpa using h.1, by have := of_decide_eq_false h.2; omega⟩
theorem lasts_true {p : Plan} {sum s : Int} {x : Stp} (h : lasts p sum s x = true) : (next p s x.t).2.2 = false ∨ p.ov ≤ sum := by
  unfold lasts at h
  rw [Bool.or_eq_true] at h
  rcases h with h | h
  · exact .inl (by simpa using h)
  · exact .inr (of_decide_eq_true h)
theorem reach_next {p : Plan} {b : Int} {way t : List Stp} {k : Nat} {at_ en : Int} (h : Reach p b way t k at_ en) {y : Stp} (hy : t[k]? = some y) :
    (next p at_ en).2.2 = true ∧ y ∈ outs p (next p at_ en).1 (next p at_ en).2.1 ∧ y.s ≠ b ∧ within way y.s = false ∧ within (t.take k) y.s = false ∧ Reach p b way t (k + 1) y.s y.t := by
  have hlt := (List.getElem?_eq_some_iff.1 hy).1
  rcases h with ⟨-, h1, h0, h2⟩ | ⟨h1, -⟩
  · have hd : t.drop k = y :: t.drop (k + 1) := by
      rw [List.drop_eq_getElem_cons hlt]
      rw [(List.getElem?_eq_some_iff.1 hy).2]
    have ht : t.take (k + 1) = t.take k ++ [y] := by
      rw [List.take_add_one, hy]; rfl
    rw [hd] at h2
    unfold Chain at h2
    obtain ⟨⟨g1, g2, g3, g5⟩, g4⟩ := h2
    have hs := Cr.outs_sec g5
    rw [← hs] at g1 g2 g3 g4
    refine ⟨h1, g5, g1, g2, g3, ?_⟩
    have hl : len p (t.take (k + 1)) = len p (t.take k) + secLen p y.s := by rw [ht, len_snoc]
    rcases g4 with ⟨g6, g7⟩ | ⟨g6, g7⟩
    · have hk : k + 1 = t.length := by
        have := congrArg List.length g7
        rw [List.length_drop, List.length_nil] at this
        omega
      have hw : len p t = len p (t.take k) + secLen p y.s := by rw [← hl, hk, List.take_length]
      refine .inr ⟨hk, ?_, by omega⟩
      rcases lasts_true g6 with h | h
      · exact .inl h
      · exact .inr (by omega)
    · refine .inl ⟨?_, (lasts_false g6).1, by rw [hl]; exact (lasts_false g6).2, by rw [hl, ht]; exact g7⟩
      have := chain_pos g7
      rw [List.length_drop] at this
      omega
  · omega
theorem reach_end {p : Plan} {b : Int} {way t : List Stp} {at_ en : Int} (h : Reach p b way t t.length at_ en) : ((next p at_ en).2.2 = false ∨ p.ov ≤ len p t) ∧ len p t - secLen p at_ < p.ov := by
  rcases h with ⟨h1, -⟩ | ⟨-, h2⟩
  · omega
  · exact h2
/-- What is found, if anything: steps from where the exit leads. -/
theorem of_cases {p : Plan} (hm : Meas p) {i : Int} {g : Sig} (hg : Cr.sigAt p i = some g) {w : Cr.Way} (hw : w.exit < p.sigs.length) : of p i w = ([], 10) ∨ of p i w = ([], 0) ∨
    ((of p i w).2 = 0 ∧ 0 ≤ w.exit ∧ p.ov ≠ 0 ∧ ∃ x, Cr.sigAt p w.exit = some x ∧ 0 < (of p i w).1.length ∧ Reach p g.sec w.steps (of p i w).1 0 x.sec x.en) := by
  rcases of_eq hg hw with ⟨-, h⟩ | ⟨h0, h1, x, hx, h⟩
  · exact .inr (.inl h)
  · rw [h]
    rcases ofSig_cases p g.sec w.steps x with h2 | h2 | ⟨-, l, -, h2, h3, -, h4⟩
    · exact .inl h2
    · exact .inr (.inl h2)
    · rw [h2]
      have hov := hm.ov
      exact .inr (.inr ⟨rfl, h0, h1, x, hx, chain_pos h4, .inl ⟨chain_pos h4, h3, (show (0 : Int) < p.ov by omega), h4⟩⟩)

/-! ### With a lesser length asked for -/
def with_ (p : Plan) (o : Int) : Plan := { p with ov := o }
theorem ofSig_less {p : Plan} {o : Int} (ho : o ≤ p.ov) {b : Int} {way : List Stp} {x : Sig} (h2 : (ofSig p b way x).1 ≠ []) : (ofSig (with_ p o) b way x).2 = 0 ∧ (ofSig (with_ p o) b way x).1 ≠ [] := by
  rcases ofSig_cases p b way x with h | h | ⟨h4, l, hl, -, hn, -, -⟩
  · rw [h] at h2; exact absurd rfl h2
  · rw [h] at h2; exact absurd rfl h2
  · obtain ⟨k1, k2⟩ := enter_less (p := p) (q := with_ p o) (fun _ _ => rfl) (fun _ _ => rfl) (fun _ => rfl) ho b way 16 (next p x.sec x.en).1 (next p x.sec x.en).2.1 [] 0 0 0 (Nat.le_refl _) h4
    have k3 : (hunt (with_ p o) b way x).1.isSome = true := k2 (by show (hunt p b way x).1.isSome = true; rw [hl]; rfl)
    have k4 : (hunt (with_ p o) b way x).2 ≤ (hunt p b way x).2 := k1
    have hn' : (next (with_ p o) x.sec x.en).2.2 = true := hn
    rcases ofSig_cases (with_ p o) b way x with h | h | ⟨-, m, -, h, -, -, h5⟩
    · unfold ofSig at h
      rw [if_pos hn', if_neg (by omega)] at h
      exact absurd (congrArg Prod.snd h) (show (0 : Int) ≠ 10 by decide)
    · unfold ofSig at h
      rw [if_pos hn', if_neg (by omega)] at h
      cases hq : (hunt (with_ p o) b way x).1 with
      | none => rw [hq] at k3; cases k3
      | some m =>
        obtain ⟨t, e1, -, e3⟩ := enter_found (with_ p o) b way 16 (next p x.sec x.en).1 (next p x.sec x.en).2.1 [] 0 0 (r := m) (m := (hunt (with_ p o) b way x).2) (by rw [← hq]; rfl)
        rw [hq] at h
        have e4 := chain_pos e3
        rw [List.nil_append] at e1
        rw [← e1, show m = [] from congrArg Prod.fst h] at e4
        exact absurd e4 (Nat.lt_irrefl _)
    · rw [h]
      refine ⟨rfl, fun e => ?_⟩
      have := chain_pos h5
      rw [show m = [] from e] at this
      exact absurd this (Nat.lt_irrefl _)
theorem of_less {p : Plan} {o : Int} (ho : o ≤ p.ov) (h0 : o ≠ 0) {i : Int} {g : Sig} (hg : Cr.sigAt p i = some g) {w : Cr.Way} (hw : w.exit < p.sigs.length) (h2 : (of p i w).1 ≠ []) : (of (with_ p o) i w).2 = 0 ∧ (of (with_ p o) i w).1 ≠ [] := by
  rcases of_eq hg hw with ⟨-, h⟩ | ⟨h3, h1, x, hx, h⟩
  · rw [h] at h2; exact absurd rfl h2
  · rcases of_eq (p := with_ p o) (i := i) (g := g) hg (w := w) hw with ⟨h4, -⟩ | ⟨-, -, y, hy, h5⟩
    · rcases h4 with h4 | h4
      · omega
      · exact absurd h4 h0
    · have hxy : Cr.sigAt p w.exit = some y := hy
      rw [hx] at hxy
      cases hxy
      rw [h] at h2
      rw [h5]
      exact ofSig_less ho h2
theorem of_nought {p : Plan} {i : Int} {g : Sig} (hg : Cr.sigAt p i = some g) {w : Cr.Way} (hw : w.exit < p.sigs.length) (h : w.exit < 0 ∨ p.ov = 0) : of p i w = ([], 0) := by
  rcases of_eq hg hw with ⟨-, h'⟩ | ⟨h3, h1, -⟩
  · exact h'
  · rcases h with h | h
    · omega
    · exact absurd h h1

/-! ### With more asked for than there is -/
theorem chain_apart {p : Plan} {b : Int} {way : List Stp} : ∀ {t : List Stp} {s f : Int} {st : List Stp} {sum : Int}, Chain p b way s f st sum t → (t.map (·.s)).Nodup ∧ ∀ x ∈ t, within st x.s = false
  | [], _, _, _, _, h => by unfold Chain at h; exact h.elim
  | x :: t, s, f, st, sum, h => by
    unfold Chain at h
    obtain ⟨⟨-, -, h1, h2⟩, h3⟩ := h
    have hs := Cr.outs_sec h2
    rw [← hs] at h1
    rcases h3 with ⟨-, rfl⟩ | ⟨-, h3⟩
    · refine ⟨by simp, fun y hy => ?_⟩
      rw [List.mem_singleton] at hy
      rw [hy]; exact h1
    · obtain ⟨k1, k2⟩ := chain_apart h3
      refine ⟨?_, fun y hy => ?_⟩
      · rw [List.map_cons, List.nodup_cons]
        refine ⟨fun hm => ?_, k1⟩
        obtain ⟨y, hy, he⟩ := List.mem_map.1 hm
        have := k2 y hy
        unfold within at this
        rw [List.any_append, Bool.or_eq_false_iff] at this
        have h4 := this.2
        simp only [List.any_cons, List.any_nil, Bool.or_false, decide_eq_false_iff_not] at h4
        exact h4 he.symm
      · rcases List.mem_cons.1 hy with rfl | hy
        · exact h1
        · have := k2 y hy
          unfold within at this ⊢
          rw [List.any_append, Bool.or_eq_false_iff] at this
          exact this.1
/-- A section's length among the first n. -/
def lenTo (p : Plan) (n : Nat) (s : Int) : Int := if 0 ≤ s ∧ s < n then secLen p s else 0
def sumTo (p : Plan) : Nat → Int
  | 0 => 0
  | n + 1 => sumTo p n + secLen p (n : Int)
def sumS (f : Int → Int) : List Int → Int
  | [] => 0
  | s :: l => f s + sumS f l
theorem sumS_same {f g : Int → Int} : ∀ (l : List Int), (∀ s ∈ l, f s = g s) → sumS f l = sumS g l
  | [], _ => rfl
  | s :: l, h => by
    show f s + sumS f l = g s + sumS g l
    rw [h s (List.mem_cons_self ..), sumS_same l fun t ht => h t (List.mem_cons_of_mem _ ht)]
theorem sumS_more {p : Plan} (hm : Meas p) (n : Nat) : ∀ (l : List Int), l.Nodup → sumS (lenTo p (n + 1)) l ≤ sumS (lenTo p n) l + secLen p (n : Int)
  | [], _ => by show (0 : Int) ≤ 0 + _; have := secLen_bd hm (n : Int); omega
  | s :: l, h => by
    obtain ⟨h1, h2⟩ := List.nodup_cons.1 h
    show lenTo p (n + 1) s + sumS (lenTo p (n + 1)) l ≤ lenTo p n s + sumS (lenTo p n) l + secLen p (n : Int)
    by_cases hs : s = n
    · subst hs
      rw [sumS_same (f := lenTo p (n + 1)) (g := lenTo p n) l (fun t ht => by
        have : t ≠ n := fun e => h1 (e ▸ ht)
        unfold lenTo
        by_cases h3 : 0 ≤ t ∧ t < n
        · rw [if_pos h3, if_pos (by omega)]
        · rw [if_neg h3, if_neg (by omega)])]
      have e1 : lenTo p (n + 1) (n : Int) = secLen p (n : Int) := by unfold lenTo; rw [if_pos (by omega)]
      have e2 : lenTo p n (n : Int) = 0 := by unfold lenTo; rw [if_neg (by omega)]
      omega
    · have := sumS_more hm n l h2
      have e : lenTo p (n + 1) s = lenTo p n s := by
        unfold lenTo
        by_cases h3 : 0 ≤ s ∧ s < n
        · rw [if_pos h3, if_pos (by omega)]
        · rw [if_neg h3, if_neg (by omega)]
      omega
theorem sumS_all {p : Plan} (hm : Meas p) (l : List Int) (h : l.Nodup) : ∀ n, sumS (lenTo p n) l ≤ sumTo p n
  | 0 => by
    rw [sumS_same (g := fun _ => 0) l (fun s _ => by unfold lenTo; rw [if_neg (by omega)])]
    show sumS (fun _ => (0 : Int)) l ≤ 0
    have : ∀ m : List Int, sumS (fun _ => (0 : Int)) m = 0 := by
      intro m
      induction m with
      | nil => rfl
      | cons a m ih => show 0 + sumS (fun _ => (0 : Int)) m = 0; omega
    rw [this]; exact Int.le_refl _
  | n + 1 => by
    have h1 := sumS_more hm n l h
    have h2 := sumS_all hm l h n
    show _ ≤ sumTo p n + secLen p (n : Int)
    omega
theorem len_sumS (p : Plan) : ∀ (t : List Stp), len p t = sumS (lenTo p p.secs.length) (t.map (·.s))
  | [] => rfl
  | x :: t => by
    show secLen p x.s + len p t = lenTo p p.secs.length x.s + sumS _ (t.map (·.s))
    rw [len_sumS p t]
    have : secLen p x.s = lenTo p p.secs.length x.s := by
      unfold lenTo
      by_cases h : 0 ≤ x.s ∧ x.s < p.secs.length
      · rw [if_pos h]
      · rw [if_neg h]
        unfold secLen
        rcases sec_ways p x.s with ⟨-, h1⟩ | ⟨k, hk, ⟨-, h1⟩ | ⟨y, hy, -⟩⟩
        · rw [h1]
        · rw [hk, h1]
        · exact absurd ⟨by omega, by have := (List.getElem?_eq_some_iff.1 hy).1; omega⟩ h
    omega
theorem len_all {p : Plan} (hm : Meas p) {t : List Stp} (h : (t.map (·.s)).Nodup) : len p t ≤ sumTo p p.secs.length := by
  rw [len_sumS]
  exact sumS_all hm _ h _
theorem sumTo_bd {p : Plan} (hm : Meas p) : ∀ n, 0 ≤ sumTo p n ∧ sumTo p n ≤ n * 1099511627776
  | 0 => ⟨Int.le_refl _, by show (0 : Int) ≤ _; simp⟩
  | n + 1 => by
    have h1 := sumTo_bd hm n
    have h2 := secLen_bd hm (n : Int)
    show 0 ≤ sumTo p n + secLen p (n : Int) ∧ sumTo p n + secLen p (n : Int) ≤ _
    omega
theorem chain_last {p : Plan} {b : Int} {way : List Stp} : ∀ {t : List Stp} {s f : Int} {st : List Stp} {sum : Int}, Chain p b way s f st sum t → ∃ x, t.getLast? = some x ∧ ((next p x.s x.t).2.2 = false ∨ p.ov ≤ sum + len p t)
  | [], _, _, _, _, h => by unfold Chain at h; exact h.elim
  | x :: t, s, f, st, sum, h => by
    unfold Chain at h
    obtain ⟨⟨-, -, -, h2⟩, h3⟩ := h
    have hs := Cr.outs_sec h2
    rw [← hs] at h3
    have hl : len p (x :: t) = secLen p x.s + len p t := rfl
    rcases h3 with ⟨h4, rfl⟩ | ⟨-, h4⟩
    · refine ⟨x, rfl, ?_⟩
      rcases lasts_true h4 with h | h
      · exact .inl h
      · refine .inr ?_
        have : len p ([] : List Stp) = 0 := rfl
        omega
    · obtain ⟨y, hy, h5⟩ := chain_last h4
      refine ⟨y, ?_, ?_⟩
      · cases t with
        | nil => cases hy
        | cons z t => rw [List.getLast?_cons_cons]; exact hy
      · rcases h5 with h | h
        · exact .inl h
        · exact .inr (by omega)
/-- With more asked for than all sections have, what is found ends where no end leads on. -/
theorem of_stops {p : Plan} (hm : Meas p) {i : Int} {g : Sig} (hg : Cr.sigAt p i = some g) {w : Cr.Way} (hw : w.exit < p.sigs.length) :
    of (with_ p (1 + sumTo p p.secs.length)) i w = ([], 10) ∨ of (with_ p (1 + sumTo p p.secs.length)) i w = ([], 0) ∨
      ((of (with_ p (1 + sumTo p p.secs.length)) i w).2 = 0 ∧ 0 ≤ w.exit ∧ ∃ x, (of (with_ p (1 + sumTo p p.secs.length)) i w).1.getLast? = some x ∧ (next p x.s x.t).2.2 = false) := by
  generalize ho : 1 + sumTo p p.secs.length = o
  rcases of_eq (p := with_ p o) (i := i) (g := g) hg (w := w) hw with ⟨-, h⟩ | ⟨h0, -, x, hx, h⟩
  · exact .inr (.inl h)
  · rw [h]
    rcases ofSig_cases (with_ p o) g.sec w.steps x with h2 | h2 | ⟨-, l, -, h2, -, -, h4⟩
    · exact .inl h2
    · exact .inr (.inl h2)
    · rw [h2]
      obtain ⟨y, hy, h5⟩ := chain_last h4
      refine .inr (.inr ⟨rfl, h0, y, hy, ?_⟩)
      rcases h5 with h5 | h5
      · exact h5
      · have h6 := len_all hm (chain_apart h4).1
        have h7 : (with_ p o).ov = o := rfl
        have h8 : len (with_ p o) l = len p l := by
          have : ∀ m : List Stp, len (with_ p o) m = len p m := by
            intro m
            induction m with
            | nil => rfl
            | cons a m ih => show secLen p a.s + len (with_ p o) m = secLen p a.s + len p m; rw [ih]
          exact this l
        rw [h7, h8] at h5
        omega
end Go.Proofs.Ytfmpjljddfaggaa.Lp
