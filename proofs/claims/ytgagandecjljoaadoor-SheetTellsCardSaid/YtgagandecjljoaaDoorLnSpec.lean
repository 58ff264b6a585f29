/-
  Plain mathematics of lines and words: a text cut at a byte, put together, and what may stand in a word. No program is named here.
-/
import Derived.Lib.Split
import Derived.Lib.SplitLaws
import Derived.Lib.Join
namespace Go.Proofs.YtgagandecjljoaaDoor.Ln
open Go

def step (c : UInt8) (p : List (List UInt8) × List UInt8) (x : UInt8) : List (List UInt8) × List UInt8 := if x = c then (p.1 ++ [p.2], []) else (p.1, p.2 ++ [x])
def st (c : UInt8) (l : List UInt8) : List (List UInt8) × List UInt8 := l.foldl (step c) ([], [])
def cut (c : UInt8) (l : List UInt8) : List (List UInt8) := (st c l).1 ++ [(st c l).2]
def text (L : List (List UInt8)) : List UInt8 := (L.map (· ++ [10])).flatten
def whole (l : List UInt8) : Bool := (st 10 l).2.isEmpty
def split (l : List UInt8) : List (List UInt8) := if whole l then (st 10 l).1 else cut 10 l
def okw (x : UInt8) : Bool := decide (33 ≤ (x.toNat : Int)) && decide ((x.toNat : Int) ≤ 126)
def ws : Bool → List UInt8 → Bool
  | p, [] => !p
  | p, x :: t => if x = 32 then (if p then false else ws true t) else (if okw x then ws false t else false)
def words (l : List UInt8) : List (List UInt8) := if ws true l then cut 32 l else []
def line (L : List (List UInt8)) : List UInt8 := Lib.join L [32]
def okb (x : UInt8) : Bool := decide (x = 32) || okw x

theorem st_snoc (c : UInt8) (l : List UInt8) (x : UInt8) : st c (l ++ [x]) = step c (st c l) x := by simp [st]
theorem st_nil (c : UInt8) : st c [] = ([], []) := rfl

/-- What is ahead stays ahead. -/
theorem fold_ahead (c : UInt8) (d : List (List UInt8)) : ∀ (l : List UInt8) (d0 : List (List UInt8)) (r : List UInt8), l.foldl (step c) (d ++ d0, r) = (d ++ (l.foldl (step c) (d0, r)).1, (l.foldl (step c) (d0, r)).2)
  | [], _, _ => rfl
  | x :: t, d0, r => by
    simp only [List.foldl_cons, step]
    by_cases h : x = c
    · rw [if_pos h, if_pos h, List.append_assoc]; exact fold_ahead c d t _ _
    · rw [if_neg h, if_neg h]; exact fold_ahead c d t _ _
theorem fold_nil (c : UInt8) (d : List (List UInt8)) (l : List UInt8) : l.foldl (step c) (d, []) = (d ++ (st c l).1, (st c l).2) := by
  have := fold_ahead c d l [] []
  rwa [List.append_nil] at this
theorem st_append (c : UInt8) (a b : List UInt8) : st c (a ++ b) = b.foldl (step c) (st c a) := by simp [st]

def glue (r : List UInt8) : List (List UInt8) → List (List UInt8)
  | [] => [r]
  | h :: t => (r ++ h) :: t
def cutR (c : UInt8) : List UInt8 → List (List UInt8)
  | [] => [[]]
  | x :: t => if x = c then [] :: cutR c t else glue [x] (cutR c t)
theorem glue_glue (r : List UInt8) (x : UInt8) (L : List (List UInt8)) : glue (r ++ [x]) L = glue r (glue [x] L) := by cases L <;> simp [glue]
theorem glue_nil (L : List (List UInt8)) (h : L ≠ []) : glue [] L = L := by cases L <;> simp_all [glue]
theorem cutR_ne (c : UInt8) (l : List UInt8) : cutR c l ≠ [] := by
  cases l with
  | nil => simp [cutR]
  | cons x t =>
    simp only [cutR]
    split
    · simp
    · cases cutR c t <;> simp [glue]
theorem fold_cutR (c : UInt8) : ∀ (l : List UInt8) (d : List (List UInt8)) (r : List UInt8), (l.foldl (step c) (d, r)).1 ++ [(l.foldl (step c) (d, r)).2] = d ++ glue r (cutR c l)
  | [], d, r => by simp [cutR, glue]
  | x :: t, d, r => by
    simp only [List.foldl_cons, step, cutR]
    by_cases h : x = c
    · rw [if_pos h, if_pos h, fold_cutR c t, glue_nil _ (cutR_ne c t)]
      simp [glue]
    · rw [if_neg h, if_neg h, fold_cutR c t, glue_glue]
theorem cut_eq (c : UInt8) (l : List UInt8) : cut c l = cutR c l := by
  have := fold_cutR c l [] []
  rw [glue_nil _ (cutR_ne c l), List.nil_append] at this
  exact this

theorem index_cons (c x : UInt8) (t : List UInt8) : Lib.index (x :: t) [c] = if x = c then 0 else if Lib.index t [c] = -1 then -1 else Lib.index t [c] + 1 := by
  simp only [Lib.index, List.isPrefixOf, Bool.and_true, beq_iff_eq]
  by_cases h : x = c
  · rw [if_pos h, if_pos h.symm]
  · rw [if_neg h, if_neg (fun e => h e.symm)]
theorem split_eq (c : UInt8) : ∀ l : List UInt8, Lib.splitK [c] 0 (Lib.count l [c]) l = cutR c l
  | [] => by
    rw [Lib.count_one]
    simp [Lib.splitK, cutR]
  | x :: t => by
    have ih := split_eq c t
    rw [Lib.count_one] at ih ⊢
    simp only [cutR]
    by_cases h : x = c
    · subst h
      rw [if_pos rfl, List.count_cons_self, Lib.splitK, index_cons, if_pos rfl]
      simpa using ih
    · rw [if_neg h, List.count_cons_of_ne h]
      cases hk : t.count c with
      | zero =>
        rw [hk] at ih
        rw [← ih]
        simp [Lib.splitK, glue]
      | succ k =>
        rw [hk] at ih
        rw [← ih, Lib.splitK, Lib.splitK, index_cons, if_neg h]
        have hge := Lib.index_ge t [c]
        by_cases h1 : Lib.index t [c] = -1
        · rw [if_pos h1]
          simp [h1, glue]
        · rw [if_neg h1, if_neg (by simp; omega), if_neg (by simpa using h1)]
          obtain ⟨i, hi⟩ : ∃ i : Nat, Lib.index t [c] = i := ⟨(Lib.index t [c]).toNat, by omega⟩
          rw [hi]
          simp only [glue]
          rw [show ((i : Int) + 1).toNat = i + 1 by omega, show ((i : Int)).toNat = i by omega]
          simp

/-- The library's pieces are ours. -/
theorem splitB_cut (c : UInt8) (s : ByteArray) : (Lib.splitB ⟨#[c]⟩ 0 (Lib.countB s ⟨#[c]⟩) s).map (·.data.toList) = cut c s.data.toList := by
  rw [Lib.splitB_data, cut_eq, ← split_eq, Lib.countB]
theorem cut_length (c : UInt8) (s : ByteArray) : (cut c s.data.toList).length = Lib.countB s ⟨#[c]⟩ + 1 := by
  rw [← splitB_cut, List.length_map, Lib.splitB_all ⟨#[c]⟩ (Nat.le_refl 1) 0 _ s rfl]

theorem st_len (c : UInt8) (l : List UInt8) : (st c l).1.length ≤ l.length := by
  have : ∀ (l : List UInt8) (d : List (List UInt8)) (r : List UInt8), (l.foldl (step c) (d, r)).1.length ≤ d.length + l.length := by
    intro l
    induction l with
    | nil => intro d r; simp
    | cons x t ih =>
      intro d r
      simp only [List.foldl_cons, step, List.length_cons]
      split
      · have := ih (d ++ [r]) []; simp at this; omega
      · have := ih d (r ++ [x]); omega
  simpa [st] using this l [] []
def tot (L : List (List UInt8)) : Nat := (L.map List.length).sum
theorem tot_append (a b : List (List UInt8)) : tot (a ++ b) = tot a + tot b := by simp [tot]
theorem tot_one (a : List UInt8) : tot [a] = a.length := by simp [tot]

/-- A text is what its pieces give. -/
theorem st_join (c : UInt8) (l : List UInt8) : ((st c l).1.map (· ++ [c])).flatten ++ (st c l).2 = l := by
  have : ∀ (l : List UInt8) (d : List (List UInt8)) (r : List UInt8), ((l.foldl (step c) (d, r)).1.map (· ++ [c])).flatten ++ (l.foldl (step c) (d, r)).2 = (d.map (· ++ [c])).flatten ++ r ++ l := by
    intro l
    induction l with
    | nil => intro d r; simp
    | cons x t ih =>
      intro d r
      simp only [List.foldl_cons, step]
      split
      · rename_i h; rw [ih]; simp [h]
      · rw [ih]; simp
  simpa [st] using this l [] []
/-- Pieces that don't hold the byte are cut out of what they give. -/
theorem fold_no (c : UInt8) : ∀ (x : List UInt8) (d : List (List UInt8)) (r : List UInt8), c ∉ x → x.foldl (step c) (d, r) = (d, r ++ x)
  | [], _, _, _ => by simp
  | y :: t, d, r, h => by
    simp only [List.foldl_cons, step]
    rw [if_neg (by rintro rfl; exact h (List.mem_cons_self ..)), fold_no c t _ _ (fun hc => h (List.mem_cons_of_mem _ hc))]
    simp
theorem fold_pieces (c : UInt8) : ∀ (D : List (List UInt8)) (d : List (List UInt8)), (∀ x ∈ D, c ∉ x) → (D.map (· ++ [c])).flatten.foldl (step c) (d, []) = (d ++ D, [])
  | [], _, _ => by simp
  | x :: D, d, h => by
    rw [List.map_cons, List.flatten_cons, List.foldl_append, List.foldl_append, fold_no c x d [] (h x (List.mem_cons_self ..))]
    simp only [List.foldl_cons, List.foldl_nil, step, if_true]
    rw [List.nil_append, fold_pieces c D _ (fun y hy => h y (List.mem_cons_of_mem _ hy))]
    simp
theorem st_pieces (c : UInt8) (D : List (List UInt8)) (r : List UInt8) (h : ∀ x ∈ D, c ∉ x) (hr : c ∉ r) : st c ((D.map (· ++ [c])).flatten ++ r) = (D, r) := by
  rw [st, List.foldl_append, fold_pieces c D [] h, fold_no c r _ _ hr]
  simp
theorem join_snoc (c : UInt8) : ∀ (D : List (List UInt8)) (r : List UInt8), Lib.join (D ++ [r]) [c] = (D.map (· ++ [c])).flatten ++ r
  | [], r => by simp [Lib.join, List.intercalate]
  | x :: D, r => by
    have ih := join_snoc c D r
    rw [List.cons_append, Lib.join_cons]
    cases D with
    | nil => simp [Lib.joinTail]
    | cons y D =>
      rw [List.cons_append, Lib.join_cons] at ih
      simp only [List.cons_append, Lib.joinTail, List.map_cons, List.flatten_cons, List.nil_append] at ih ⊢
      rw [ih]
      simp

/-! ### lines -/
theorem whole_text (L : List (List UInt8)) : whole (text L) = true := by
  have : ∀ (L : List (List UInt8)) (p : List (List UInt8) × List UInt8), p.2 = [] → ((L.map (· ++ [10])).flatten.foldl (step 10) p).2 = [] := by
    intro L
    induction L with
    | nil => intro p h; simpa using h
    | cons x L ih =>
      intro p h
      simp only [List.map_cons, List.flatten_cons, List.foldl_append]
      apply ih
      simp [step]
  simp [whole, st, text, this L ([], []) rfl]
theorem split_text (L : List (List UInt8)) (h : ∀ x ∈ L, (10 : UInt8) ∉ x) : split (text L) = L := by
  have := st_pieces 10 L [] h (by simp)
  rw [List.append_nil] at this
  rw [split, whole_text, if_pos rfl]
  show (st 10 (text L)).1 = L
  rw [text, this]
theorem text_split (l : List UInt8) : decide (text (split l) = l) = whole l := by
  have hj := st_join 10 l
  rw [split]
  by_cases h : whole l = true
  · rw [if_pos h, h]
    rw [whole, List.isEmpty_iff] at h
    rw [h, List.append_nil] at hj
    exact decide_eq_true hj
  · rw [if_neg h]
    have hf : whole l = false := by simpa using h
    rw [hf, decide_eq_false_iff_not]
    intro e
    have : text (cut 10 l) = l ++ [10] := by
      rw [cut, text, List.map_append, List.flatten_append]
      simp only [List.map_cons, List.map_nil, List.flatten_cons, List.flatten_nil, List.append_nil]
      rw [← List.append_assoc, hj]
    rw [this] at e
    have := congrArg List.length e
    simp at this
theorem split_append (a b : List UInt8) (h : whole a = true) : split (a ++ b) = split a ++ split b ∧ whole (a ++ b) = whole b := by
  have h2 := h
  rw [whole, List.isEmpty_iff] at h2
  have e : st 10 (a ++ b) = ((st 10 a).1 ++ (st 10 b).1, (st 10 b).2) := by
    rw [st_append, show st 10 a = ((st 10 a).1, []) by rw [← h2], fold_nil]
  have hw : whole (a ++ b) = whole b := by rw [whole, e, whole]
  refine ⟨?_, hw⟩
  rw [split, hw, split, if_pos h, split, cut, cut, e]
  split <;> simp

/-! ### words -/
theorem okb_iff (x : UInt8) : okb x = true ↔ x = 32 ∨ okw x = true := by simp [okb]
theorem okw_ne {x : UInt8} (h : okw x = true) : x ≠ 32 := by
  rintro rfl; exact absurd h (by decide)
theorem fold_mem (c : UInt8) (l : List UInt8) (d : List (List UInt8)) (r x : List UInt8) (h : x ∈ d) : x ∈ (l.foldl (step c) (d, r)).1 := by
  have := fold_ahead c d l [] r
  rw [List.append_nil] at this
  rw [this]
  exact List.mem_append_left _ h
theorem ws_gen : ∀ (l : List UInt8) (d : List (List UInt8)) (r : List UInt8), (∀ x ∈ d, x ≠ []) →
    ws r.isEmpty l = (l.all okb && ((l.foldl (step 32) (d, r)).1 ++ [(l.foldl (step 32) (d, r)).2]).all (fun x => !x.isEmpty))
  | [], d, r, h => by
    have : d.all (fun x => !x.isEmpty) = true := by simpa using h
    simp only [ws, List.foldl_nil, List.all_nil, Bool.true_and, List.all_append, this, List.all_cons, Bool.and_true]
  | x :: t, d, r, h => by
    simp only [ws, List.foldl_cons, step, List.all_cons]
    by_cases hx : x = 32
    · subst hx
      rw [if_pos rfl, if_pos rfl]
      by_cases hr : r = []
      · subst hr
        have hm : ([] : List UInt8) ∈ (t.foldl (step 32) (d ++ [[]], [])).1 := fold_mem _ _ _ _ _ (by simp)
        have : (((t.foldl (step 32) (d ++ [[]], [])).1 ++ [(t.foldl (step 32) (d ++ [[]], [])).2]).all (fun x => !x.isEmpty)) = false := by
          rw [List.all_eq_false]
          exact ⟨[], List.mem_append_left _ hm, by simp⟩
        rw [this]
        simp
      · have h2 := ws_gen t (d ++ [r]) [] (by
          intro y hy
          rcases List.mem_append.1 hy with hy | hy
          · exact h y hy
          · simp at hy; subst hy; exact hr)
        rw [show r.isEmpty = false by simpa using hr]
        simp only [List.isEmpty_nil] at h2
        rw [if_neg (by simp), h2]
        simp [okb]
    · rw [if_neg hx, if_neg hx]
      by_cases ho : okw x = true
      · have h2 := ws_gen t d (r ++ [x]) h
        rw [show (r ++ [x]).isEmpty = false by simp] at h2
        rw [if_pos ho, h2]
        simp [okb, ho]
      · rw [if_neg ho]
        simp [okb, hx, ho]
theorem ws_eq (l : List UInt8) : ws true l = (l.all okb && (cut 32 l).all (fun x => !x.isEmpty)) := ws_gen l [] [] (by simp)
theorem words_line (L : List (List UInt8)) (hne : L ≠ []) (h : ∀ x ∈ L, x ≠ [] ∧ ∀ b ∈ x, okw b = true) : ws true (line L) = true ∧ words (line L) = L := by
  obtain ⟨D, r, rfl⟩ : ∃ D r, L = D ++ [r] := ⟨L.dropLast, L.getLast hne, (List.dropLast_concat_getLast hne).symm⟩
  have no : ∀ x ∈ D ++ [r], (32 : UInt8) ∉ x := fun x hx hb => okw_ne ((h x hx).2 _ hb) rfl
  have hst : st 32 (line (D ++ [r])) = (D, r) := by
    rw [line, join_snoc]
    exact st_pieces 32 D r (fun x hx => no x (List.mem_append_left _ hx)) (no r (by simp))
  have hc : cut 32 (line (D ++ [r])) = D ++ [r] := by rw [cut, hst]
  have hw : ws true (line (D ++ [r])) = true := by
    rw [ws_eq, hc, Bool.and_eq_true]
    constructor
    · rw [line, join_snoc, List.all_eq_true]
      intro b hb
      rw [okb_iff]
      rcases List.mem_append.1 hb with hb | hb
      · obtain ⟨y, hy, hby⟩ := List.mem_flatten.1 hb
        obtain ⟨x, hx, rfl⟩ := List.mem_map.1 hy
        rcases List.mem_append.1 hby with hb2 | hb2
        · exact Or.inr ((h x (List.mem_append_left _ hx)).2 b hb2)
        · exact Or.inl (by simpa using hb2)
      · exact Or.inr ((h r (by simp)).2 b hb)
    · rw [List.all_eq_true]
      intro x hx
      have := (h x hx).1
      cases x <;> simp_all
  exact ⟨hw, by rw [words, hw, if_pos rfl, hc]⟩
theorem line_words (l : List UInt8) (h : ws true l = true) : line (words l) = l ∧ words l ≠ [] := by
  rw [words, if_pos h, line, cut, join_snoc, st_join]
  exact ⟨rfl, by simp⟩

theorem ws_cons (p : Bool) (x : UInt8) (t : List UInt8) : ws p (x :: t) = if x = 32 then (if p then false else ws true t) else (if okw x then ws false t else false) := rfl
end Go.Proofs.YtgagandecjljoaaDoor.Ln

