/-
  Texts of this claim, merged: LnSpec, LnMem, AppK, LnSmall, LnWalks, LnRef.
-/
import Derived.Test.YtaheiolbeiofpaaGreatDoorMg01
import Derived.BigFrame
import Derived.BigQuiet
import Derived.Deep.AppendLies
import Derived.Deep.QuietTactic
import Derived.Lib.Hide
import Derived.Lib.Join
import Derived.Lib.Split
import Derived.Lib.SplitLaws
import Derived.Outline
import Derived.OwnWalk
import Derived.WalkLawsBesides
import Derived.WalkSpells
/-
  Plain mathematics of lines and words: a text cut at a byte, put together, and what may stand in a word. No program is named here.
-/
namespace Go.Proofs.YtaheiolbeiofpaaGreatDoor.Ln
open Go

def step (c : UInt8) (p : List (List UInt8) × List UInt8) (x : UInt8) : List (List UInt8) × List UInt8 := if x = c then (p.1 ++ [p.2], []) else (p.1, p.2 ++ [x])
def st (c : UInt8) (l : List UInt8) : List (List UInt8) × List UInt8 := l.foldl (step c) ([], [])
def cut (c : UInt8) (l : List UInt8) : List (List UInt8) := (st c l).1 ++ [(st c l).2]
def text (L : List (List UInt8)) : List UInt8 := (L.map (· ++ [10])).flatten
def whole (l : List UInt8) : Bool := (st 10 l).2.isEmpty
def split (l : List UInt8) : List (List UInt8) := if whole l then (st 10 l).1 else cut 10 l
def okw (x : UInt8) : Bool := decide (33 ≤ (x.toNat : Int)) && decide ((x.toNat : Int) ≤ 126)
def ws : Bool → List UInt8 → Bool
  | p, [] => !p
  | p, x :: t => if x = 32 then (if p then false else ws true t) else (if okw x then ws false t else false)
def words (l : List UInt8) : List (List UInt8) := if ws true l then cut 32 l else []
def line (L : List (List UInt8)) : List UInt8 := Lib.join L [32]
def okb (x : UInt8) : Bool := decide (x = 32) || okw x

theorem st_snoc (c : UInt8) (l : List UInt8) (x : UInt8) : st c (l ++ [x]) = step c (st c l) x := by simp [st]
theorem st_nil (c : UInt8) : st c [] = ([], []) := rfl

/-- What is ahead stays ahead. -/
theorem fold_ahead (c : UInt8) (d : List (List UInt8)) : ∀ (l : List UInt8) (d0 : List (List UInt8)) (r : List UInt8), l.foldl (step c) (d ++ d0, r) = (d ++ (l.foldl (step c) (d0, r)).1, (l.foldl (step c) (d0, r)).2)
  | [], _, _ => rfl
  | x :: t, d0, r => by
    simp only [List.foldl_cons, step]
    by_cases h : x = c
    · rw [if_pos h, if_pos h, List.append_assoc]; exact fold_ahead c d t _ _
    · rw [if_neg h, if_neg h]; exact fold_ahead c d t _ _
theorem fold_nil (c : UInt8) (d : List (List UInt8)) (l : List UInt8) : l.foldl (step c) (d, []) = (d ++ (st c l).1, (st c l).2) := by
  have := fold_ahead c d l [] []
  rwa [List.append_nil] at this
theorem st_append (c : UInt8) (a b : List UInt8) : st c (a ++ b) = b.foldl (step c) (st c a) := by simp [st]

def glue (r : List UInt8) : List (List UInt8) → List (List UInt8)
  | [] => [r]
  | h :: t => (r ++ h) :: t
def cutR (c : UInt8) : List UInt8 → List (List UInt8)
  | [] => [[]]
  | x :: t => if x = c then [] :: cutR c t else glue [x] (cutR c t)
theorem glue_glue (r : List UInt8) (x : UInt8) (L : List (List UInt8)) : glue (r ++ [x]) L = glue r (glue [x] L) := by cases L <;> simp [glue]
theorem glue_nil (L : List (List UInt8)) (h : L ≠ []) : glue [] L = L := by cases L <;> simp_all [glue]
theorem cutR_ne (c : UInt8) (l : List UInt8) : cutR c l ≠ [] := by
  cases l with
  | nil => simp [cutR]
  | cons x t =>
    simp only [cutR]
    split
    · simp
    · cases cutR c t <;> simp [glue]
theorem fold_cutR (c : UInt8) : ∀ (l : List UInt8) (d : List (List UInt8)) (r : List UInt8), (l.foldl (step c) (d, r)).1 ++ [(l.foldl (step c) (d, r)).2] = d ++ glue r (cutR c l)
  | [], d, r => by simp [cutR, glue]
  | x :: t, d, r => by
    simp only [List.foldl_cons, step, cutR]
    by_cases h : x = c
    · rw [if_pos h, if_pos h, fold_cutR c t, glue_nil _ (cutR_ne c t)]
      simp [glue]
    · rw [if_neg h, if_neg h, fold_cutR c t, glue_glue]
theorem cut_eq (c : UInt8) (l : List UInt8) : cut c l = cutR c l := by
  have := fold_cutR c l [] []
  rw [glue_nil _ (cutR_ne c l), List.nil_append] at this
  exact this

theorem index_cons (c x : UInt8) (t : List UInt8) : Lib.index (x :: t) [c] = if x = c then 0 else if Lib.index t [c] = -1 then -1 else Lib.index t [c] + 1 := by
  simp only [Lib.index, List.isPrefixOf, Bool.and_true, beq_iff_eq]
  by_cases h : x = c
  · rw [if_pos h, if_pos h.symm]
  · rw [if_neg h, if_neg (fun e => h e.symm)]
theorem split_eq (c : UInt8) : ∀ l : List UInt8, Lib.splitK [c] 0 (Lib.count l [c]) l = cutR c l
  | [] => by
    rw [Lib.count_one]
    simp [Lib.splitK, cutR]
  | x :: t => by
    have ih := split_eq c t
    rw [Lib.count_one] at ih ⊢
    simp only [cutR]
    by_cases h : x = c
    · subst h
      rw [if_pos rfl, List.count_cons_self, Lib.splitK, index_cons, if_pos rfl]
      simpa using ih
    · rw [if_neg h, List.count_cons_of_ne h]
      cases hk : t.count c with
      | zero =>
        rw [hk] at ih
        rw [← ih]
        simp [Lib.splitK, glue]
      | succ k =>
        rw [hk] at ih
        rw [← ih, Lib.splitK, Lib.splitK, index_cons, if_neg h]
        have hge := Lib.index_ge t [c]
        by_cases h1 : Lib.index t [c] = -1
        · rw [if_pos h1]
          simp [h1, glue]
        · rw [if_neg h1, if_neg (by simp; omega), if_neg (by simpa using h1)]
          obtain ⟨i, hi⟩ : ∃ i : Nat, Lib.index t [c] = i := ⟨(Lib.index t [c]).toNat, by omega⟩
          rw [hi]
          simp only [glue]
          rw [show ((i : Int) + 1).toNat = i + 1 by omega, show ((i : Int)).toNat = i by omega]
          simp

/-- The library's pieces are ours. -/
theorem splitB_cut (c : UInt8) (s : ByteArray) : (Lib.splitB ⟨#[c]⟩ 0 (Lib.countB s ⟨#[c]⟩) s).map (·.data.toList) = cut c s.data.toList := by
  rw [Lib.splitB_data, cut_eq, ← split_eq, Lib.countB]
theorem cut_length (c : UInt8) (s : ByteArray) : (cut c s.data.toList).length = Lib.countB s ⟨#[c]⟩ + 1 := by
  rw [← splitB_cut, List.length_map, Lib.splitB_all ⟨#[c]⟩ (Nat.le_refl 1) 0 _ s rfl]

theorem st_len (c : UInt8) (l : List UInt8) : (st c l).1.length ≤ l.length := by
  have : ∀ (l : List UInt8) (d : List (List UInt8)) (r : List UInt8), (l.foldl (step c) (d, r)).1.length ≤ d.length + l.length := by
    intro l
    induction l with
    | nil => intro d r; simp
    | cons x t ih =>
      intro d r
      simp only [List.foldl_cons, step, List.length_cons]
      split
      · have := ih (d ++ [r]) []; simp at this; omega
      · have := ih d (r ++ [x]); omega
  simpa [st] using this l [] []
def tot (L : List (List UInt8)) : Nat := (L.map List.length).sum
theorem tot_append (a b : List (List UInt8)) : tot (a ++ b) = tot a + tot b := by simp [tot]
theorem tot_one (a : List UInt8) : tot [a] = a.length := by simp [tot]

/-- A text is what its pieces give. -/
theorem st_join (c : UInt8) (l : List UInt8) : ((st c l).1.map (· ++ [c])).flatten ++ (st c l).2 = l := by
  have : ∀ (l : List UInt8) (d : List (List UInt8)) (r : List UInt8), ((l.foldl (step c) (d, r)).1.map (· ++ [c])).flatten ++ (l.foldl (step c) (d, r)).2 = (d.map (· ++ [c])).flatten ++ r ++ l := by
    intro l
    induction l with
    | nil => intro d r; simp
    | cons x t ih =>
      intro d r
      simp only [List.foldl_cons, step]
      split
      · rename_i h; rw [ih]; simp [h]
      · rw [ih]; simp
  simpa [st] using this l [] []
/-- Pieces that don't hold the byte are cut out of what they give. -/
theorem fold_no (c : UInt8) : ∀ (x : List UInt8) (d : List (List UInt8)) (r : List UInt8), c ∉ x → x.foldl (step c) (d, r) = (d, r ++ x)
  | [], _, _, _ => by simp
  | y :: t, d, r, h => by
    simp only [List.foldl_cons, step]
    rw [if_neg (by rintro rfl; exact h (List.mem_cons_self ..)), fold_no c t _ _ (fun hc => h (List.mem_cons_of_mem _ hc))]
    simp
theorem fold_pieces (c : UInt8) : ∀ (D : List (List UInt8)) (d : List (List UInt8)), (∀ x ∈ D, c ∉ x) → (D.map (· ++ [c])).flatten.foldl (step c) (d, []) = (d ++ D, [])
  | [], _, _ => by simp
  | x :: D, d, h => by
    rw [List.map_cons, List.flatten_cons, List.foldl_append, List.foldl_append, fold_no c x d [] (h x (List.mem_cons_self ..))]
    simp only [List.foldl_cons, List.foldl_nil, step, if_true]
    rw [List.nil_append, fold_pieces c D _ (fun y hy => h y (List.mem_cons_of_mem _ hy))]
    simp
theorem st_pieces (c : UInt8) (D : List (List UInt8)) (r : List UInt8) (h : ∀ x ∈ D, c ∉ x) (hr : c ∉ r) : st c ((D.map (· ++ [c])).flatten ++ r) = (D, r) := by
  rw [st, List.foldl_append, fold_pieces c D [] h, fold_no c r _ _ hr]
  simp
theorem join_snoc (c : UInt8) : ∀ (D : List (List UInt8)) (r : List UInt8), Lib.join (D ++ [r]) [c] = (D.map (· ++ [c])).flatten ++ r
  | [], r => by simp [Lib.join, List.intercalate]
  | x :: D, r => by
    have ih := join_snoc c D r
    rw [List.cons_append, Lib.join_cons]
    cases D with
    | nil => simp [Lib.joinTail]
    | cons y D =>
      rw [List.cons_append, Lib.join_cons] at ih
      simp only [List.cons_append, Lib.joinTail, List.map_cons, List.flatten_cons, List.nil_append] at ih ⊢
      rw [ih]
      simp

/-! ### lines -/
theorem whole_text (L : List (List UInt8)) : whole (text L) = true := by
  have : ∀ (L : List (List UInt8)) (p : List (List UInt8) × List UInt8), p.2 = [] → ((L.map (· ++ [10])).flatten.foldl (step 10) p).2 = [] := by
    intro L
    induction L with
    | nil => intro p h; simpa using h
    | cons x L ih =>
      intro p h
      simp only [List.map_cons, List.flatten_cons, List.foldl_append]
      apply ih
      simp [step]
  simp [whole, st, text, this L ([], []) rfl]
theorem split_text (L : List (List UInt8)) (h : ∀ x ∈ L, (10 : UInt8) ∉ x) : split (text L) = L := by
  have := st_pieces 10 L [] h (by simp)
  rw [List.append_nil] at this
  rw [split, whole_text, if_pos rfl]
  show (st 10 (text L)).1 = L
  rw [text, this]
theorem text_split (l : List UInt8) : decide (text (split l) = l) = whole l := by
  have hj := st_join 10 l
  rw [split]
  by_cases h : whole l = true
  · rw [if_pos h, h]
    rw [whole, List.isEmpty_iff] at h
    rw [h, List.append_nil] at hj
    exact decide_eq_true hj
  · rw [if_neg h]
    have hf : whole l = false := by simpa using h
    rw [hf, decide_eq_false_iff_not]
    intro e
    have : text (cut 10 l) = l ++ [10] := by
      rw [cut, text, List.map_append, List.flatten_append]
      simp only [List.map_cons, List.map_nil, List.flatten_cons, List.flatten_nil, List.append_nil]
      rw [← List.append_assoc, hj]
    rw [this] at e
    have := congrArg List.length e
    simp at this
theorem split_append (a b : List UInt8) (h : whole a = true) : split (a ++ b) = split a ++ split b ∧ whole (a ++ b) = whole b := by
  have h2 := h
  rw [whole, List.isEmpty_iff] at h2
  have e : st 10 (a ++ b) = ((st 10 a).1 ++ (st 10 b).1, (st 10 b).2) := by
    rw [st_append, show st 10 a = ((st 10 a).1, []) by rw [← h2], fold_nil]
  have hw : whole (a ++ b) = whole b := by rw [whole, e, whole]
  refine ⟨?_, hw⟩
  rw [split, hw, split, if_pos h, split, cut, cut, e]
  split <;> simp

/-! ### words -/
theorem okb_iff (x : UInt8) : okb x = true ↔ x = 32 ∨ okw x = true := by simp [okb]
theorem okw_ne {x : UInt8} (h : okw x = true) : x ≠ 32 := by
  rintro rfl; exact absurd h (by decide)
theorem fold_mem (c : UInt8) (l : List UInt8) (d : List (List UInt8)) (r x : List UInt8) (h : x ∈ d) : x ∈ (l.foldl (step c) (d, r)).1 := by
  have := fold_ahead c d l [] r
  rw [List.append_nil] at this
  rw [this]
  exact List.mem_append_left _ h
theorem ws_gen : ∀ (l : List UInt8) (d : List (List UInt8)) (r : List UInt8), (∀ x ∈ d, x ≠ []) →
    ws r.isEmpty l = (l.all okb && ((l.foldl (step 32) (d, r)).1 ++ [(l.foldl (step 32) (d, r)).2]).all (fun x => !x.isEmpty))
  | [], d, r, h => by
    have : d.all (fun x => !x.isEmpty) = true := by simpa using h
    simp only [ws, List.foldl_nil, List.all_nil, Bool.true_and, List.all_append, this, List.all_cons, Bool.and_true]
  | x :: t, d, r, h => by
    simp only [ws, List.foldl_cons, step, List.all_cons]
    by_cases hx : x = 32
    · subst hx
      rw [if_pos rfl, if_pos rfl]
      by_cases hr : r = []
      · subst hr
        have hm : ([] : List UInt8) ∈ (t.foldl (step 32) (d ++ [[]], [])).1 := fold_mem _ _ _ _ _ (by simp)
        have : (((t.foldl (step 32) (d ++ [[]], [])).1 ++ [(t.foldl (step 32) (d ++ [[]], [])).2]).all (fun x => !x.isEmpty)) = false := by
          rw [List.all_eq_false]
          exact ⟨[], List.mem_append_left _ hm, by simp⟩
        rw [this]
        simp
      · have h2 := ws_gen t (d ++ [r]) [] (by
          intro y hy
          rcases List.mem_append.1 hy with hy | hy
          · exact h y hy
          · simp at hy; subst hy; exact hr)
        rw [show r.isEmpty = false by simpa using hr]
        simp only [List.isEmpty_nil] at h2
        rw [if_neg (by simp), h2]
        simp [okb]
    · rw [if_neg hx, if_neg hx]
      by_cases ho : okw x = true
      · have h2 := ws_gen t d (r ++ [x]) h
        rw [show (r ++ [x]).isEmpty = false by simp] at h2
        rw [if_pos ho, h2]
        simp [okb, ho]
      · rw [if_neg ho]
        simp [okb, hx, ho]
theorem ws_eq (l : List UInt8) : ws true l = (l.all okb && (cut 32 l).all (fun x => !x.isEmpty)) := ws_gen l [] [] (by simp)
theorem words_line (L : List (List UInt8)) (hne : L ≠ []) (h : ∀ x ∈ L, x ≠ [] ∧ ∀ b ∈ x, okw b = true) : ws true (line L) = true ∧ words (line L) = L := by
  obtain ⟨D, r, rfl⟩ : ∃ D r, L = D ++ [r] := ⟨L.dropLast, L.getLast hne, (List.dropLast_concat_getLast hne).symm⟩
  have no : ∀ x ∈ D ++ [r], (32 : UInt8) ∉ x := fun x hx hb => okw_ne ((h x hx).2 _ hb) rfl
  have hst : st 32 (line (D ++ [r])) = (D, r) := by
    rw [line, join_snoc]
    exact st_pieces 32 D r (fun x hx => no x (List.mem_append_left _ hx)) (no r (by simp))
  have hc : cut 32 (line (D ++ [r])) = D ++ [r] := by rw [cut, hst]
  have hw : ws true (line (D ++ [r])) = true := by
    rw [ws_eq, hc, Bool.and_eq_true]
    constructor
    · rw [line, join_snoc, List.all_eq_true]
      intro b hb
      rw [okb_iff]
      rcases List.mem_append.1 hb with hb | hb
      · obtain ⟨y, hy, hby⟩ := List.mem_flatten.1 hb
        obtain ⟨x, hx, rfl⟩ := List.mem_map.1 hy
        rcases List.mem_append.1 hby with hb2 | hb2
        · exact Or.inr ((h x (List.mem_append_left _ hx)).2 b hb2)
        · exact Or.inl (by simpa using hb2)
      · exact Or.inr ((h r (by simp)).2 b hb)
    · rw [List.all_eq_true]
      intro x hx
      have := (h x hx).1
      cases x <;> simp_all
  exact ⟨hw, by rw [words, hw, if_pos rfl, hc]⟩
theorem line_words (l : List UInt8) (h : ws true l = true) : line (words l) = l ∧ words l ≠ [] := by
  rw [words, if_pos h, line, cut, join_snoc, st_join]
  exact ⟨rfl, by simp⟩

theorem ws_cons (p : Bool) (x : UInt8) (t : List UInt8) : ws p (x :: t) = if x = 32 then (if p then false else ws true t) else (if okw x then ws false t else false) := rfl
end Go.Proofs.YtaheiolbeiofpaaGreatDoor.Ln
/-
  Slices of texts in memory: which texts their cells hold; kept where nothing below the heap's end changes. And the small words that the walks of layer 2 use.
-/
namespace Go.Proofs.YtaheiolbeiofpaaGreatDoor
open Go.RowKit

theorem drop_cons (s : ByteArray) (k : Nat) (h : k < s.size) : s.data.toList.drop k = s[k] :: s.data.toList.drop (k + 1) := by
  rw [List.drop_eq_getElem_cons (by simpa using h)]; rfl
theorem below_drewN {B : Nat} {a w : World} (h : Below B a w) (n : Nat) : Below B a (w.drewN n) := ⟨h.os, h.tape, h.output, h.size, h.block⟩
theorem below_of_drewN {B : Nat} {a w : World} (h : Below B a w) (n m k : Nat) : Below B a (((w.drewN n).drewN m).drewN k) := below_drewN (below_drewN (below_drewN h n) m) k

/-- The cells from A on hold these texts. -/
def Strs (w : World) (A : Option Addr) (L : List (List UInt8)) : Prop :=
  ∀ k x, L[k]? = some x → ∃ a, A = some a ∧ a.block < w.heap.size ∧ w.cell? (a.add k) = some (str x)
theorem add_block (a : Addr) (k : Nat) : (a.add k).block = a.block := by unfold Addr.add; split <;> rfl
theorem Strs.nil (w : World) (A : Option Addr) : Strs w A [] := fun k x h => by simp at h
theorem Strs.below {w w' : World} {A : Option Addr} {L : List (List UInt8)} {B : Nat} (h : Strs w A L) (hB : B = w.heap.size) (hb : Below B w w') : Strs w' A L := fun k x hx => by
  subst hB
  obtain ⟨a, rfl, h1, h2⟩ := h k x hx
  have := hb.size
  exact ⟨a, rfl, by omega, by rw [hb.cell (by rw [add_block]; exact h1)]; exact h2⟩
theorem Strs.take {w : World} {A : Option Addr} {L : List (List UInt8)} (h : Strs w A L) (n : Nat) : Strs w A (L.take n) := fun k x hx => h k x (by
  rw [List.getElem?_take] at hx
  split at hx
  · exact hx
  · cases hx)
theorem Strs.cell {w : World} {A : Option Addr} {L : List (List UInt8)} (h : Strs w A L) {k : Nat} (hk : k < L.length) : ∃ a, A = some a ∧ a.block < w.heap.size ∧ w.cell? (a.add k) = some (str L[k]) := h k _ (List.getElem?_eq_getElem hk)
theorem Strs.of_own {w : World} {base : Nat} {e : TypeId} {v : Value} {n : Nat} {L : List (List UInt8)} (h : w.ownsRow base e 1 v n (L.map str)) :
    n = L.length ∧ ∃ A c, v = .slice A n c ∧ n ≤ c ∧ Strs w A L := by
  have hl : L.length = n := by simpa using h.1
  refine ⟨hl.symm, ?_⟩
  rcases h.2 with ⟨rfl, rfl⟩ | ⟨g, cap, cur, rfl, _, hh, hc, _⟩
  · exact ⟨none, 0, rfl, Nat.le_refl _, by rw [List.eq_nil_of_length_eq_zero hl]; exact Strs.nil _ _⟩
  · refine ⟨some ⟨g, 0, none⟩, cap, rfl, hc, fun k x hx => ⟨_, rfl, ?_, ?_⟩⟩
    · exact (Array.getElem?_eq_some_iff.1 hh).1
    · exact h.cells (g := g) rfl k _ (by rw [List.getElem?_map, hx]; rfl)
/-- A block of these texts that was laid just now. -/
theorem Strs.fresh (w : World) (L : List (List UInt8)) (t : TypeId) : Strs (w.alloc (.cells (L.map str).toArray t)) (some ⟨w.heap.size, 0, none⟩) L := fun k x hx => by
  refine ⟨_, rfl, by simp, ?_⟩
  rw [Go.WideShapes.add_plain, Nat.zero_add, cell_of_row _ _ _ _ _ _ (heap_alloc_new w _)]
  simp [hx]

/-- The library's bound on its table holds an integer. -/
def MaxOk (w : World) : Prop := ∃ m : Int, w.cell? ⟨0, 0, none⟩ = some (.int .i64 m)
theorem MaxOk.below {w w' : World} {B : Nat} (h : MaxOk w) (hB : B = w.heap.size) (hb : Below B w w') : MaxOk w' := by
  subst hB
  obtain ⟨m, hm⟩ := h
  exact ⟨m, by rw [hb.cell (World.block_lt_of_cell? _ _ hm)]; exact hm⟩

/-- What a function that makes texts and a truth leaves. -/
def GivesList (L : List (List UInt8)) (b : Bool) (w : World) (e : Ending) (w' : World) : Prop :=
  ∃ A c, L.length ≤ c ∧ e = .returned (.tuple #[.slice A L.length c, .bool b]) ∧ Strs w' A L ∧ Below w.heap.size w w'
theorem GivesList.mk {L : List (List UInt8)} {b : Bool} {w w' : World} {e : Ending} {A : Option Addr} {n c : Nat} (hc : n ≤ c) (hn : n = L.length) (he : e = .returned (.tuple #[.slice A n c, .bool b])) (hs : Strs w' A L) (hb : Below w.heap.size w w') :
    GivesList L b w e w' := by subst hn; exact ⟨A, c, hc, he, hs, hb⟩
end Go.Proofs.YtaheiolbeiofpaaGreatDoor
/-
  Appends of texts' slices: the library's law under a guard, and what it asks of the cells (no function of Tryz is named here).
-/
namespace Go.Proofs.YtaheiolbeiofpaaGreatDoor
open Go.RowKit

/-- The library's law on append onto a slice of the call's own, at an operation whose guard says yes. -/
theorem wpList_append_own_g {P : Program} (w : World) {ops : Array Oper} {rest : List Oper} {o : Oper} {a : Act} {Q : Exit → Act → World → Prop} (hw : Region.wanted o (yielded ops a.tmps) = true) (s x : Operand) (t : TypeId)
    (ho : o.op = .call { callee := .builtin .append, args := #[s, x], argTypes := #[t, t] })
    (base : Nat) (e : TypeId) (i : TypeInfo) (z : Value) (size bytes : Nat) (ht : P.underlying t = some (.slice e)) (hi : P.info? e = some i) (hz : i.zero = some z)
    (hsize : i.size = size) (hby : i.bytes = bytes) (hzs : z.cells.size = size) (hsz : 0 < size)
    (v : Value) (n : Nat) (xs : List Value) (hs : a.eval s = v) (hown : w.ownsRow base e size v n xs)
    (ad : Addr) (m c : Nat) (news : List Value) (hx : a.eval x = .slice (some ad) m c) (hl : news.length = m * size) (hnews : ∀ j u, news[j]? = some u → w.cell? (ad.add j) = some u) (h1 : ∀ u ∈ news, u.oneCell' = true)
    (h63 : n + m ≤ maxLen) (hbytes : (n + m) * bytes ≤ 140737488355328) (hbase : base ≤ w.heap.size)
    (h : ∀ v' w', w'.ownsRow base e size v' (n + m) (xs ++ news) → w.grownBy w' v.ownBlock → wpList P ops Q rest (a.put o.dst v') w') : wpList P ops Q (o :: rest) a w :=
  BigFrame.wpList_want hw fun _ hK => wp_append_own w s x t ho base e i z size bytes ht hi hz hsize hby hzs hsz v n xs hs hown ad m c news hx hl hnews h1 h63 hbytes hbase fun v' w' h2 h3 _ => hK _ _ (h v' w' h2 h3)
theorem str_one (L : List (List UInt8)) : ∀ u ∈ L.map str, u.oneCell' = true := fun u hu => by
  obtain ⟨x, _, rfl⟩ := List.mem_map.1 hu
  rfl
theorem Strs.news {w : World} {a : Addr} {L : List (List UInt8)} (h : Strs w (some a) L) : ∀ j u, (L.map str)[j]? = some u → w.cell? (a.add j) = some u := fun j u hu => by
  rw [List.getElem?_map] at hu
  cases hj : L[j]? with
  | none => rw [hj] at hu; cases hu
  | some x =>
    rw [hj] at hu
    cases hu
    obtain ⟨a', ha, _, hc⟩ := h j x hj
    cases ha
    exact hc
end Go.Proofs.YtaheiolbeiofpaaGreatDoor
/-
  The walks of the small functions of layer 2 and of its laws' helpers: seen, worded, short, same.
-/
namespace Go.Proofs.YtaheiolbeiofpaaGreatDoor
open Go.RowKit

set_option maxHeartbeats 400000 in
theorem seen_any (c : UInt8) (w : World) :
    Calls Tryz.prog 134 #[.int .u8 c.toNat] w fun e w' => e = .returned (.bool (Ln.okw c)) ∧ w' = w := by
  go_enter Tryz.func134, Tryz.ntmps134
  go_wp2
  all_goals (go_ret; refine ⟨retB ?_, rfl⟩; rw [Bool.eq_iff_iff]; simp [Ln.okw]; try omega)

theorem byte32 {c : UInt8} : ((c.toNat : Int) == 32) = true ↔ c = 32 := by
  rw [beq_iff_eq]
  constructor
  · intro h; exact UInt8.toNat_inj.mp (by simpa using Int.ofNat.inj h)
  · rintro rfl; rfl
/-- The three ways of a byte, as the walk spells the tests. -/
theorem byte_cases (c : UInt8) : (((c.toNat : Int) == (((⟨#[32]⟩ : ByteArray)[0]'(by decide)).toNat : Int)) = true ∧ ((c.toNat : Int) != (((⟨#[32]⟩ : ByteArray)[0]'(by decide)).toNat : Int)) = false ∧ c = 32) ∨
    (((c.toNat : Int) == (((⟨#[32]⟩ : ByteArray)[0]'(by decide)).toNat : Int)) = false ∧ ((c.toNat : Int) != (((⟨#[32]⟩ : ByteArray)[0]'(by decide)).toNat : Int)) = true ∧ Ln.okw c = true ∧ c ≠ 32) ∨
    (((c.toNat : Int) == (((⟨#[32]⟩ : ByteArray)[0]'(by decide)).toNat : Int)) = false ∧ ((c.toNat : Int) != (((⟨#[32]⟩ : ByteArray)[0]'(by decide)).toNat : Int)) = true ∧ Ln.okw c = false ∧ c ≠ 32) := by
  by_cases h : c = 32
  · subst h; exact Or.inl ⟨by decide, by decide, rfl⟩
  · have h1 : ((c.toNat : Int) == (((⟨#[32]⟩ : ByteArray)[0]'(by decide)).toNat : Int)) = false := by
      rw [Bool.eq_false_iff]; exact fun e => h (byte32.mp e)
    have h2 : ((c.toNat : Int) != (((⟨#[32]⟩ : ByteArray)[0]'(by decide)).toNat : Int)) = true := by rw [bne, h1]; rfl
    cases ho : Ln.okw c
    · exact Or.inr (Or.inr ⟨h1, h2, rfl, h⟩)
    · exact Or.inr (Or.inl ⟨h1, h2, rfl, h⟩)
theorem seen_of (c : UInt8) (b : Bool) (h : Ln.okw c = b) (w : World) : Calls Tryz.prog 134 #[.int .u8 c.toNat] w fun e w' => e = .returned (.bool b) ∧ w' = w := by
  subst h; exact seen_any c w
theorem ws_blank (s : ByteArray) (k : Nat) (hk : k < s.size) (h : s[k] = 32) (p : Bool) : Ln.ws p (s.data.toList.drop k) = if p then false else Ln.ws true (s.data.toList.drop (k + 1)) := by
  rw [drop_cons s k hk, Ln.ws_cons, if_pos h]
theorem ws_word (s : ByteArray) (k : Nat) (hk : k < s.size) (h : s[k] ≠ 32) (p : Bool) : Ln.ws p (s.data.toList.drop k) = if Ln.okw s[k] then Ln.ws false (s.data.toList.drop (k + 1)) else false := by
  rw [drop_cons s k hk, Ln.ws_cons, if_neg h]
theorem toList_inj {x y : List UInt8} (h : (txt x).toList = (txt y).toList) : x = y := by
  rw [ByteArray.toList_eq, ByteArray.toList_eq, txt_toList, txt_toList] at h
  exact h
def isShort (L : List (List UInt8)) : Bool := decide (L.length ≤ 20) && L.all fun x => decide (x.length ≤ 50)

set_option maxHeartbeats 1000000 in
theorem worded_any (s : ByteArray) (w : World) (hs : s.size ≤ maxLen) :
    Calls Tryz.prog 118 #[.string s] w fun e w' => e = .returned (.bool (Ln.ws true s.data.toList)) ∧ Below w.heap.size w w' := by
  unfold maxLen at hs
  go_enter Tryz.func118, Tryz.ntmps118
  go_wp2
  go_loopw [3, 7] (fun p i wr => ∃ (k : Nat) (b : Bool), k ≤ s.size ∧ i = .int .i64 k ∧ p = .bool b ∧ Ln.ws b (s.data.toList.drop k) = Ln.ws true s.data.toList ∧ Below w.heap.size w wr) (fun _ i _ => s.size - (intOf i).toNat)
  case atStart => exact ⟨0, true, Nat.zero_le _, rfl, rfl, by simp, Below.refl _ _⟩
  case round =>
    obtain ⟨k, b, hk, rfl, rfl, hws, hbel⟩ := hrel
    have HW := Lib.hid hws
    clear hws
    by_cases hlt : k < s.size
    · rcases byte_cases s[k] with ⟨h1, h2, h3⟩ | ⟨h1, h2, h3, h4⟩ | ⟨h1, h2, h3, h4⟩
      · have C := Lib.hid (seen_of 32 false rfl)
        have HE := Lib.hid (ws_blank s k hlt h3 b)
        clear h3
        cases b
        · go_wp2
          go_quiet ((go_at_call 134; exact Calls.quiet_of_same (C.out _)))
          go_wp2
          go_quiet ((go_at_call 134; exact Calls.quiet_of_same (C.out _)))
          go_wp2
          go_quiet ((go_at_call 134; exact Calls.quiet_of_same (C.out _)))
          go_wp2
          go_roundw
          case rel => exact ⟨k + 1, true, by omega, by go_num, rfl, by rw [← HW.out, HE.out]; rfl, below_drewN hbel _⟩
          case measure => simp [intOf]; omega
        · go_wp2
          go_quiet ((go_at_call 134; exact Calls.quiet_of_same (C.out _)))
          go_wp2
          go_quiet ((go_at_call 134; exact Calls.quiet_of_same (C.out _)))
          go_wp2
          go_ret
          exact ⟨retB (by rw [← HW.out, HE.out]; rfl), below_of_drewN hbel _ _ 0⟩
      · have C := Lib.hid (seen_of s[k] true h3)
        have HE := Lib.hid (ws_word s k hlt h4 b)
        have H3 := Lib.hid h3
        clear h3 h4
        go_wp2
        go_quiet ((go_at_call 134; exact Calls.quiet_of_same (C.out _)))
        go_wp2
        go_quiet ((go_at_call 134; exact Calls.quiet_of_same (C.out _)))
        go_wp2
        go_quiet ((go_at_call 134; exact Calls.quiet_of_same (C.out _)))
        go_wp2
        go_roundw
        case rel => exact ⟨k + 1, false, by omega, by go_num, rfl, by rw [← HW.out, HE.out, H3.out]; rfl, below_drewN hbel _⟩
        case measure => simp [intOf]; omega
      · have C := Lib.hid (seen_of s[k] false h3)
        have HE := Lib.hid (ws_word s k hlt h4 b)
        have H3 := Lib.hid h3
        clear h3 h4
        go_wp2
        go_quiet ((go_at_call 134; exact Calls.quiet_of_same (C.out _)))
        go_wp2
        go_ret
        exact ⟨retB (by rw [← HW.out, HE.out, H3.out]; rfl), below_of_drewN hbel _ 0 0⟩
    · go_wp2
      go_ret
      refine ⟨retB ?_, hbel⟩
      rw [← HW.out, List.drop_of_length_le (by simp; omega)]; rfl

end Go.Proofs.YtaheiolbeiofpaaGreatDoor
/-
  The walks of layer 2's four functions, over the library's contracts of strings.Split, strings.Join and strings.Builder.
-/
namespace Go.Proofs.YtaheiolbeiofpaaGreatDoor
open Go.RowKit

/-- strings.Split at one byte. -/
theorem split_lib (c : UInt8) (s : ByteArray) (w : World) (hM : MaxOk w) (hs : s.size ≤ 1000000) (d : List (List UInt8)) (r : List UInt8) (hst : Ln.st c s.data.toList = (d, r)) :
    Calls Tryz.prog 119 #[.string s, .string ⟨#[c]⟩] w fun e w' => ∃ a, e = .returned (.slice (some a) (d.length + 1) (d.length + 1)) ∧ Strs w' (some a) (d ++ [r]) ∧ Below w.heap.size w w' := by
  obtain ⟨m, hm⟩ := hM
  refine (Tryz.strings_Split s ⟨#[c]⟩ m w (by omega) hm (Nat.le_refl 1)).mono ?_
  rintro e w' ⟨rfl, rfl⟩
  have hl := Ln.cut_length c s
  have hp := Ln.splitB_cut c s
  have hcut : Ln.cut c s.data.toList = d ++ [r] := by rw [Ln.cut, hst]
  rw [hcut] at hl hp
  rw [List.length_append, List.length_singleton] at hl
  refine ⟨_, by rw [← hl], ?_, (Below.refl _ _).alloc (Nat.le_refl _) _⟩
  have : (Lib.splitB ⟨#[c]⟩ 0 (Lib.countB s ⟨#[c]⟩) s).map Value.string = (d ++ [r]).map str := by
    rw [← hp, List.map_map]
    apply List.map_congr_left
    intro x _
    simp [str_of]
  rw [this]
  exact Strs.fresh w _ _

theorem isE_t {r : List UInt8} (h : r = []) : (txt r).toList.isEmpty = true := by
  rw [ByteArray.toList_eq, txt_toList]; simpa using h
theorem isE_f {r : List UInt8} (h : r ≠ []) : (txt r).toList.isEmpty = false := by
  rw [ByteArray.toList_eq, txt_toList]; simpa using h

/-- The same, where the slice is known not to be nil. -/
def GivesSome (L : List (List UInt8)) (b : Bool) (w : World) (e : Ending) (w' : World) : Prop :=
  ∃ a c, L.length ≤ c ∧ e = .returned (.tuple #[.slice (some a) L.length c, .bool b]) ∧ Strs w' (some a) L ∧ Below w.heap.size w w'
theorem GivesSome.mk {L : List (List UInt8)} {b : Bool} {w w' : World} {e : Ending} {a : Addr} {n c : Nat} (hc : n ≤ c) (hn : n = L.length) (he : e = .returned (.tuple #[.slice (some a) n c, .bool b])) (hs : Strs w' (some a) L) (hb : Below w.heap.size w w') :
    GivesSome L b w e w' := by subst hn; exact ⟨a, c, hc, he, hs, hb⟩
set_option maxHeartbeats 1000000 in
theorem words_any (s : ByteArray) (w : World) (hM : MaxOk w) (hs : s.size ≤ 1000000) :
    Calls Tryz.prog 92 #[.string s] w (GivesList (Ln.words s.data.toList) (Ln.ws true s.data.toList) w) := by
  obtain ⟨d, r, hst⟩ : ∃ d r, Ln.st 32 s.data.toList = (d, r) := ⟨_, _, rfl⟩
  have W := Lib.hid (worded_any s w (by unfold maxLen; omega))
  have C := Lib.hid (fun w' hM => split_lib 32 s w' hM hs d r hst)
  have HST := Lib.hid hst
  have HM := Lib.hid hM
  clear hst hM
  cases hb : Ln.ws true s.data.toList
  · have HB := Lib.hid hb
    rw [hb] at W
    clear hb
    go_enter Tryz.func92, Tryz.ntmps92
    go_wp2_with fail
    refine W.out.mono ?_; rintro e w1 ⟨rfl, hb1⟩
    go_wp2
    go_ret2
    rw [Ln.words, HB.out]
    exact GivesList.mk (n := 0) (c := 0) (by omega) rfl rfl (Strs.nil _ _) hb1
  · have HB := Lib.hid hb
    rw [hb] at W
    clear hb
    go_enter Tryz.func92, Tryz.ntmps92
    go_wp2_with fail
    refine W.out.mono ?_; rintro e w1 ⟨rfl, hb1⟩
    have HM1 := Lib.hid (HM.out.below rfl hb1)
    have hz := hb1.size
    go_wp2_with fail
    refine (C.out _ HM1.out).mono ?_; rintro e w2 ⟨a, rfl, hs2, hb2⟩
    go_wp2
    go_ret2
    have e2 : Ln.words s.data.toList = d ++ [r] := by rw [Ln.words, HB.out, if_pos rfl, Ln.cut, HST.out]
    rw [e2]
    exact GivesList.mk (n := d.length + 1) (c := d.length + 1) (by omega) (by simp) rfl hs2 (hb1.trans (hb2.mono hz))

/-- The builder's WriteString at this translation. -/
theorem write_k (b : Nat) (l : List UInt8) (s : ByteArray) (w : World) (h : Lib.IsBuilderF 164 5 b b (Lib.byteCells l) w) (hlen : l.length + s.size ≤ 140737488355328) (hBw : b ≤ w.heap.size) :
    Calls Tryz.prog 149 #[.pointer (some ⟨b, 0, none⟩), .string s] w fun e w' => e = .returned (.tuple #[.int .i64 s.size, .nilIface]) ∧ Lib.IsBuilderF 164 5 b b (Lib.byteCells (l ++ s.data.toList)) w' ∧ Below b w w' :=
  (Any.Builder_WriteString_k (P := Tryz.prog) (ρ := Tryz.lays156_ren) { Tryz.lays156 with } Tryz.Builder_Extra_156 b b (Lib.byteCells l) s w h (by rw [Lib.byteCells_length]; exact hlen) hBw).mono fun _ _ ⟨h1, h2, h3, h4⟩ => ⟨h1, by
    rw [Lib.byteCells_append]; exact Or.inr h2, h3⟩

theorem text_take (L : List (List UInt8)) (k : Nat) (h : k < L.length) : Ln.text (L.take (k + 1)) = Ln.text (L.take k) ++ L[k] ++ [10] := by
  rw [List.take_succ_eq_append_getElem h]
  simp only [Ln.text, List.map_append, List.flatten_append, List.map_cons, List.map_nil, List.flatten_cons, List.flatten_nil, List.append_nil, List.append_assoc]
theorem text_take_le (L : List (List UInt8)) (k : Nat) : (Ln.text (L.take k)).length ≤ (Ln.text L).length := by
  have : Ln.text L = Ln.text (L.take k) ++ Ln.text (L.drop k) := by
    conv => lhs; rw [← List.take_append_drop k L]
    simp only [Ln.text, List.map_append, List.flatten_append]
  rw [this, List.length_append]; omega
theorem txt_map (L : List (List UInt8)) : (L.map txt).map (·.data.toList) = L := by
  rw [List.map_map]
  conv => rhs; rw [← List.map_id L]
  apply List.map_congr_left
  intro x _
  simp [txt_toList]
set_option maxHeartbeats 1000000 in
theorem line_any (A : Option Addr) (c : Nat) (L : List (List UInt8)) (w : World) (h : Strs w A L) (hl : L.length ≤ c) (hl2 : L.length ≤ 1000000) (hx : (Ln.line L).length ≤ 10000000) :
    Calls Tryz.prog 124 #[.slice A L.length c] w fun e w' => e = .returned (.string (txt (Ln.line L))) ∧ Below w.heap.size w w' := by
  have C : Calls Tryz.prog 140 #[.slice A L.length c, .string ⟨#[32]⟩] w fun e w' => e = .returned (.string (txt (Ln.line L))) ∧ Below w.heap.size w w' := by
    cases L with
    | nil => exact (Tryz.strings_Join_none A c ⟨#[32]⟩ w).mono fun e w' ⟨h1, h2⟩ => by subst h2; exact ⟨h1, Below.refl _ _⟩
    | cons x t =>
      obtain ⟨a, rfl, hb, hc⟩ := h 0 x rfl
      obtain ⟨bk, o, sp⟩ := a
      obtain rfl : sp = none := by simpa [Addr.add] using World.cell?_spot hc
      have e1 : ((x :: t).map txt).length = (x :: t).length := by simp
      have := Tryz.strings_Join bk o c ((x :: t).map txt) ⟨#[32]⟩ w (fun j y hy => by
        rw [List.getElem?_map] at hy
        cases hj : (x :: t)[j]? with
        | none => rw [hj] at hy; cases hy
        | some z =>
          rw [hj] at hy
          obtain ⟨a', ha, _, hc'⟩ := h j z hj
          cases ha
          cases hy
          rw [← Go.WideShapes.add_plain]; exact hc') hb (by rw [e1]; omega) (by rw [e1]; exact hl) (by rw [txt_map]; unfold Ln.line at hx; simp only [] ; omega)
      rw [e1, txt_map] at this
      exact this
  have H := Lib.hid C
  clear C
  go_enter Tryz.func124, Tryz.ntmps124
  go_wp2_with fail
  refine H.out.mono ?_; rintro e w1 ⟨rfl, hb1⟩
  go_wp2
  go_ret
  exact ⟨rfl, hb1⟩
end Go.Proofs.YtaheiolbeiofpaaGreatDoor
/-
  The walks of the document's answers of layer 2: lines, words, and both put together.
-/
namespace Go.Proofs.YtaheiolbeiofpaaGreatDoor
open Go.RowKit

theorem infoStr : (Tryz.prog.info? 9).map (fun i => (i.zero, i.size, i.bytes)) = some (some (.string ByteArray.empty), 1, 16) := by kernel_rfl

theorem byte_is (c : UInt8) (n : Nat) (h : n < 256) : ((c.toNat : Int) == (n : Int)) = decide (c = UInt8.ofNat n) := by
  rw [Bool.eq_iff_iff, beq_iff_eq, decide_eq_true_iff]
  constructor
  · intro e; apply UInt8.toNat_inj.mp; rw [UInt8.toNat_ofNat']; omega
  · rintro rfl; rw [UInt8.toNat_ofNat']; omega
theorem extract_txt (s : ByteArray) (f k : Nat) : txt ((s.data.toList.take k).drop f) = s.extract f k := by
  apply ByteArray.ext
  simp [txt, ByteArray.data_extract, List.drop_take]
  apply Array.ext'
  simp [Array.toList_extract]
theorem ref_hit (c : UInt8) (s : ByteArray) (k : Nat) (d : List (List UInt8)) (r : List UInt8) (hk : k < s.size) (hst : Ln.st c (s.data.toList.take k) = (d, r)) (h : s[k] = c) :
    Ln.st c (s.data.toList.take (k + 1)) = (d ++ [r], []) := by
  rw [take_snoc s k hk, Ln.st_snoc, hst, Ln.step, if_pos h]
theorem ref_miss (c : UInt8) (s : ByteArray) (k : Nat) (d : List (List UInt8)) (r : List UInt8) (hk : k < s.size) (hst : Ln.st c (s.data.toList.take k) = (d, r)) (h : s[k] ≠ c) :
    Ln.st c (s.data.toList.take (k + 1)) = (d, r ++ [s[k]]) := by
  rw [take_snoc s k hk, Ln.st_snoc, hst, Ln.step, if_neg h]
theorem drop_next (s : ByteArray) (f k : Nat) (r : List UInt8) (hk : k < s.size) (hf : f ≤ k) (h : (s.data.toList.take k).drop f = r) : (s.data.toList.take (k + 1)).drop f = r ++ [s[k]] := by
  rw [take_snoc s k hk, List.drop_append_of_le_length (by simp; omega), h]
theorem drop_none (s : ByteArray) (k : Nat) : (s.data.toList.take k).drop k = [] := by
  rw [List.drop_eq_nil_iff]; simp; omega

set_option maxHeartbeats 1000000 in
theorem rsplit_any (s : ByteArray) (w : World) (hs : s.size ≤ 1000000) :
    Calls Tryz.prog 41 #[.string s] w (GivesList (Ln.split s.data.toList) (Ln.whole s.data.toList) w) := by
  obtain ⟨i0, hi, hz0, hz1, hz2⟩ := info_parts infoStr
  go_enter Tryz.func41, Tryz.ntmps41
  go_wp2
  go_loopw [4, 5, 6] (fun v f i wr => ∃ (k j : Nat) (d : List (List UInt8)) (r : List UInt8), k ≤ s.size ∧ j ≤ k ∧ i = .int .i64 k ∧ f = .int .i64 j ∧ Ln.st 10 (s.data.toList.take k) = (d, r) ∧ (s.data.toList.take k).drop j = r ∧
      wr.ownsRow w.heap.size 9 1 v d.length (d.map str) ∧ Below w.heap.size w wr) (fun _ _ i _ => s.size - (intOf i).toNat)
  case atStart => exact ⟨0, 0, [], [], Nat.zero_le _, Nat.le_refl _, rfl, rfl, rfl, rfl, World.ownsRow_nil _ _ _ _, Below.refl _ _⟩
  case round =>
    obtain ⟨k, j, d, r, hk, hj, rfl, rfl, hst, hr, hown, hbel⟩ := hrel
    have hd : d.length ≤ k := by
      have := Ln.st_len 10 (s.data.toList.take k)
      rw [hst] at this
      simp at this; omega
    have hz := hbel.size
    by_cases hlt : k < s.size
    · have hb := byte_is s[k] 10 (by omega)
      by_cases hc : s[k] = 10
      · have h1 : ((s[k].toNat : Int) == 10) = true := by rw [show (10 : Int) = ((10 : Nat) : Int) from rfl, hb]; exact dec_t hc
        have N := Lib.hid (ref_hit 10 s k d r hlt hst hc)
        have X := Lib.hid (extract_txt s j k)
        rw [hr] at X
        clear hb hc hst hr
        go_wp2_with (at_builtin; refine wpList_append_own _ rfl (.tmp 17) (.tmp 22) 79 rfl w.heap.size 9 i0 (.string ByteArray.empty) 1 16 Tryz.underlying79 hi hz0 hz1 hz2 rfl (by decide) _ _ _ rfl (hown.alloc _) ⟨wr.heap.size, 0, none⟩ 1 1 [.string (s.extract j k)] rfl rfl (cell_one_new _ _ _) (fun x hx => by simp at hx; subst hx; rfl) (by unfold maxLen; omega) (by omega) (by simp; omega) ?_; intro v1 w1 hown1 hg1 _)
        have hbel1 : Below w.heap.size w w1 := (hbel.alloc hz _).grown hg1 (by simp; omega) (fun g hg => (hown.lt g hg).1)
        have O1 := Lib.hid hown1
        clear hown1 hg1 hown
        go_roundw
        case rel =>
          refine ⟨k + 1, k + 1, d ++ [r], [], by omega, by omega, by go_num, by go_num, N.out, drop_none s (k + 1), ?_, hbel1⟩
          have e1 : (d ++ [r]).map str = d.map str ++ [.string (s.extract j k)] := by rw [List.map_append, List.map_singleton, str, X.out]
          rw [e1, List.length_append, List.length_singleton]
          exact O1.out
        case measure => simp [intOf]; omega
      · have h1 : ((s[k].toNat : Int) == 10) = false := by rw [show (10 : Int) = ((10 : Nat) : Int) from rfl, hb]; exact dec_f hc
        have N := Lib.hid (ref_miss 10 s k d r hlt hst hc)
        have X := Lib.hid (drop_next s j k r hlt hj hr)
        have O := Lib.hid hown
        clear hb hc hst hr hown
        go_wp2
        go_roundw
        case rel => exact ⟨k + 1, j, d, r ++ [s[k]], by omega, by omega, by go_num, rfl, N.out, X.out, O.out, hbel⟩
        case measure => simp [intOf]; omega
    · obtain rfl : k = s.size := by omega
      have hall : s.data.toList.take s.size = s.data.toList := List.take_of_length_le (by simp)
      rw [hall] at hst hr
      have hrl : r.length = s.size - j := by rw [← hr]; simp
      have X := Lib.hid (extract_txt s j s.size)
      rw [hall, hr] at X
      by_cases hjs : j < s.size
      · have hrne : r ≠ [] := by intro e; rw [e] at hrl; simp at hrl; omega
        have e1 : Ln.whole s.data.toList = false := by rw [Ln.whole, hst]; simpa using hrne
        have e2 : Ln.split s.data.toList = d ++ [r] := by rw [Ln.split, e1, Ln.cut, hst]; rfl
        have E := Lib.hid (And.intro e1 e2)
        clear e1 e2 hst hr hrl hrne
        go_wp2_with (at_builtin; refine wpList_append_own _ rfl (.tmp 30) (.tmp 34) 79 rfl w.heap.size 9 i0 (.string ByteArray.empty) 1 16 Tryz.underlying79 hi hz0 hz1 hz2 rfl (by decide) _ _ _ rfl (hown.alloc _) ⟨wr.heap.size, 0, none⟩ 1 1 [.string (s.extract j s.size)] rfl rfl (cell_one_new _ _ _) (fun x hx => by simp at hx; subst hx; rfl) (by unfold maxLen; omega) (by omega) (by simp; omega) ?_; intro v1 w1 hown1 hg1 _)
        have hbel1 : Below w.heap.size w w1 := (hbel.alloc hz _).grown hg1 (by simp; omega) (fun g hg => (hown.lt g hg).1)
        have e3 : (d ++ [r]).map str = d.map str ++ [.string (s.extract j s.size)] := by rw [List.map_append, List.map_singleton, str, X.out]
        rw [← e3] at hown1
        obtain ⟨hn, A, c, rfl, hcap, hs1⟩ := Strs.of_own hown1
        clear hown1 hown hg1
        go_wp2
        go_ret2
        rw [E.out.1, E.out.2]
        exact GivesList.mk hcap hn rfl hs1 hbel1
      · have hrn : r = [] := by apply List.eq_nil_of_length_eq_zero; omega
        have e1 : Ln.whole s.data.toList = true := by rw [Ln.whole, hst, hrn]; rfl
        have e2 : Ln.split s.data.toList = d := by rw [Ln.split, e1, hst]; rfl
        have E := Lib.hid (And.intro e1 e2)
        obtain ⟨hn, A, c, rfl, hcap, hs1⟩ := Strs.of_own hown
        clear e1 e2 hst hr hrl hrn hown
        go_wp2
        go_ret2
        rw [E.out.1, E.out.2]
        exact GivesList.mk hcap rfl rfl hs1 hbel

theorem take_line (L : List (List UInt8)) (k : Nat) (h : k < L.length) : Ln.line (L.take (k + 1)) = if k = 0 then L[k] else Ln.line (L.take k) ++ [32] ++ L[k] := by
  rw [List.take_succ_eq_append_getElem h, Ln.line, Ln.join_snoc]
  by_cases h0 : k = 0
  · subst h0; simp
  · rw [if_neg h0]
    obtain ⟨j, rfl⟩ : ∃ j, k = j + 1 := ⟨k - 1, by omega⟩
    have e : L.take (j + 1) = L.take j ++ [L[j]] := List.take_succ_eq_append_getElem (by omega)
    rw [e, Ln.line, Ln.join_snoc]
    simp only [List.map_append, List.flatten_append, List.map_cons, List.map_nil, List.flatten_cons, List.flatten_nil, List.append_nil, List.append_assoc]
theorem line_take_le (L : List (List UInt8)) : ∀ k, (Ln.line (L.take k)).length ≤ (Ln.line (L.take (k + 1))).length := by
  intro k
  by_cases h : k < L.length
  · rw [take_line L k h]
    split
    · rename_i h0; subst h0; simp [Ln.line, Lib.join]
    · rw [List.length_append, List.length_append]; omega
  · rw [List.take_of_length_le (by omega), List.take_of_length_le (by omega)]; omega
theorem line_take (L : List (List UInt8)) (k : Nat) : (Ln.line (L.take k)).length ≤ (Ln.line L).length := by
  by_cases h : k < L.length
  · have : ∀ n, (Ln.line (L.take k)).length ≤ (Ln.line (L.take (k + n))).length := by
      intro n
      induction n with
      | zero => simp
      | succ n ih => have := line_take_le L (k + n); rw [show k + (n + 1) = k + n + 1 by omega]; omega
    have := this (L.length - k)
    rwa [List.take_of_length_le (show L.length ≤ k + (L.length - k) by omega)] at this
  · rw [List.take_of_length_le (by omega)]; omega
theorem txt_add (a b : List UInt8) : txt a ++ txt b = txt (a ++ b) := by
  apply ByteArray.ext
  simp [txt, ByteArray.data_append]

set_option maxHeartbeats 1000000 in
theorem rtext_any (A : Option Addr) (c : Nat) (L : List (List UInt8)) (w : World) (h : Strs w A L) (hl : L.length ≤ 1000000) (hx : (Ln.text L).length ≤ 10000000) :
    Calls Tryz.prog 42 #[.slice A L.length c] w fun e w' => e = .returned (.string (txt (Ln.text L))) ∧ w = w' := by
  go_enter Tryz.func42, Tryz.ntmps42
  go_wp2
  go_loop [3, 4] (fun t i => ∃ k : Nat, k ≤ L.length ∧ i = .int .i64 k ∧ t = .string (txt (Ln.text (L.take k)))) (fun _ i => L.length - (intOf i).toNat)
  case atStart => exact ⟨0, Nat.zero_le _, rfl, rfl⟩
  case round =>
    obtain ⟨k, hk, rfl, rfl⟩ := hrel
    by_cases hlt : k < L.length
    · have ht := text_take L k hlt
      have hle := text_take_le L (k + 1)
      rw [ht] at hle
      simp only [List.length_append, List.length_singleton] at hle
      obtain ⟨a, rfl, hb, hc⟩ := h.cell hlt
      rw [str] at hc
      have hq := txt_size L[k]
      have hq2 := txt_size (Ln.text (L.take k))
      have HT := Lib.hid ht
      clear ht
      go_wp2
      go_round
      case rel => exact ⟨k + 1, by omega, by go_num, by rw [HT.out, ← txt_add, ← txt_add]; rfl⟩
      case measure => simp [intOf]; omega
    · have e : L.take k = L := List.take_of_length_le (by omega)
      rw [e]
      go_wp2
      go_ret
      exact ⟨rfl, rfl⟩

set_option maxHeartbeats 1000000 in
theorem rline_any (A : Option Addr) (c : Nat) (L : List (List UInt8)) (w : World) (h : Strs w A L) (hl : L.length ≤ 1000000) (hx : (Ln.line L).length ≤ 10000000) :
    Calls Tryz.prog 75 #[.slice A L.length c] w fun e w' => e = .returned (.string (txt (Ln.line L))) ∧ w = w' := by
  go_enter Tryz.func75, Tryz.ntmps75
  go_wp2
  go_loop [3, 4] (fun t i => ∃ k : Nat, k ≤ L.length ∧ i = .int .i64 k ∧ t = .string (txt (Ln.line (L.take k)))) (fun _ i => L.length - (intOf i).toNat)
  case atStart => exact ⟨0, Nat.zero_le _, rfl, rfl⟩
  case round =>
    obtain ⟨k, hk, rfl, rfl⟩ := hrel
    by_cases hlt : k < L.length
    · have ht := take_line L k hlt
      have hle := line_take L (k + 1)
      have hle0 := line_take L k
      obtain ⟨a, rfl, hb, hc⟩ := h.cell hlt
      rw [str] at hc
      have hq := txt_size L[k]
      have hq2 := txt_size (Ln.line (L.take k))
      by_cases h0 : k = 0
      · rw [if_pos h0] at ht
        rw [ht] at hle
        have HT := Lib.hid ht
        have h1 : ¬ 0 < k := by omega
        have H0 := Lib.hid h0
        clear ht h0
        go_wp2
        go_round
        case rel => exact ⟨k + 1, by omega, by go_num, by
          have h0 := H0.out
          rw [HT.out]
          subst h0
          exact congrArg Value.string (txt_add [] _)⟩
        case measure => simp [intOf]; omega
      · rw [if_neg h0] at ht
        rw [ht] at hle
        simp only [List.length_append, List.length_singleton] at hle
        have h1 : 0 < k := by omega
        have HT := Lib.hid ht
        clear ht h0
        go_wp2
        go_round
        case rel => exact ⟨k + 1, by omega, by go_num, by rw [HT.out, ← txt_add, ← txt_add]; rfl⟩
        case measure => simp [intOf]; omega
    · have e : L.take k = L := List.take_of_length_le (by omega)
      rw [e]
      go_wp2
      go_ret
      exact ⟨rfl, rfl⟩

theorem setLast (d : List (List UInt8)) (r r' : List UInt8) : ((d ++ [r]).map str).set d.length (str r') = (d ++ [r']).map str := by
  simp
theorem okw_bd {c : UInt8} (h : Ln.okw c = true) : 33 ≤ (c.toNat : Int) ∧ (c.toNat : Int) ≤ 126 := by simpa [Ln.okw] using h
theorem okw_no {c : UInt8} (h : Ln.okw c = false) (h2 : c ≠ 32) : (c.toNat : Int) < 32 ∨ 127 ≤ (c.toNat : Int) := by
  have h3 : (c.toNat : Int) ≠ 32 := fun e => h2 (UInt8.toNat_inj.mp (by simpa using Int.ofNat.inj e))
  simp [Ln.okw] at h
  omega
theorem ws_bad {s : ByteArray} {k : Nat} (hk : k < s.size) (h : Ln.okw s[k] = false) (h2 : s[k] ≠ 32) : Ln.ws true s.data.toList = false := by
  rw [Ln.ws_eq]
  have : s.data.toList.all Ln.okb = false := by
    rw [List.all_eq_false]
    refine ⟨s[k], ?_, by simp [Ln.okb, h, h2]⟩
    exact List.getElem_mem (l := s.data.toList) (n := k) (by simpa using hk)
  rw [this, Bool.false_and]

set_option maxHeartbeats 2000000 in
set_option maxRecDepth 100000 in
theorem rwords_any (s : ByteArray) (w : World) (hs : s.size ≤ 1000000) :
    Calls Tryz.prog 66 #[.string s] w (GivesList (Ln.words s.data.toList) (Ln.ws true s.data.toList) w) := by
  obtain ⟨i0, hi, hz0, hz1, hz2⟩ := info_parts infoStr
  go_enter Tryz.func66, Tryz.ntmps66
  go_wp2
  go_loopw [4, 5] (fun v i wr => ∃ (k : Nat) (d : List (List UInt8)) (r : List UInt8) (g cap : Nat), k ≤ s.size ∧ i = .int .i64 k ∧ v = .slice (some ⟨g, 0, none⟩) (d.length + 1) cap ∧ Ln.st 32 (s.data.toList.take k) = (d, r) ∧ (s.data.toList.take k).all Ln.okb = true ∧
      wr.ownsRow w.heap.size 9 1 (.slice (some ⟨g, 0, none⟩) (d.length + 1) cap) (d.length + 1) ((d ++ [r]).map str) ∧ Below w.heap.size w wr) (fun _ i _ => s.size - (intOf i).toNat)
  case atStart => exact ⟨0, [], [], w.heap.size, 1, Nat.zero_le _, rfl, rfl, rfl, rfl, World.ownsRow_lit w _ 1 (Nat.le_refl _) (by unfold maxLen; omega) rfl, (Below.refl _ _).alloc (Nat.le_refl _) _⟩
  case round =>
    obtain ⟨k, d, r, g, cap, hk, rfl, rfl, hst, hall, hown, hbel⟩ := hrel
    have hd : d.length ≤ k := by
      have := Ln.st_len 32 (s.data.toList.take k)
      rw [hst] at this
      simp at this; omega
    have hz := hbel.size
    by_cases hlt : k < s.size
    · by_cases hc : s[k] = 32
      · have h1 : ((s[k].toNat : Int) == 32) = true := byte32.mpr hc
        have N := Lib.hid (ref_hit 32 s k d r hlt hst hc)
        have AL := Lib.hid (all_snoc (p := Ln.okb) hlt hall (by rw [hc]; rfl))
        clear hc hst hall
        go_wp2_with (at_builtin; refine wpList_append_own _ rfl (.tmp 19) (.tmp 20) 79 rfl w.heap.size 9 i0 (.string ByteArray.empty) 1 16 Tryz.underlying79 hi hz0 hz1 hz2 rfl (by decide) _ _ _ rfl (hown.alloc _) ⟨wr.heap.size, 0, none⟩ 1 1 [.string ⟨#[]⟩] rfl rfl (cell_one_new _ _ _) (fun x hx => by simp at hx; subst hx; rfl) (by unfold maxLen; omega) (by omega) (by simp; omega) ?_; intro v1 w1 hown1 hg1 _)
        have hbel1 : Below w.heap.size w w1 := (hbel.alloc hz _).grown hg1 (by simp; omega) (fun g hg => (hown.lt g hg).1)
        obtain ⟨g1, cap1, hv1⟩ : ∃ g1 cap1, v1 = .slice (some ⟨g1, 0, none⟩) (d.length + 1 + 1) cap1 := by
          obtain ⟨g1, cap1, h, _⟩ := hown1.form (by omega)
          exact ⟨g1, cap1, h⟩
        subst hv1
        have O1 := Lib.hid hown1
        clear hown1 hg1 hown
        go_roundw
        case rel =>
          refine ⟨k + 1, d ++ [r], [], g1, cap1, by omega, by go_num, by simp, N.out, AL.out, ?_, hbel1⟩
          have e1 : ((d ++ [r]) ++ [[]]).map str = (d ++ [r]).map str ++ [.string ⟨#[]⟩] := by rw [List.map_append (l₂ := [[]])]; rfl
          rw [e1, List.length_append, List.length_singleton]
          exact O1.out
        case measure => simp [intOf]; omega
      · have h1 : ((s[k].toNat : Int) == 32) = false := by
          rw [Bool.eq_false_iff]; exact fun e => hc (byte32.mp e)
        cases ho : Ln.okw s[k]
        · have W := Lib.hid (ws_bad hlt ho hc)
          have h2 := okw_no ho hc
          clear hc ho hst hall hown
          rcases h2 with h2 | h2
          all_goals
            go_wp2
            go_ret2
            rw [Ln.words, W.out]
            exact GivesList.mk (n := 0) (c := 0) (by omega) rfl rfl (Strs.nil _ _) hbel
        · have h2 := okw_bd ho
          have N := Lib.hid (ref_miss 32 s k d r hlt hst hc)
          have AL := Lib.hid (all_snoc (p := Ln.okb) hlt hall (by simp [Ln.okb, ho]))
          have hr : r.length ≤ k := by
            have := congrArg List.length (Ln.st_join 32 (s.data.toList.take k))
            rw [hst] at this
            simp at this; omega
          have hcell : wr.cell? ⟨g, d.length, none⟩ = some (.string (txt r)) := by
            rw [hown.cellAt d.length (by omega)]; simp [str]
          have hfz := hown.frozenAt d.length
          have hsz := txt_size r
          clear hc ho hst hall
          have O := Lib.hid hown
          have hadd : (txt r).size + (s.extract k (k + 1)).size ≤ 9223372036854775807 := by rw [hsz, ByteArray.size_extract]; omega
          clear hown hsz
          go_wp2
          go_region
          go_wp2
          go_roundw
          case rel =>
            have e1 : txt r ++ s.extract k (k + 1) = txt (r ++ [s[k]]) := by
              rw [← extract_txt, take_snoc s k hlt, List.drop_append_of_le_length (by simp; omega), drop_none, List.nil_append, txt_add]
            have st := (O.out.drew).stored d.length (str (r ++ [s[k]]))
            rw [setLast] at st
            refine ⟨k + 1, d, r ++ [s[k]], g, cap, by omega, by go_num, rfl, N.out, AL.out, ?_, ?_⟩
            · rw [e1]; exact st.1
            · rw [e1]; exact hbel.drew.setCell (by have := (O.out.lt g (by simp [Value.ownBlock])).1; exact this) _
          case measure => simp [intOf]; omega
    · obtain rfl : k = s.size := by omega
      have e0 : s.data.toList.take s.size = s.data.toList := List.take_of_length_le (by simp)
      rw [e0] at hst hall
      have hcut : Ln.cut 32 s.data.toList = d ++ [r] := by rw [Ln.cut, hst]
      have hws : Ln.ws true s.data.toList = (d ++ [r]).all (fun x => !x.isEmpty) := by rw [Ln.ws_eq, hall, hcut, Bool.true_and]
      have E := Lib.hid (And.intro hcut hws)
      obtain ⟨hn, A, c, hv, hcap, hs1⟩ := Strs.of_own hown
      cases hv
      have HN := Lib.hid hn
      have hdb : d.length ≤ 1000000 := by omega
      clear e0 hst hall hcut hws hown hn
      go_wp2
      go_loop [6] (fun i => ∃ j : Nat, j ≤ d.length + 1 ∧ i = .int .i64 j ∧ ((d ++ [r]).take j).all (fun x => !x.isEmpty) = true) (fun i => d.length + 1 - (intOf i).toNat)
      case atStart => exact ⟨0, Nat.zero_le _, rfl, rfl⟩
      case round =>
        obtain ⟨j, hj, rfl, ha⟩ := hrel
        have HA := Lib.hid ha
        clear ha
        by_cases hlt2 : j < d.length + 1
        · have hjl : j < (d ++ [r]).length := by rw [← HN.out]; exact hlt2
          obtain ⟨a, ha, hb, hcl⟩ := hs1.cell hjl
          cases ha
          rw [str] at hcl
          rw [Go.WideShapes.add_plain, Nat.zero_add] at hcl
          by_cases he : (d ++ [r])[j] = []
          · have h1 := isE_t he
            have HE := Lib.hid he
            clear he
            go_wp2
            go_ret2
            have : (d ++ [r]).all (fun x => !x.isEmpty) = false := by
              rw [List.all_eq_false]
              exact ⟨_, List.getElem_mem hjl, by rw [HE.out]; simp⟩
            rw [Ln.words, E.out.2, this]
            exact GivesList.mk (n := 0) (c := 0) (by omega) rfl rfl (Strs.nil _ _) hbel
          · have h1 := isE_f he
            have HE := Lib.hid he
            clear he
            go_wp2
            go_round
            case rel => exact ⟨j + 1, by omega, by go_num, by rw [List.take_succ_eq_append_getElem hjl, List.all_append, HA.out]; simpa using HE.out⟩
            case measure => simp [intOf]; omega
        · have : (d ++ [r]).all (fun x => !x.isEmpty) = true := by
            have := HA.out
            rwa [List.take_of_length_le (by rw [← HN.out]; omega)] at this
          have H2 := Lib.hid this
          clear this
          go_wp2
          go_ret2
          have hw : Ln.ws true s.data.toList = true := by rw [E.out.2, H2.out]
          rw [Ln.words, hw, if_pos rfl, E.out.1]
          exact GivesList.mk hcap HN.out rfl hs1 hbel
end Go.Proofs.YtaheiolbeiofpaaGreatDoor
