/-
  Texts of this claim, merged: ItSpec, ItSmall, ItTip, ItEnd, ItPrint.
-/
import Derived.Test.YtgajdfecajleiaaMg01
import Derived.Deep.RegionHeld3
import Derived.Lib.ItoaNum
import Derived.Outline
/-
  Plain mathematics of layer 3: a kind's word, an end's name, an item's line, and the item of a line. No program is named here.
-/
namespace Go.Proofs.Ytgajdfecajleiaa.It
open Go

def word (k : Int) : List UInt8 :=
  if k = 1 then [111, 118, 101, 114, 108, 97, 112]
  else if k = 2 then [97, 112, 112, 114, 111, 97, 99, 104]
  else if k = 3 then [115, 101, 116, 116, 108, 101]
  else if k = 4 then [104, 111, 108, 100]
  else if k = 5 then [115, 101, 99, 116, 105, 111, 110]
  else if k = 6 then [112, 111, 105, 110, 116]
  else if k = 7 then [106, 111, 105, 110]
  else if k = 8 then [98, 117, 102, 102, 101, 114]
  else if k = 9 then [115, 105, 103, 110, 97, 108]
  else []
def kind (l : List UInt8) : Int :=
  if l = word 1 then 1 else if l = word 2 then 2 else if l = word 3 then 3 else if l = word 4 then 4 else if l = word 5 then 5
  else if l = word 6 then 6 else if l = word 7 then 7 else if l = word 8 then 8 else if l = word 9 then 9 else 0

theorem kind_word (k : Nat) (h1 : 1 ≤ k) (h2 : k ≤ 9) : kind (word k) = k := by
  obtain rfl | rfl | rfl | rfl | rfl | rfl | rfl | rfl | rfl : k = 1 ∨ k = 2 ∨ k = 3 ∨ k = 4 ∨ k = 5 ∨ k = 6 ∨ k = 7 ∨ k = 8 ∨ k = 9 := by omega
  all_goals decide
theorem kind_hit {l : List UInt8} {k : Nat} (h1 : 1 ≤ k) (h2 : k ≤ 9) (h : word k = l) : kind l = k := by rw [← h]; exact kind_word k h1 h2
theorem kind_none {l : List UInt8} (h : ∀ k : Nat, 1 ≤ k → k ≤ 9 → word k ≠ l) : kind l = 0 := by
  have n1 : l ≠ word 1 := fun e => h 1 (by omega) (by omega) e.symm
  have n2 : l ≠ word 2 := fun e => h 2 (by omega) (by omega) e.symm
  have n3 : l ≠ word 3 := fun e => h 3 (by omega) (by omega) e.symm
  have n4 : l ≠ word 4 := fun e => h 4 (by omega) (by omega) e.symm
  have n5 : l ≠ word 5 := fun e => h 5 (by omega) (by omega) e.symm
  have n6 : l ≠ word 6 := fun e => h 6 (by omega) (by omega) e.symm
  have n7 : l ≠ word 7 := fun e => h 7 (by omega) (by omega) e.symm
  have n8 : l ≠ word 8 := fun e => h 8 (by omega) (by omega) e.symm
  have n9 : l ≠ word 9 := fun e => h 9 (by omega) (by omega) e.symm
  rw [kind, if_neg n1, if_neg n2, if_neg n3, if_neg n4, if_neg n5, if_neg n6, if_neg n7, if_neg n8, if_neg n9]
theorem kind_cases (l : List UInt8) : (kind l = 0 ∧ ∀ k : Nat, 1 ≤ k → k ≤ 9 → word k ≠ l) ∨ (1 ≤ kind l ∧ kind l ≤ 9 ∧ word (kind l) = l) := by
  by_cases h : ∀ k : Nat, 1 ≤ k → k ≤ 9 → word k ≠ l
  · exact Or.inl ⟨kind_none h, h⟩
  · refine Or.inr ?_
    have : ∃ k : Nat, 1 ≤ k ∧ k ≤ 9 ∧ word k = l := by
      apply Classical.byContradiction
      intro hc
      exact h fun k a b e => hc ⟨k, a, b, e⟩
    obtain ⟨k, a, b, e⟩ := this
    rw [kind_hit a b e]
    exact ⟨by omega, by omega, e⟩

def letter (c : UInt8) : Bool := c = 97 || c = 98 || c = 116 || c = 110 || c = 114

structure Tp where
  n : List UInt8
  c : UInt8
deriving DecidableEq
def Tp.zero : Tp := ⟨[], 0⟩
def tipOk (l : List UInt8) : Bool := decide (3 ≤ l.length) && decide (l[l.length - 2]? = some 46) && (l[l.length - 1]?).any letter && Fig.nameB (l.take (l.length - 2))
def tip (l : List UInt8) : Tp := if tipOk l then ⟨l.take (l.length - 2), (l[l.length - 1]?).getD 0⟩ else Tp.zero
def tipT (t : Tp) : List UInt8 := t.n ++ [46] ++ [t.c]

structure Itm where
  k : Int
  name : List UInt8
  n : Int
  e0 : Tp
  e1 : Tp
deriving DecidableEq
def Itm.zero : Itm := ⟨0, [], 0, Tp.zero, Tp.zero⟩

def most (k : Int) : Int := if k = 1 then 1099511627776 else if k = 2 then 1099511627776 else if k = 3 then 1000 else if k = 4 then 1000 else 1099511627776
def least (k : Int) : Int := if k = 1 then 0 else if k = 2 then 0 else if k = 3 then 0 else if k = 4 then 0 else 1
def isNum (k : Int) : Bool := decide (1 ≤ k ∧ k ≤ 4)
def isLen (k : Int) : Bool := decide (5 ≤ k ∧ k ≤ 6)

def args (x : Itm) : List (List UInt8) :=
  if isNum x.k then [Lib.decDigits x.n.toNat]
  else if isLen x.k then [x.name, Lib.decDigits x.n.toNat]
  else if x.k = 7 then [tipT x.e0, tipT x.e1]
  else if x.k = 8 then [tipT x.e0]
  else if x.k = 9 then [x.name, tipT x.e0]
  else []
def print (x : Itm) : List UInt8 := Ln.line (word x.k :: args x)

def parseK (k : Int) (t : List (List UInt8)) : Option Itm :=
  if isNum k then match t with
    | [d] => if Fig.parseB d (most k) then some ⟨k, [], Fig.parseN d (most k), Tp.zero, Tp.zero⟩ else none
    | _ => none
  else if isLen k then match t with
    | [m, d] => if Fig.nameB m && Fig.parseB d 1099511627776 && decide (0 < Fig.parseN d 1099511627776) then some ⟨k, m, Fig.parseN d 1099511627776, Tp.zero, Tp.zero⟩ else none
    | _ => none
  else if k = 7 then match t with
    | [a, b] => if tipOk a && tipOk b then some ⟨k, [], 0, tip a, tip b⟩ else none
    | _ => none
  else if k = 8 then match t with
    | [a] => if tipOk a then some ⟨k, [], 0, tip a, Tp.zero⟩ else none
    | _ => none
  else if k = 9 then match t with
    | [m, a] => if Fig.nameB m && tipOk a then some ⟨k, m, 0, tip a, Tp.zero⟩ else none
    | _ => none
  else none
def parseW : List (List UInt8) → Option Itm
  | [] => none
  | h :: t => parseK (kind h) t
def parse (l : List UInt8) : Option Itm := if Ln.ws true l then parseW (Ln.words l) else none
def right (x : Itm) : Bool := decide (0 ≤ x.n) && decide (parse (print x) = some x)

/-- What may be an item's number is written as it was read. -/
def NumBack : Prop := ∀ (d : List UInt8) (m : Int), Fig.parseB d m = true → 0 ≤ Fig.parseN d m ∧ Lib.decDigits (Fig.parseN d m).toNat = d

theorem tip_back (l : List UInt8) (h : tipOk l = true) : tipT (tip l) = l := by
  rw [tip, if_pos h, tipT]
  simp only [tipOk, Bool.and_eq_true, decide_eq_true_eq] at h
  obtain ⟨⟨⟨h3, h46⟩, _⟩, _⟩ := h
  have e1 : l[l.length - 2]? = some (l[l.length - 2]'(by omega)) := List.getElem?_eq_getElem (by omega)
  have e2 : l[l.length - 1]? = some (l[l.length - 1]'(by omega)) := List.getElem?_eq_getElem (by omega)
  rw [e1] at h46
  rw [e2, Option.getD_some]
  have h46' : l[l.length - 2]'(by omega) = 46 := Option.some.inj h46
  have t1 : l.take (l.length - 1) = l.take (l.length - 2) ++ [l[l.length - 2]'(by omega)] := by
    rw [show l.length - 1 = l.length - 2 + 1 by omega, List.take_succ_eq_append_getElem (by omega)]
  have t2 : l = l.take (l.length - 1) ++ [l[l.length - 1]'(by omega)] := by
    conv => lhs; rw [← List.take_of_length_le (show l.length ≤ l.length - 1 + 1 by omega)]
    rw [List.take_succ_eq_append_getElem (by omega)]
  rw [h46'] at t1
  show List.take (l.length - 2) l ++ [46] ++ [l[l.length - 1]'(by omega)] = l
  rw [← t1, ← t2]

theorem parseK_back (nb : NumBack) (k : Int) (t : List (List UInt8)) (x : Itm) (h : parseK k t = some x) : x.k = k ∧ args x = t ∧ 0 ≤ x.n := by
  unfold parseK at h
  split at h
  · rename_i hk
    split at h
    · split at h
      · rename_i d hp
        cases h
        exact ⟨rfl, by simp [args, hk, (nb d _ hp).2], (nb d _ hp).1⟩
      · cases h
    · cases h
  · rename_i hk1
    split at h
    · rename_i hk
      split at h
      · split at h
        · rename_i m d hp
          cases h
          simp only [Bool.and_eq_true, decide_eq_true_eq] at hp
          exact ⟨rfl, by simp [args, hk1, hk, (nb d _ hp.1.2).2], by show 0 ≤ Fig.parseN _ _; omega⟩
        · cases h
      · cases h
    · rename_i hk2
      split at h
      · rename_i hk
        split at h
        · split at h
          · rename_i a b hp
            cases h
            simp only [Bool.and_eq_true] at hp
            exact ⟨rfl, by simp [args, isNum, isLen, hk, tip_back _ hp.1, tip_back _ hp.2], Int.le_refl 0⟩
          · cases h
        · cases h
      · rename_i hk3
        split at h
        · rename_i hk
          split at h
          · split at h
            · rename_i a hp
              cases h
              exact ⟨rfl, by simp [args, isNum, isLen, hk, tip_back _ hp], Int.le_refl 0⟩
            · cases h
          · cases h
        · rename_i hk4
          split at h
          · rename_i hk
            split at h
            · split at h
              · rename_i m a hp
                cases h
                simp only [Bool.and_eq_true] at hp
                exact ⟨rfl, by simp [args, isNum, isLen, hk, tip_back _ hp.2], Int.le_refl 0⟩
              · cases h
            · cases h
          · cases h
theorem parseK_kind (k : Int) (t : List (List UInt8)) (x : Itm) (h : parseK k t = some x) : k ≠ 0 := by
  rintro rfl
  simp [parseK, isNum, isLen] at h
/-- What is parsed is written just so. -/
theorem print_parse (nb : NumBack) (l : List UInt8) (x : Itm) (h : parse l = some x) : print x = l ∧ 0 ≤ x.n := by
  unfold parse at h
  split at h
  · rename_i hw
    obtain ⟨hl, hne⟩ := Ln.line_words l hw
    cases hW : Ln.words l with
    | nil => exact absurd hW hne
    | cons a t =>
      rw [hW] at h hl
      have h' : parseK (kind a) t = some x := h
      obtain ⟨h1, h2, h3⟩ := parseK_back nb _ _ _ h'
      have hk := parseK_kind _ _ _ h'
      rcases kind_cases a with ⟨h0, _⟩ | ⟨_, _, hwd⟩
      · exact absurd h0 hk
      · exact ⟨by rw [print, h1, h2, hwd]; exact hl, h3⟩
  · cases h
theorem right_parse (nb : NumBack) (l : List UInt8) (x : Itm) (h : parse l = some x) : right x = true := by
  obtain ⟨h1, h2⟩ := print_parse nb l x h
  rw [right, h1, h]
  simp [h2]
end Go.Proofs.Ytgajdfecajleiaa.It
/-
  The walks of layer 3's small functions and of the document's answers to them: words, kinds, letters, sizes.
-/
namespace Go.Proofs.Ytgajdfecajleiaa
open Go.RowKit

theorem retI {k : IntKind} {a b : Int} (h : a = b) : Ending.returned (.int k a) = .returned (.int k b) := by rw [h]
theorem word_none {k : Int} (h1 : k ≠ 1) (h2 : k ≠ 2) (h3 : k ≠ 3) (h4 : k ≠ 4) (h5 : k ≠ 5) (h6 : k ≠ 6) (h7 : k ≠ 7) (h8 : k ≠ 8) (h9 : k ≠ 9) : It.word k = [] := by
  rw [It.word, if_neg h1, if_neg h2, if_neg h3, if_neg h4, if_neg h5, if_neg h6, if_neg h7, if_neg h8, if_neg h9]
theorem ib_f {k n : Int} (h : k ≠ n) : (k == n) = false := by rw [beq_eq_false_iff_ne]; exact h
set_option maxHeartbeats 1000000 in
theorem rword_any (k : Int) (w : World) :
    Calls Try.prog 46 #[.int .i64 k] w fun e w' => e = .returned (.string (txt (It.word k))) ∧ w = w' := by
  by_cases h : k = 1 ∨ k = 2 ∨ k = 3 ∨ k = 4 ∨ k = 5 ∨ k = 6 ∨ k = 7 ∨ k = 8 ∨ k = 9
  · rcases h with rfl | rfl | rfl | rfl | rfl | rfl | rfl | rfl | rfl
    all_goals
      go_enter Try.func46, Try.ntmps46
      go_wp2
      go_ret
      exact ⟨rfl, rfl⟩
  · have H := Lib.hid (show It.word k = [] from word_none (by omega) (by omega) (by omega) (by omega) (by omega) (by omega) (by omega) (by omega) (by omega))
    have h1 : (k == 1) = false := ib_f (by omega)
    have h2 : (k == 2) = false := ib_f (by omega)
    have h3 : (k == 3) = false := ib_f (by omega)
    have h4 : (k == 4) = false := ib_f (by omega)
    have h5 : (k == 5) = false := ib_f (by omega)
    have h6 : (k == 6) = false := ib_f (by omega)
    have h7 : (k == 7) = false := ib_f (by omega)
    have h8 : (k == 8) = false := ib_f (by omega)
    have h9 : (k == 9) = false := ib_f (by omega)
    clear h
    go_enter Try.func46, Try.ntmps46
    go_wp2
    go_ret
    exact ⟨by rw [H.out]; rfl, rfl⟩

theorem word_le (k : Int) : (It.word k).length ≤ 8 := by
  unfold It.word; repeat (split; · decide)
  decide
theorem eqT_t {a : List UInt8} {s : ByteArray} (h : a = s.data.toList) : ((txt a).toList == s.toList) = true := by
  rw [toList_txt, ByteArray.toList_eq, h]; simp
theorem eqT_f {a : List UInt8} {s : ByteArray} (h : a ≠ s.data.toList) : ((txt a).toList == s.toList) = false := by
  rw [toList_txt, ByteArray.toList_eq]; simpa using h

set_option maxHeartbeats 1000000 in
theorem rkind_any (s : ByteArray) (w : World) (_hs : s.size ≤ maxLen) :
    Calls Try.prog 31 #[.string s] w fun e w' => e = .returned (.int .i64 (It.kind s.data.toList)) ∧ w = w' := by
  have C := Lib.hid (fun k w => rword_any k w)
  go_enter Try.func31, Try.ntmps31
  go_wp2
  go_loop [3] (fun i => ∃ k : Nat, 1 ≤ k ∧ k ≤ 10 ∧ i = .int .i64 k ∧ ∀ j : Nat, 1 ≤ j → j < k → It.word j ≠ s.data.toList) (fun i => 10 - (intOf i).toNat)
  case atStart => exact ⟨1, by omega, by omega, rfl, fun j a b => by omega⟩
  case round =>
    obtain ⟨k, hk1, hk, rfl, hno⟩ := hrel
    have HN := Lib.hid hno
    clear hno
    by_cases hlt : k ≤ 9
    · by_cases he : It.word k = s.data.toList
      · have h1 := eqT_t he
        have HK := Lib.hid (It.kind_hit hk1 hlt he)
        clear he
        go_wp2_with (go_at_call 46; refine (C.out _ _).mono ?_; rintro e w' ⟨rfl, rfl⟩)
        go_ret
        exact ⟨retI HK.out.symm, rfl⟩
      · have h1 := eqT_f he
        have HE := Lib.hid he
        clear he
        go_wp2_with (go_at_call 46; refine (C.out _ _).mono ?_; rintro e w' ⟨rfl, rfl⟩)
        go_round
        case rel => exact ⟨k + 1, by omega, by omega, by go_num, fun j a b => by
          by_cases hj : j = k
          · subst hj; exact HE.out
          · exact HN.out j a (by omega)⟩
        case measure => simp [intOf]; omega
    · have HK := Lib.hid (It.kind_none (l := s.data.toList) fun j a b => HN.out j a (by omega))
      go_wp2_with fail
      go_ret
      exact ⟨retI HK.out.symm, rfl⟩
theorem letter_of (c : UInt8) : It.letter c = (decide (c.toNat = 97) || decide (c.toNat = 98) || decide (c.toNat = 116) || decide (c.toNat = 110) || decide (c.toNat = 114)) := by
  have e : ∀ n : Nat, n < 256 → decide (c = UInt8.ofNat n) = decide (c.toNat = n) := fun n h => by
    rw [Bool.eq_iff_iff, decide_eq_true_iff, decide_eq_true_iff]
    constructor
    · rintro rfl; rw [UInt8.toNat_ofNat']; omega
    · intro e; apply UInt8.toNat_inj.mp; rw [UInt8.toNat_ofNat']; omega
  rw [← e 97 (by omega), ← e 98 (by omega), ← e 116 (by omega), ← e 110 (by omega), ← e 114 (by omega)]; rfl
theorem nb_t {c : UInt8} {n : Nat} (h : c.toNat = n) : ((c.toNat : Int) == (n : Int)) = true := by subst h; simp
theorem nb_f {c : UInt8} {n : Nat} (h : c.toNat ≠ n) : ((c.toNat : Int) == (n : Int)) = false := by rw [beq_eq_false_iff_ne]; omega
/-- What a byte's five tests come to. -/
theorem let_cases (c : UInt8) :
    (((c.toNat : Int) == 97) = true ∧ True ∧ True ∧ True ∧ True ∧ It.letter c = true) ∨
    (((c.toNat : Int) == 97) = false ∧ ((c.toNat : Int) == 98) = true ∧ True ∧ True ∧ True ∧ It.letter c = true) ∨
    (((c.toNat : Int) == 97) = false ∧ ((c.toNat : Int) == 98) = false ∧ ((c.toNat : Int) == 116) = true ∧ True ∧ True ∧ It.letter c = true) ∨
    (((c.toNat : Int) == 97) = false ∧ ((c.toNat : Int) == 98) = false ∧ ((c.toNat : Int) == 116) = false ∧ ((c.toNat : Int) == 110) = true ∧ True ∧ It.letter c = true) ∨
    (((c.toNat : Int) == 97) = false ∧ ((c.toNat : Int) == 98) = false ∧ ((c.toNat : Int) == 116) = false ∧ ((c.toNat : Int) == 110) = false ∧ ((c.toNat : Int) == 114) = true ∧ It.letter c = true) ∨
    (((c.toNat : Int) == 97) = false ∧ ((c.toNat : Int) == 98) = false ∧ ((c.toNat : Int) == 116) = false ∧ ((c.toNat : Int) == 110) = false ∧ ((c.toNat : Int) == 114) = false ∧ It.letter c = false) := by
  rw [letter_of]
  by_cases h1 : c.toNat = 97
  · exact Or.inl ⟨nb_t h1, trivial, trivial, trivial, trivial, by simp [h1]⟩
  by_cases h2 : c.toNat = 98
  · exact Or.inr (Or.inl ⟨nb_f h1, nb_t h2, trivial, trivial, trivial, by simp [h2]⟩)
  by_cases h3 : c.toNat = 116
  · exact Or.inr (Or.inr (Or.inl ⟨nb_f h1, nb_f h2, nb_t h3, trivial, trivial, by simp [h3]⟩))
  by_cases h4 : c.toNat = 110
  · exact Or.inr (Or.inr (Or.inr (Or.inl ⟨nb_f h1, nb_f h2, nb_f h3, nb_t h4, trivial, by simp [h4]⟩)))
  by_cases h5 : c.toNat = 114
  · exact Or.inr (Or.inr (Or.inr (Or.inr (Or.inl ⟨nb_f h1, nb_f h2, nb_f h3, nb_f h4, nb_t h5, by simp [h5]⟩))))
  · exact Or.inr (Or.inr (Or.inr (Or.inr (Or.inr ⟨nb_f h1, nb_f h2, nb_f h3, nb_f h4, nb_f h5, by simp [h1, h2, h3, h4, h5]⟩))))
set_option maxHeartbeats 400000 in
theorem rletter_any (c : UInt8) (w : World) :
    Calls Try.prog 48 #[.int .u8 c.toNat] w fun e w' => e = .returned (.bool (It.letter c)) ∧ w = w' := by
  have H := Lib.hid (letter_of c)
  rcases let_cases c with h | h | h | h | h | h
  all_goals
    obtain ⟨h1, h2, h3, h4, h5, h6⟩ := h
    have H6 := Lib.hid h6
    clear h6
    go_enter Try.func48, Try.ntmps48
    go_wp2
    go_ret
    exact ⟨retB H6.out.symm, rfl⟩

def sizeOf (k : Int) : Int := if k = 1 ∨ k = 2 ∨ k = 3 ∨ k = 4 ∨ k = 8 then 2 else if k = 5 ∨ k = 6 ∨ k = 7 ∨ k = 9 then 3 else 0
set_option maxHeartbeats 1000000 in
theorem most_any (k : Int) (w : World) (h0 : 1 ≤ k) (h9 : k ≤ 6) :
    Calls Try.prog 33 #[.int .i64 k] w fun e w' => e = .returned (.tuple #[.int .i64 (It.least k), .int .i64 (It.most k)]) ∧ w = w' := by
  obtain rfl | rfl | rfl | rfl | rfl | rfl : k = 1 ∨ k = 2 ∨ k = 3 ∨ k = 4 ∨ k = 5 ∨ k = 6 := by omega
  all_goals
    clear h0 h9
    go_enter Try.func33, Try.ntmps33
    go_wp2
    go_ret2
    exact ⟨rfl, rfl⟩
end Go.Proofs.Ytgajdfecajleiaa
/-
  The walks of layer 3's Tip and of the document's answer to it.
-/
namespace Go.Proofs.Ytgajdfecajleiaa
open Go.RowKit

theorem tip_short {s : ByteArray} (h : s.size < 3) : It.tipOk s.data.toList = false := by
  have : s.data.toList.length = s.size := by simp
  rw [It.tipOk, show decide (3 ≤ s.data.toList.length) = false from dec_f (by omega)]; rfl
theorem get_opt {s : ByteArray} {k : Nat} (h : k < s.size) : s.data.toList[k]? = some s[k] := by
  rw [List.getElem?_eq_getElem (by simpa using h)]; rfl
theorem tip_long {s : ByteArray} (h : 2 ≤ s.size) : It.tipOk s.data.toList = (decide (3 ≤ s.size) && decide (s[s.size - 2] = 46) && It.letter s[s.size - 1] && Fig.nameB (s.data.toList.take (s.size - 2))) := by
  have e : s.data.toList.length = s.size := by simp
  rw [It.tipOk, e, get_opt (by omega : s.size - 2 < s.size), get_opt (by omega : s.size - 1 < s.size)]
  simp
theorem take_extract (s : ByteArray) (k : Nat) : s.extract 0 k = txt (s.data.toList.take k) := by
  apply ByteArray.ext
  simp [txt, ByteArray.data_extract]
  apply Array.ext'
  simp [Array.toList_extract]

theorem tip_no {l : List UInt8} (h : It.tipOk l = false) : It.tip l = It.Tp.zero := by rw [It.tip, h]; rfl
theorem tip_yes {s : ByteArray} (h2 : 2 ≤ s.size) (h : It.tipOk s.data.toList = true) : It.tip s.data.toList = ⟨s.data.toList.take (s.size - 2), s[s.size - 1]⟩ := by
  have e : s.data.toList.length = s.size := by simp
  rw [It.tip, if_pos h, e, get_opt (by omega : s.size - 1 < s.size)]; rfl
theorem fig_len {l : List UInt8} (h : Fig.nameB l = true) : 1 ≤ l.length ∧ l.length ≤ 8 := by
  rw [Fig.nameB, Bool.and_eq_true, decide_eq_true_iff] at h; exact h.1
theorem retT {t u : It.Tp} {b c : Bool} (h : t = u) (k : b = c) : Ending.returned (.tuple #[.agg #[str t.n, .int .u8 t.c.toNat], .bool b]) = .returned (.tuple #[.agg #[str u.n, .int .u8 u.c.toNat], .bool c]) := by rw [h, k]
/-- The four ways of an end's tests: too short; no point; no letter; no name; or all is well. -/
theorem tip_ways (s : ByteArray) (h : 2 ≤ s.size) :
    (((s[s.size - 2].toNat : Int) != 46) = true ∧ It.tipOk s.data.toList = false) ∨
    (((s[s.size - 2].toNat : Int) != 46) = false ∧ It.letter s[s.size - 1] = false ∧ It.tipOk s.data.toList = false) ∨
    (((s[s.size - 2].toNat : Int) != 46) = false ∧ It.letter s[s.size - 1] = true ∧ Fig.nameB (s.data.toList.take (s.size - 2)) = false ∧ It.tipOk s.data.toList = false) ∨
    (((s[s.size - 2].toNat : Int) != 46) = false ∧ It.letter s[s.size - 1] = true ∧ Fig.nameB (s.data.toList.take (s.size - 2)) = true ∧ It.tipOk s.data.toList = true ∧ 3 ≤ s.size) := by
  have e := tip_long h
  by_cases h46 : s[s.size - 2] = 46
  · have b46 : ((s[s.size - 2].toNat : Int) != 46) = false := by rw [h46]; rfl
    rw [show decide (s[s.size - 2] = 46) = true from dec_t h46] at e
    cases hl : It.letter s[s.size - 1]
    · exact Or.inr (Or.inl ⟨b46, rfl, by rw [e, hl]; simp⟩)
    · cases hn : Fig.nameB (s.data.toList.take (s.size - 2))
      · exact Or.inr (Or.inr (Or.inl ⟨b46, rfl, rfl, by rw [e, hn]; simp⟩))
      · have := fig_len hn
        have h3 : 3 ≤ s.size := by
          simp at this; omega
        exact Or.inr (Or.inr (Or.inr ⟨b46, rfl, rfl, by rw [e, hl, hn, dec_t h3]; rfl, h3⟩))
  · have b46 : ((s[s.size - 2].toNat : Int) != 46) = true := by
      rw [bne_iff_ne]
      intro hc
      apply h46
      apply UInt8.toNat_inj.mp
      show s[s.size - 2].toNat = 46
      omega
    exact Or.inl ⟨b46, by rw [e, dec_f h46]; simp⟩
set_option maxHeartbeats 1000000 in
theorem rtip_any (s : ByteArray) (w : World) (hs : s.size ≤ maxLen) :
    Calls Try.prog 35 #[.string s] w fun e w' => e = .returned (.tuple #[.agg #[str (It.tip s.data.toList).n, .int .u8 (It.tip s.data.toList).c.toNat], .bool (It.tipOk s.data.toList)]) ∧ Below w.heap.size w w' := by
  unfold maxLen at hs
  by_cases h2 : s.size < 3
  · have h0 : decide ((s.size : Int) < 3) = true := dec_t (by omega)
    have HO := Lib.hid (tip_short (s := s) (by omega))
    have HT := Lib.hid (tip_no HO.out)
    go_enter Try.func35, Try.ntmps35
    go_wp2_with fail
    exact bodyPost_ret (v := .tuple #[.agg #[str It.Tp.zero.n, .int .u8 It.Tp.zero.c.toNat], .bool false]) (by simp [results, Try.results35, go_sem, str, txt, It.Tp.zero]) rfl ⟨retT HT.out.symm HO.out.symm, (Below.refl _ _).alloc (Nat.le_refl _) _⟩
  · have h2' : 2 ≤ s.size := by omega
    have e1 : s.size - 2 + 1 = s.size - 1 := by omega
    have sz : (s.extract 0 (s.size - 2)).size ≤ maxLen := by rw [take_extract, txt_size]; unfold maxLen; simp; omega
    have L := Lib.hid (fun w => by have := rletter_any s[s.size - 1] w; exact this)
    have NM := Lib.hid (fun w => by have := rname_any (s.extract 0 (s.size - 2)) w sz; rw [show (s.extract 0 (s.size - 2)).data.toList = s.data.toList.take (s.size - 2) by rw [take_extract, txt_toList]] at this; exact this)
    clear sz
    rcases tip_ways s h2' with ⟨h46, ho⟩ | ⟨h46, hl, ho⟩ | ⟨h46, hl, hn, ho⟩ | ⟨h46, hl, hn, ho, h3⟩
    · have HO := Lib.hid ho
      have HT := Lib.hid (tip_no ho)
      clear ho
      go_enter Try.func35, Try.ntmps35
      go_wp2_with fail
      exact bodyPost_ret (v := .tuple #[.agg #[str It.Tp.zero.n, .int .u8 It.Tp.zero.c.toNat], .bool false]) (by simp [results, Try.results35, go_sem, str, txt, It.Tp.zero]) rfl ⟨retT HT.out.symm HO.out.symm, (Below.refl _ _).alloc (Nat.le_refl _) _⟩
    · have HO := Lib.hid ho
      have HT := Lib.hid (tip_no ho)
      clear ho
      go_enter Try.func35, Try.ntmps35
      go_wp2_with fail
      refine (L.out _).mono ?_; rintro e w' ⟨rfl, rfl⟩
      go_wp2_with fail
      exact bodyPost_ret (v := .tuple #[.agg #[str It.Tp.zero.n, .int .u8 It.Tp.zero.c.toNat], .bool false]) (by simp [results, Try.results35, go_sem, str, txt, It.Tp.zero]) rfl ⟨retT HT.out.symm HO.out.symm, (Below.refl _ _).alloc (Nat.le_refl _) _⟩
    · have HO := Lib.hid ho
      have HT := Lib.hid (tip_no ho)
      clear ho
      go_enter Try.func35, Try.ntmps35
      go_wp2_with fail
      refine (L.out _).mono ?_; rintro e w' ⟨rfl, rfl⟩
      go_wp2_with fail
      refine (NM.out _).mono ?_; rintro e w' ⟨rfl, rfl⟩
      go_wp2_with fail
      exact bodyPost_ret (v := .tuple #[.agg #[str It.Tp.zero.n, .int .u8 It.Tp.zero.c.toNat], .bool false]) (by simp [results, Try.results35, go_sem, str, txt, It.Tp.zero]) rfl ⟨retT HT.out.symm HO.out.symm, (Below.refl _ _).alloc (Nat.le_refl _) _⟩
    · have HO := Lib.hid ho
      have HT := Lib.hid (tip_yes h2' ho)
      clear ho
      go_enter Try.func35, Try.ntmps35
      go_wp2_with fail
      refine (L.out _).mono ?_; rintro e w' ⟨rfl, rfl⟩
      go_wp2_with fail
      refine (NM.out _).mono ?_; rintro e w' ⟨rfl, rfl⟩
      go_wp2_with fail
      go_region
      go_wp2_with fail
      refine bodyPost_ret (v := .tuple #[.agg #[.string (s.extract 0 (s.size - 2)), .int .u8 s[s.size - 1].toNat], .bool true]) (by simp [results, Try.results35, go_sem]) rfl ⟨?_, ((Below.refl _ _).alloc (Nat.le_refl _) _).drew⟩
      rw [take_extract]; exact retT HT.out.symm HO.out.symm
end Go.Proofs.Ytgajdfecajleiaa
/-
  The walks of layer 3's end and line, and of the document's text.
-/
namespace Go.Proofs.Ytgajdfecajleiaa
open Go.RowKit

theorem tipT_txt (nm : ByteArray) (c : UInt8) : (nm ++ (⟨#[46]⟩ : ByteArray)) ++ (⟨#[c]⟩ : ByteArray) = txt (It.tipT ⟨nm.data.toList, c⟩) := by
  rw [It.tipT, ← txt_add, ← txt_add, txt_of]; rfl
set_option maxHeartbeats 1000000 in
theorem rend_any (nm : ByteArray) (c : UInt8) (w : World) (hs : nm.size ≤ 1000000) :
    Calls Try.prog 50 #[.agg #[.string nm, .int .u8 c.toNat]] w fun e w' => e = .returned (.string (txt (It.tipT ⟨nm.data.toList, c⟩))) ∧ Below w.heap.size w w' := by
  have hA := one_byte ((w.alloc (.cells #[.string nm, .int .u8 c.toNat] 73)).alloc (.cells #[.int .u8 c.toNat] 5)) (w.heap.size + 1) (c.toNat : Int) (by go_simp)
  have H := Lib.hid (tipT_txt nm c)
  go_enter Try.func50, Try.ntmps50
  go_wp2_with fail
  go_ret
  exact ⟨retSS H.out, ((Below.refl _ _).alloc (Nat.le_refl _) _).alloc (by simp) _⟩


end Go.Proofs.Ytgajdfecajleiaa
/-
  The walks of layer 3's Print, and of the document's answer to it.
-/
namespace Go.Proofs.Ytgajdfecajleiaa
open Go.RowKit

def ofV (k : Int) (nm : ByteArray) (n : Int) (a : ByteArray) (ac : UInt8) (b : ByteArray) (bc : UInt8) : It.Itm := ⟨k, nm.data.toList, n, ⟨a.data.toList, ac⟩, ⟨b.data.toList, bc⟩⟩
theorem print_num {k : Int} (h : It.isNum k = true) (nm : ByteArray) (n : Int) (a : ByteArray) (ac : UInt8) (b : ByteArray) (bc : UInt8) : It.print (ofV k nm n a ac b bc) = Ln.line (It.word k :: [Lib.decDigits n.toNat]) := by
  simp [It.print, It.args, ofV, h]
theorem dec_l20 {n : Int} (h0 : 0 ≤ n) (h1 : n ≤ 9223372036854775807) : (Lib.decDigits n.toNat).length ≤ 20 := by rw [Lib.decDigits_length]; exact Lib.nDigits_le20 _ (by omega)
theorem line2_le (k : Int) (x : List UInt8) (h : x.length ≤ 5000) : (Ln.line (It.word k :: [x])).length ≤ 10000000 := by
  have := word_le k
  simp [Ln.line, Lib.join]; omega
theorem line3_le (k : Int) (x y : List UInt8) (h : x.length ≤ 5000) (h2 : y.length ≤ 5000) : (Ln.line (It.word k :: [x, y])).length ≤ 10000000 := by
  have := word_le k
  simp [Ln.line, Lib.join]; omega
theorem retP {a b : List UInt8} (h : a = b) : Ending.returned (.string (txt a)) = .returned (.string (txt b)) := by rw [h]
/-- What a call leaves: its answer, what it made beside what there was, since the call and since the beginning. -/
def Made (w : World) (v : Value) (W : World) (e : Ending) (w' : World) : Prop := e = .returned v ∧ Below W.heap.size W w' ∧ Below w.heap.size w w' ∧ W.heap.size ≤ w'.heap.size
theorem Made.of {w W : World} {v : Value} {f : FuncId} {xs : Array Value} (h : Below w.heap.size w W) (hc : Calls Try.prog f xs W fun e w' => e = .returned v ∧ Below W.heap.size W w') :
    Calls Try.prog f xs W (Made w v W) := hc.mono fun _ _ ⟨h1, h2⟩ => ⟨h1, h2, h.trans (h2.mono h.size), h2.size⟩
theorem Made.line {w W : World} {o : Obj} {v : Value} {f : FuncId} {xs : Array Value} (h : Below w.heap.size w W) (hc : Calls Try.prog f xs (W.alloc o) fun e w' => e = .returned v ∧ Below W.heap.size W w') :
    Calls Try.prog f xs (W.alloc o) (Made w v W) := hc.mono fun _ _ ⟨h1, h2⟩ => ⟨h1, h2, h.trans (h2.mono h.size), h2.size⟩

theorem num_ways {k : Int} (h : It.isNum k = true) : (k == 1) = true ∨ ((k == 1) = false ∧ (k == 2) = true) ∨ ((k == 1) = false ∧ (k == 2) = false ∧ (k == 3) = true) ∨ ((k == 1) = false ∧ (k == 2) = false ∧ (k == 3) = false ∧ (k == 4) = true) := by
  have h' : k = 1 ∨ k = 2 ∨ k = 3 ∨ k = 4 := by simp [It.isNum] at h; omega
  rcases h' with rfl | rfl | rfl | rfl <;> decide
theorem print_len {k : Int} (h1 : It.isNum k = false) (h : It.isLen k = true) (nm : ByteArray) (n : Int) (a : ByteArray) (ac : UInt8) (b : ByteArray) (bc : UInt8) : It.print (ofV k nm n a ac b bc) = Ln.line (It.word k :: [nm.data.toList, Lib.decDigits n.toNat]) := by
  simp [It.print, It.args, ofV, h, h1]
theorem print_7 (nm : ByteArray) (n : Int) (a : ByteArray) (ac : UInt8) (b : ByteArray) (bc : UInt8) : It.print (ofV 7 nm n a ac b bc) = Ln.line (It.word 7 :: [It.tipT ⟨a.data.toList, ac⟩, It.tipT ⟨b.data.toList, bc⟩]) := rfl
theorem print_8 (nm : ByteArray) (n : Int) (a : ByteArray) (ac : UInt8) (b : ByteArray) (bc : UInt8) : It.print (ofV 8 nm n a ac b bc) = Ln.line (It.word 8 :: [It.tipT ⟨a.data.toList, ac⟩]) := rfl
theorem print_9 (nm : ByteArray) (n : Int) (a : ByteArray) (ac : UInt8) (b : ByteArray) (bc : UInt8) : It.print (ofV 9 nm n a ac b bc) = Ln.line (It.word 9 :: [nm.data.toList, It.tipT ⟨a.data.toList, ac⟩]) := rfl
theorem tipT_le (a : ByteArray) (ac : UInt8) (h : a.size ≤ 1000) : (It.tipT ⟨a.data.toList, ac⟩).length ≤ 5000 := by
  simp [It.tipT]; omega
theorem len_ways {k : Int} (h : It.isLen k = true) : (k == 1) = false ∧ (k == 2) = false ∧ (k == 3) = false ∧ (k == 4) = false ∧ ((k == 5) = true ∨ ((k == 5) = false ∧ (k == 6) = true)) := by
  have h' : k = 5 ∨ k = 6 := by simp [It.isLen] at h; omega
  rcases h' with rfl | rfl <;> decide
theorem len_num {k : Int} (h : It.isLen k = true) : It.isNum k = false := by
  simp [It.isLen] at h; simp [It.isNum]; omega
theorem ofV_k (k : Int) (nm : ByteArray) (n : Int) (a : ByteArray) (ac : UInt8) (b : ByteArray) (bc : UInt8) (h : ¬ (1 ≤ k ∧ k ≤ 9)) : It.print (ofV k nm n a ac b bc) = [] := by
  have h1 : It.isNum k = false := by simp [It.isNum]; omega
  have h2 : It.isLen k = false := by simp [It.isLen]; omega
  have h3 : It.word k = [] := word_none (by omega) (by omega) (by omega) (by omega) (by omega) (by omega) (by omega) (by omega) (by omega)
  simp [It.print, It.args, ofV, h1, h2, h3, show ¬ k = 7 by omega, show ¬ k = 8 by omega, show ¬ k = 9 by omega, Ln.line, Lib.join]

end Go.Proofs.Ytgajdfecajleiaa
