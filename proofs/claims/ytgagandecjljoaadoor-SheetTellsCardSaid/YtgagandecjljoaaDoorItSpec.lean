/-
  Plain mathematics of layer 3: a kind's word, an end's name, an item's line, and the item of a line. No program is named here.
-/
import Derived.Test.YtgagandecjljoaaDoorLnSpec
import Derived.Test.YtgagandecjljoaaDoorFigSpec
import Derived.Lib.ItoaNum
namespace Go.Proofs.YtgagandecjljoaaDoor.It
open Go

def word (k : Int) : List UInt8 :=
  if k = 1 then [111, 118, 101, 114, 108, 97, 112]
  else if k = 2 then [97, 112, 112, 114, 111, 97, 99, 104]
  else if k = 3 then [115, 101, 116, 116, 108, 101]
  else if k = 4 then [104, 111, 108, 100]
  else if k = 5 then [115, 101, 99, 116, 105, 111, 110]
  else if k = 6 then [112, 111, 105, 110, 116]
  else if k = 7 then [106, 111, 105, 110]
  else if k = 8 then [98, 117, 102, 102, 101, 114]
  else if k = 9 then [115, 105, 103, 110, 97, 108]
  else []
def kind (l : List UInt8) : Int :=
  if l = word 1 then 1 else if l = word 2 then 2 else if l = word 3 then 3 else if l = word 4 then 4 else if l = word 5 then 5
  else if l = word 6 then 6 else if l = word 7 then 7 else if l = word 8 then 8 else if l = word 9 then 9 else 0

theorem kind_word (k : Nat) (h1 : 1 ≤ k) (h2 : k ≤ 9) : kind (word k) = k := by
  obtain rfl | rfl | rfl | rfl | rfl | rfl | rfl | rfl | rfl : k = 1 ∨ k = 2 ∨ k = 3 ∨ k = 4 ∨ k = 5 ∨ k = 6 ∨ k = 7 ∨ k = 8 ∨ k = 9 := by omega
  all_goals decide
theorem kind_hit {l : List UInt8} {k : Nat} (h1 : 1 ≤ k) (h2 : k ≤ 9) (h : word k = l) : kind l = k := by rw [← h]; exact kind_word k h1 h2
theorem kind_none {l : List UInt8} (h : ∀ k : Nat, 1 ≤ k → k ≤ 9 → word k ≠ l) : kind l = 0 := by
  have n1 : l ≠ word 1 := fun e => h 1 (by omega) (by omega) e.symm
  have n2 : l ≠ word 2 := fun e => h 2 (by omega) (by omega) e.symm
  have n3 : l ≠ word 3 := fun e => h 3 (by omega) (by omega) e.symm
  have n4 : l ≠ word 4 := fun e => h 4 (by omega) (by omega) e.symm
  have n5 : l ≠ word 5 := fun e => h 5 (by omega) (by omega) e.symm
  have n6 : l ≠ word 6 := fun e => h 6 (by omega) (by omega) e.symm
  have n7 : l ≠ word 7 := fun e => h 7 (by omega) (by omega) e.symm
  have n8 : l ≠ word 8 := fun e => h 8 (by omega) (by omega) e.symm
  have n9 : l ≠ word 9 := fun e => h 9 (by omega) (by omega) e.symm
  rw [kind, if_neg n1, if_neg n2, if_neg n3, if_neg n4, if_neg n5, if_neg n6, if_neg n7, if_neg n8, if_neg n9]
theorem kind_cases (l : List UInt8) : (kind l = 0 ∧ ∀ k : Nat, 1 ≤ k → k ≤ 9 → word k ≠ l) ∨ (1 ≤ kind l ∧ kind l ≤ 9 ∧ word (kind l) = l) := by
  by_cases h : ∀ k : Nat, 1 ≤ k → k ≤ 9 → word k ≠ l
  · exact Or.inl ⟨kind_none h, h⟩
  · refine Or.inr ?_
    have : ∃ k : Nat, 1 ≤ k ∧ k ≤ 9 ∧ word k = l := by
      apply Classical.byContradiction
      intro hc
      exact h fun k a b e => hc ⟨k, a, b, e⟩
    obtain ⟨k, a, b, e⟩ := this
    rw [kind_hit a b e]
    exact ⟨by omega, by omega, e⟩

def letter (c : UInt8) : Bool := c = 97 || c = 98 || c = 116 || c = 110 || c = 114

structure Tp where
  n : List UInt8
  c : UInt8
deriving DecidableEq
def Tp.zero : Tp := ⟨[], 0⟩
def tipOk (l : List UInt8) : Bool := decide (3 ≤ l.length) && decide (l[l.length - 2]? = some 46) && (l[l.length - 1]?).any letter && Fig.nameB (l.take (l.length - 2))
def tip (l : List UInt8) : Tp := if tipOk l then ⟨l.take (l.length - 2), (l[l.length - 1]?).getD 0⟩ else Tp.zero
def tipT (t : Tp) : List UInt8 := t.n ++ [46] ++ [t.c]

structure Itm where
  k : Int
  name : List UInt8
  n : Int
  e0 : Tp
  e1 : Tp
deriving DecidableEq
def Itm.zero : Itm := ⟨0, [], 0, Tp.zero, Tp.zero⟩

def most (k : Int) : Int := if k = 1 then 1099511627776 else if k = 2 then 1099511627776 else if k = 3 then 1000 else if k = 4 then 1000 else 1099511627776
def least (k : Int) : Int := if k = 1 then 0 else if k = 2 then 0 else if k = 3 then 0 else if k = 4 then 0 else 1
def isNum (k : Int) : Bool := decide (1 ≤ k ∧ k ≤ 4)
def isLen (k : Int) : Bool := decide (5 ≤ k ∧ k ≤ 6)

def args (x : Itm) : List (List UInt8) :=
  if isNum x.k then [Lib.decDigits x.n.toNat]
  else if isLen x.k then [x.name, Lib.decDigits x.n.toNat]
  else if x.k = 7 then [tipT x.e0, tipT x.e1]
  else if x.k = 8 then [tipT x.e0]
  else if x.k = 9 then [x.name, tipT x.e0]
  else []
def print (x : Itm) : List UInt8 := Ln.line (word x.k :: args x)

def parseK (k : Int) (t : List (List UInt8)) : Option Itm :=
  if isNum k then match t with
    | [d] => if Fig.parseB d (most k) then some ⟨k, [], Fig.parseN d (most k), Tp.zero, Tp.zero⟩ else none
    | _ => none
  else if isLen k then match t with
    | [m, d] => if Fig.nameB m && Fig.parseB d 1099511627776 && decide (0 < Fig.parseN d 1099511627776) then some ⟨k, m, Fig.parseN d 1099511627776, Tp.zero, Tp.zero⟩ else none
    | _ => none
  else if k = 7 then match t with
    | [a, b] => if tipOk a && tipOk b then some ⟨k, [], 0, tip a, tip b⟩ else none
    | _ => none
  else if k = 8 then match t with
    | [a] => if tipOk a then some ⟨k, [], 0, tip a, Tp.zero⟩ else none
    | _ => none
  else if k = 9 then match t with
    | [m, a] => if Fig.nameB m && tipOk a then some ⟨k, m, 0, tip a, Tp.zero⟩ else none
    | _ => none
  else none
def parseW : List (List UInt8) → Option Itm
  | [] => none
  | h :: t => parseK (kind h) t
def parse (l : List UInt8) : Option Itm := if Ln.ws true l then parseW (Ln.words l) else none
def right (x : Itm) : Bool := decide (0 ≤ x.n) && decide (parse (print x) = some x)

/-- What may be an item's number is written as it was read. -/
def NumBack : Prop := ∀ (d : List UInt8) (m : Int), Fig.parseB d m = true → 0 ≤ Fig.parseN d m ∧ Lib.decDigits (Fig.parseN d m).toNat = d

theorem tip_back (l : List UInt8) (h : tipOk l = true) : tipT (tip l) = l := by
  rw [tip, if_pos h, tipT]
  simp only [tipOk, Bool.and_eq_true, decide_eq_true_eq] at h
  obtain ⟨⟨⟨h3, h46⟩, _⟩, _⟩ := h
  have e1 : l[l.length - 2]? = some (l[l.length - 2]'(by omega)) := List.getElem?_eq_getElem (by omega)
  have e2 : l[l.length - 1]? = some (l[l.length - 1]'(by omega)) := List.getElem?_eq_getElem (by omega)
  rw [e1] at h46
  rw [e2, Option.getD_some]
  have h46' : l[l.length - 2]'(by omega) = 46 := Option.some.inj h46
  have t1 : l.take (l.length - 1) = l.take (l.length - 2) ++ [l[l.length - 2]'(by omega)] := by
    rw [show l.length - 1 = l.length - 2 + 1 by omega, List.take_succ_eq_append_getElem (by omega)]
  have t2 : l = l.take (l.length - 1) ++ [l[l.length - 1]'(by omega)] := by
    conv => lhs; rw [← List.take_of_length_le (show l.length ≤ l.length - 1 + 1 by omega)]
    rw [List.take_succ_eq_append_getElem (by omega)]
  rw [h46'] at t1
  show List.take (l.length - 2) l ++ [46] ++ [l[l.length - 1]'(by omega)] = l
  rw [← t1, ← t2]

theorem parseK_back (nb : NumBack) (k : Int) (t : List (List UInt8)) (x : Itm) (h : parseK k t = some x) : x.k = k ∧ args x = t ∧ 0 ≤ x.n := by
  unfold parseK at h
  split at h
  · rename_i hk
    split at h
    · split at h
      · rename_i d hp
        cases h
        exact ⟨rfl, by simp [args, hk, (nb d _ hp).2], (nb d _ hp).1⟩
      · cases h
    · cases h
  · rename_i hk1
    split at h
    · rename_i hk
      split at h
      · split at h
        · rename_i m d hp
          cases h
          simp only [Bool.and_eq_true, decide_eq_true_eq] at hp
          exact ⟨rfl, by simp [args, hk1, hk, (nb d _ hp.1.2).2], by show 0 ≤ Fig.parseN _ _; omega⟩
        · cases h
      · cases h
    · rename_i hk2
      split at h
      · rename_i hk
        split at h
        · split at h
          · rename_i a b hp
            cases h
            simp only [Bool.and_eq_true] at hp
            exact ⟨rfl, by simp [args, isNum, isLen, hk, tip_back _ hp.1, tip_back _ hp.2], Int.le_refl 0⟩
          · cases h
        · cases h
      · rename_i hk3
        split at h
        · rename_i hk
          split at h
          · split at h
            · rename_i a hp
              cases h
              exact ⟨rfl, by simp [args, isNum, isLen, hk, tip_back _ hp], Int.le_refl 0⟩
            · cases h
          · cases h
        · rename_i hk4
          split at h
          · rename_i hk
            split at h
            · split at h
              · rename_i m a hp
                cases h
                simp only [Bool.and_eq_true] at hp
                exact ⟨rfl, by simp [args, isNum, isLen, hk, tip_back _ hp.2], Int.le_refl 0⟩
              · cases h
            · cases h
          · cases h
theorem parseK_kind (k : Int) (t : List (List UInt8)) (x : Itm) (h : parseK k t = some x) : k ≠ 0 := by
  rintro rfl
  simp [parseK, isNum, isLen] at h
/-- What is parsed is written just so. -/
theorem print_parse (nb : NumBack) (l : List UInt8) (x : Itm) (h : parse l = some x) : print x = l ∧ 0 ≤ x.n := by
  unfold parse at h
  split at h
  · rename_i hw
    obtain ⟨hl, hne⟩ := Ln.line_words l hw
    cases hW : Ln.words l with
    | nil => exact absurd hW hne
    | cons a t =>
      rw [hW] at h hl
      have h' : parseK (kind a) t = some x := h
      obtain ⟨h1, h2, h3⟩ := parseK_back nb _ _ _ h'
      have hk := parseK_kind _ _ _ h'
      rcases kind_cases a with ⟨h0, _⟩ | ⟨_, _, hwd⟩
      · exact absurd h0 hk
      · exact ⟨by rw [print, h1, h2, hwd]; exact hl, h3⟩
  · cases h
theorem right_parse (nb : NumBack) (l : List UInt8) (x : Itm) (h : parse l = some x) : right x = true := by
  obtain ⟨h1, h2⟩ := print_parse nb l x h
  rw [right, h1, h]
  simp [h2]
end Go.Proofs.YtgagandecjljoaaDoor.It

