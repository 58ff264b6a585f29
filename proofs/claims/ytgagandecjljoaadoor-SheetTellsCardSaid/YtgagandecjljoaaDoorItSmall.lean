/-
  The walks of layer 3's small functions and of the document's answers to them: words, kinds, letters, sizes.
-/
import Derived.Test.YtgagandecjljoaaDoorLnRef
import Derived.Test.YtgagandecjljoaaDoorTxt
import Derived.Test.YtgagandecjljoaaDoorItSpec
import Derived.Outline
namespace Go.Proofs.YtgagandecjljoaaDoor
open Go.RowKit

theorem retI {k : IntKind} {a b : Int} (h : a = b) : Ending.returned (.int k a) = .returned (.int k b) := by rw [h]
theorem retV {a b : Value} (h : a = b) : Ending.returned a = .returned b := by rw [h]
theorem word_none {k : Int} (h1 : k ≠ 1) (h2 : k ≠ 2) (h3 : k ≠ 3) (h4 : k ≠ 4) (h5 : k ≠ 5) (h6 : k ≠ 6) (h7 : k ≠ 7) (h8 : k ≠ 8) (h9 : k ≠ 9) : It.word k = [] := by
  rw [It.word, if_neg h1, if_neg h2, if_neg h3, if_neg h4, if_neg h5, if_neg h6, if_neg h7, if_neg h8, if_neg h9]
theorem ib_f {k n : Int} (h : k ≠ n) : (k == n) = false := by rw [beq_eq_false_iff_ne]; exact h
set_option maxHeartbeats 1000000 in
theorem word_any (k : Int) (w : World) :
    Calls Tryd.prog 47 #[.int .i64 k] w fun e w' => e = .returned (.string (txt (It.word k))) ∧ w = w' := by
  by_cases h : k = 1 ∨ k = 2 ∨ k = 3 ∨ k = 4 ∨ k = 5 ∨ k = 6 ∨ k = 7 ∨ k = 8 ∨ k = 9
  · rcases h with rfl | rfl | rfl | rfl | rfl | rfl | rfl | rfl | rfl
    all_goals
      go_enter Tryd.func47, Tryd.ntmps47
      go_wp2
      go_ret
      exact ⟨rfl, rfl⟩
  · have H := Lib.hid (show It.word k = [] from word_none (by omega) (by omega) (by omega) (by omega) (by omega) (by omega) (by omega) (by omega) (by omega))
    have h1 : (k == 1) = false := ib_f (by omega)
    have h2 : (k == 2) = false := ib_f (by omega)
    have h3 : (k == 3) = false := ib_f (by omega)
    have h4 : (k == 4) = false := ib_f (by omega)
    have h5 : (k == 5) = false := ib_f (by omega)
    have h6 : (k == 6) = false := ib_f (by omega)
    have h7 : (k == 7) = false := ib_f (by omega)
    have h8 : (k == 8) = false := ib_f (by omega)
    have h9 : (k == 9) = false := ib_f (by omega)
    clear h
    go_enter Tryd.func47, Tryd.ntmps47
    go_wp2
    go_ret
    exact ⟨by rw [H.out]; rfl, rfl⟩
set_option maxHeartbeats 1000000 in
theorem rword_any (k : Int) (w : World) :
    Calls Tryd.prog 39 #[.int .i64 k] w fun e w' => e = .returned (.string (txt (It.word k))) ∧ w = w' := by
  by_cases h : k = 1 ∨ k = 2 ∨ k = 3 ∨ k = 4 ∨ k = 5 ∨ k = 6 ∨ k = 7 ∨ k = 8 ∨ k = 9
  · rcases h with rfl | rfl | rfl | rfl | rfl | rfl | rfl | rfl | rfl
    all_goals
      go_enter Tryd.func39, Tryd.ntmps39
      go_wp2
      go_ret
      exact ⟨rfl, rfl⟩
  · have H := Lib.hid (show It.word k = [] from word_none (by omega) (by omega) (by omega) (by omega) (by omega) (by omega) (by omega) (by omega) (by omega))
    have h1 : (k == 1) = false := ib_f (by omega)
    have h2 : (k == 2) = false := ib_f (by omega)
    have h3 : (k == 3) = false := ib_f (by omega)
    have h4 : (k == 4) = false := ib_f (by omega)
    have h5 : (k == 5) = false := ib_f (by omega)
    have h6 : (k == 6) = false := ib_f (by omega)
    have h7 : (k == 7) = false := ib_f (by omega)
    have h8 : (k == 8) = false := ib_f (by omega)
    have h9 : (k == 9) = false := ib_f (by omega)
    clear h
    go_enter Tryd.func39, Tryd.ntmps39
    go_wp2
    go_ret
    exact ⟨by rw [H.out]; rfl, rfl⟩

theorem word_le (k : Int) : (It.word k).length ≤ 8 := by
  unfold It.word; repeat (split; · decide)
  decide
theorem eqT_t {a : List UInt8} {s : ByteArray} (h : a = s.data.toList) : ((txt a).toList == s.toList) = true := by
  rw [toList_txt, ByteArray.toList_eq, h]; simp
theorem eqT_f {a : List UInt8} {s : ByteArray} (h : a ≠ s.data.toList) : ((txt a).toList == s.toList) = false := by
  rw [toList_txt, ByteArray.toList_eq]; simpa using h

set_option maxHeartbeats 1000000 in
theorem kind_any (s : ByteArray) (w : World) (_hs : s.size ≤ maxLen) :
    Calls Tryd.prog 31 #[.string s] w fun e w' => e = .returned (.int .i64 (It.kind s.data.toList)) ∧ w = w' := by
  have C := Lib.hid (fun k w => word_any k w)
  go_enter Tryd.func31, Tryd.ntmps31
  go_wp2
  go_loop [3] (fun i => ∃ k : Nat, 1 ≤ k ∧ k ≤ 10 ∧ i = .int .i64 k ∧ ∀ j : Nat, 1 ≤ j → j < k → It.word j ≠ s.data.toList) (fun i => 10 - (intOf i).toNat)
  case atStart => exact ⟨1, by omega, by omega, rfl, fun j a b => by omega⟩
  case round =>
    obtain ⟨k, hk1, hk, rfl, hno⟩ := hrel
    have HN := Lib.hid hno
    clear hno
    by_cases hlt : k ≤ 9
    · by_cases he : It.word k = s.data.toList
      · have h1 := eqT_t he
        have HK := Lib.hid (It.kind_hit hk1 hlt he)
        clear he
        go_wp2_with (go_at_call 47; refine (C.out _ _).mono ?_; rintro e w' ⟨rfl, rfl⟩)
        go_ret
        exact ⟨retI HK.out.symm, rfl⟩
      · have h1 := eqT_f he
        have HE := Lib.hid he
        clear he
        go_wp2_with (go_at_call 47; refine (C.out _ _).mono ?_; rintro e w' ⟨rfl, rfl⟩)
        go_round
        case rel => exact ⟨k + 1, by omega, by omega, by go_num, fun j a b => by
          by_cases hj : j = k
          · subst hj; exact HE.out
          · exact HN.out j a (by omega)⟩
        case measure => simp [intOf]; omega
    · have HK := Lib.hid (It.kind_none (l := s.data.toList) fun j a b => HN.out j a (by omega))
      go_wp2_with fail
      go_ret
      exact ⟨retI HK.out.symm, rfl⟩
set_option maxHeartbeats 1000000 in
theorem rkind_any (s : ByteArray) (w : World) (_hs : s.size ≤ maxLen) :
    Calls Tryd.prog 24 #[.string s] w fun e w' => e = .returned (.int .i64 (It.kind s.data.toList)) ∧ w = w' := by
  have C := Lib.hid (fun k w => rword_any k w)
  go_enter Tryd.func24, Tryd.ntmps24
  go_wp2
  go_loop [3] (fun i => ∃ k : Nat, 1 ≤ k ∧ k ≤ 10 ∧ i = .int .i64 k ∧ ∀ j : Nat, 1 ≤ j → j < k → It.word j ≠ s.data.toList) (fun i => 10 - (intOf i).toNat)
  case atStart => exact ⟨1, by omega, by omega, rfl, fun j a b => by omega⟩
  case round =>
    obtain ⟨k, hk1, hk, rfl, hno⟩ := hrel
    have HN := Lib.hid hno
    clear hno
    by_cases hlt : k ≤ 9
    · by_cases he : It.word k = s.data.toList
      · have h1 := eqT_t he
        have HK := Lib.hid (It.kind_hit hk1 hlt he)
        clear he
        go_wp2_with (go_at_call 39; refine (C.out _ _).mono ?_; rintro e w' ⟨rfl, rfl⟩)
        go_ret
        exact ⟨retI HK.out.symm, rfl⟩
      · have h1 := eqT_f he
        have HE := Lib.hid he
        clear he
        go_wp2_with (go_at_call 39; refine (C.out _ _).mono ?_; rintro e w' ⟨rfl, rfl⟩)
        go_round
        case rel => exact ⟨k + 1, by omega, by omega, by go_num, fun j a b => by
          by_cases hj : j = k
          · subst hj; exact HE.out
          · exact HN.out j a (by omega)⟩
        case measure => simp [intOf]; omega
    · have HK := Lib.hid (It.kind_none (l := s.data.toList) fun j a b => HN.out j a (by omega))
      go_wp2_with fail
      go_ret
      exact ⟨retI HK.out.symm, rfl⟩
theorem letter_of (c : UInt8) : It.letter c = (decide (c.toNat = 97) || decide (c.toNat = 98) || decide (c.toNat = 116) || decide (c.toNat = 110) || decide (c.toNat = 114)) := by
  have e : ∀ n : Nat, n < 256 → decide (c = UInt8.ofNat n) = decide (c.toNat = n) := fun n h => by
    rw [Bool.eq_iff_iff, decide_eq_true_iff, decide_eq_true_iff]
    constructor
    · rintro rfl; rw [UInt8.toNat_ofNat']; omega
    · intro e; apply UInt8.toNat_inj.mp; rw [UInt8.toNat_ofNat']; omega
  rw [← e 97 (by omega), ← e 98 (by omega), ← e 116 (by omega), ← e 110 (by omega), ← e 114 (by omega)]; rfl
theorem nb_t {c : UInt8} {n : Nat} (h : c.toNat = n) : ((c.toNat : Int) == (n : Int)) = true := by subst h; simp
theorem nb_f {c : UInt8} {n : Nat} (h : c.toNat ≠ n) : ((c.toNat : Int) == (n : Int)) = false := by rw [beq_eq_false_iff_ne]; omega
/-- What a byte's five tests come to. -/
theorem let_cases (c : UInt8) :
    (((c.toNat : Int) == 97) = true ∧ True ∧ True ∧ True ∧ True ∧ It.letter c = true) ∨
    (((c.toNat : Int) == 97) = false ∧ ((c.toNat : Int) == 98) = true ∧ True ∧ True ∧ True ∧ It.letter c = true) ∨
    (((c.toNat : Int) == 97) = false ∧ ((c.toNat : Int) == 98) = false ∧ ((c.toNat : Int) == 116) = true ∧ True ∧ True ∧ It.letter c = true) ∨
    (((c.toNat : Int) == 97) = false ∧ ((c.toNat : Int) == 98) = false ∧ ((c.toNat : Int) == 116) = false ∧ ((c.toNat : Int) == 110) = true ∧ True ∧ It.letter c = true) ∨
    (((c.toNat : Int) == 97) = false ∧ ((c.toNat : Int) == 98) = false ∧ ((c.toNat : Int) == 116) = false ∧ ((c.toNat : Int) == 110) = false ∧ ((c.toNat : Int) == 114) = true ∧ It.letter c = true) ∨
    (((c.toNat : Int) == 97) = false ∧ ((c.toNat : Int) == 98) = false ∧ ((c.toNat : Int) == 116) = false ∧ ((c.toNat : Int) == 110) = false ∧ ((c.toNat : Int) == 114) = false ∧ It.letter c = false) := by
  rw [letter_of]
  by_cases h1 : c.toNat = 97
  · exact Or.inl ⟨nb_t h1, trivial, trivial, trivial, trivial, by simp [h1]⟩
  by_cases h2 : c.toNat = 98
  · exact Or.inr (Or.inl ⟨nb_f h1, nb_t h2, trivial, trivial, trivial, by simp [h2]⟩)
  by_cases h3 : c.toNat = 116
  · exact Or.inr (Or.inr (Or.inl ⟨nb_f h1, nb_f h2, nb_t h3, trivial, trivial, by simp [h3]⟩))
  by_cases h4 : c.toNat = 110
  · exact Or.inr (Or.inr (Or.inr (Or.inl ⟨nb_f h1, nb_f h2, nb_f h3, nb_t h4, trivial, by simp [h4]⟩)))
  by_cases h5 : c.toNat = 114
  · exact Or.inr (Or.inr (Or.inr (Or.inr (Or.inl ⟨nb_f h1, nb_f h2, nb_f h3, nb_f h4, nb_t h5, by simp [h5]⟩))))
  · exact Or.inr (Or.inr (Or.inr (Or.inr (Or.inr ⟨nb_f h1, nb_f h2, nb_f h3, nb_f h4, nb_f h5, by simp [h1, h2, h3, h4, h5]⟩))))
set_option maxHeartbeats 400000 in
theorem iletter_any (c : UInt8) (w : World) :
    Calls Tryd.prog 69 #[.int .u8 c.toNat] w fun e w' => e = .returned (.bool (It.letter c)) ∧ w = w' := by
  have H := Lib.hid (letter_of c)
  rcases let_cases c with h | h | h | h | h | h
  all_goals
    obtain ⟨h1, h2, h3, h4, h5, h6⟩ := h
    have H6 := Lib.hid h6
    clear h6
    go_enter Tryd.func69, Tryd.ntmps69
    go_wp2
    go_ret
    exact ⟨retB H6.out.symm, rfl⟩
set_option maxHeartbeats 400000 in
theorem rletter_any (c : UInt8) (w : World) :
    Calls Tryd.prog 44 #[.int .u8 c.toNat] w fun e w' => e = .returned (.bool (It.letter c)) ∧ w = w' := by
  have H := Lib.hid (letter_of c)
  rcases let_cases c with h | h | h | h | h | h
  all_goals
    obtain ⟨h1, h2, h3, h4, h5, h6⟩ := h
    have H6 := Lib.hid h6
    clear h6
    go_enter Tryd.func44, Tryd.ntmps44
    go_wp2
    go_ret
    exact ⟨retB H6.out.symm, rfl⟩

def sizeOf (k : Int) : Int := if k = 1 ∨ k = 2 ∨ k = 3 ∨ k = 4 ∨ k = 8 then 2 else if k = 5 ∨ k = 6 ∨ k = 7 ∨ k = 9 then 3 else 0
set_option maxHeartbeats 1000000 in
theorem size_any (k : Int) (w : World) (h0 : 0 ≤ k) (h9 : k ≤ 9) :
    Calls Tryd.prog 32 #[.int .i64 k] w fun e w' => e = .returned (.int .i64 (sizeOf k)) ∧ w = w' := by
  obtain rfl | rfl | rfl | rfl | rfl | rfl | rfl | rfl | rfl | rfl : k = 0 ∨ k = 1 ∨ k = 2 ∨ k = 3 ∨ k = 4 ∨ k = 5 ∨ k = 6 ∨ k = 7 ∨ k = 8 ∨ k = 9 := by omega
  all_goals
    clear h0 h9
    go_enter Tryd.func32, Tryd.ntmps32
    go_wp2
    go_ret
    exact ⟨rfl, rfl⟩
set_option maxHeartbeats 1000000 in
theorem most_any (k : Int) (w : World) (h0 : 1 ≤ k) (h9 : k ≤ 6) :
    Calls Tryd.prog 26 #[.int .i64 k] w fun e w' => e = .returned (.tuple #[.int .i64 (It.least k), .int .i64 (It.most k)]) ∧ w = w' := by
  obtain rfl | rfl | rfl | rfl | rfl | rfl : k = 1 ∨ k = 2 ∨ k = 3 ∨ k = 4 ∨ k = 5 ∨ k = 6 := by omega
  all_goals
    clear h0 h9
    go_enter Tryd.func26, Tryd.ntmps26
    go_wp2
    go_ret2
    exact ⟨rfl, rfl⟩
end Go.Proofs.YtgagandecjljoaaDoor

