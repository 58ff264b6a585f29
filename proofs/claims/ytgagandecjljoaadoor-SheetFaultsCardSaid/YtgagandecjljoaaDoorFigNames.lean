/-
  The walks of layer 1's Name and of the document's answer to it.
-/
import Derived.Test.YtgagandecjljoaaDoorFigWalks
namespace Go.Proofs.YtgagandecjljoaaDoor
open Go.RowKit

abbrev Fig.al (c : UInt8) : Bool := Fig.dig c || Fig.let_ c
theorem name_mid (s : ByteArray) (h0 : ¬ s.size = 0) (h1 : ¬ 8 < s.size) : Fig.nameB s.data.toList = s.data.toList.all fun c => Fig.dig c || Fig.let_ c := by
  have : decide (1 ≤ s.data.toList.length ∧ s.data.toList.length ≤ 8) = true := dec_t (by simp; omega)
  rw [Fig.nameB, this]; simp
theorem name_ends (s : ByteArray) (h0 : s.size = 0 ∨ 8 < s.size) : Fig.nameB s.data.toList = false := by
  have : decide (1 ≤ s.data.toList.length ∧ s.data.toList.length ≤ 8) = false := dec_f (by simp; omega)
  rw [Fig.nameB, this]; rfl
theorem name_bad (s : ByteArray) (k : Nat) (hk : k < s.size) (h : Fig.dig s[k] = false) (h2 : Fig.let_ s[k] = false) : Fig.nameB s.data.toList = false := by
  rw [Fig.nameB, all_stop (p := fun c => Fig.dig c || Fig.let_ c) hk (by rw [h, h2]; rfl)]; simp
theorem name_good (s : ByteArray) (h : s.data.toList.all (fun c => Fig.dig c || Fig.let_ c) = true) : Fig.nameB s.data.toList = decide (1 ≤ s.size ∧ s.size ≤ 8) := by
  rw [Fig.nameB, h]; simp
set_option maxHeartbeats 400000 in
theorem name_any (s : ByteArray) (w : World) (hs : s.size ≤ maxLen) :
    Calls Tryd.prog 49 #[.string s] w fun e w' => e = .returned (.bool (Fig.nameB s.data.toList)) ∧ w = w' := by
  unfold maxLen at hs
  by_cases h0 : s.size = 0 ∨ 8 < s.size
  · have H := Lib.hid (name_ends s h0)
    have h0' : ((s.size : Int) == 0) = true ∨ (((s.size : Int) == 0) = false ∧ decide (8 < (s.size : Int)) = true) := by
      by_cases h : s.size = 0
      · exact Or.inl (beq0_t h)
      · exact Or.inr ⟨beq0_f h, dec_t (by omega)⟩
    clear h0
    rcases h0' with h0' | ⟨h0', h1⟩
    all_goals
      go_enter Tryd.func49, Tryd.ntmps49
      go_wp2_with fail
      go_ret
      exact ⟨retB H.out.symm, rfl⟩
  · have h0a : ((s.size : Int) == 0) = false := beq0_f (by omega)
    have h0b : decide (8 < (s.size : Int)) = false := dec_f (by omega)
    have h0c : s.size ≤ 8 := by omega
    have H := Lib.hid (name_mid s (by omega) (by omega))
    clear h0
    go_enter Tryd.func49, Tryd.ntmps49
    go_wp2_with fail
    go_loop [14] (fun i => ∃ k : Nat, k ≤ s.size ∧ i = .int .i64 k ∧ (s.data.toList.take k).all (fun c => Fig.dig c || Fig.let_ c) = true) (fun i => s.size - (intOf i).toNat)
    case atStart => exact ⟨0, Nat.zero_le _, rfl, rfl⟩
    case round =>
      obtain ⟨k, hk, rfl, hd⟩ := hrel
      by_cases hlt : k < s.size
      · by_cases hc : Fig.dig s[k] = true
        · have HD := Lib.hid (all_snoc hlt hd (by rw [hc]; rfl))
          clear hd
          go_wp2_with (first | (go_at_call 59; refine (digit_any _ _).mono ?_; rintro e w' ⟨rfl, rfl⟩) | (go_at_call 60; refine (letter_any _ _).mono ?_; rintro e w' ⟨rfl, rfl⟩))
          go_round
          case rel => exact ⟨k + 1, by omega, by go_num, HD.out⟩
          case measure => simp [intOf]; omega
        · have hc' : Fig.dig s[k] = false := by simpa using hc
          by_cases hl : Fig.let_ s[k] = true
          · have HD := Lib.hid (all_snoc hlt hd (by rw [hc', hl]; rfl))
            clear hd hc
            go_wp2_with (first | (go_at_call 59; refine (digit_any _ _).mono ?_; rintro e w' ⟨rfl, rfl⟩) | (go_at_call 60; refine (letter_any _ _).mono ?_; rintro e w' ⟨rfl, rfl⟩))
            go_round
            case rel => exact ⟨k + 1, by omega, by go_num, HD.out⟩
            case measure => simp [intOf]; omega
          · have hl' : Fig.let_ s[k] = false := by simpa using hl
            have HF := Lib.hid (name_bad s k hlt hc' hl')
            clear hd hc hl
            go_wp2_with (first | (go_at_call 59; refine (digit_any _ _).mono ?_; rintro e w' ⟨rfl, rfl⟩) | (go_at_call 60; refine (letter_any _ _).mono ?_; rintro e w' ⟨rfl, rfl⟩))
            go_ret
            exact ⟨retB HF.out.symm, rfl⟩
      · have hks : k = s.size := by omega
        subst hks
        have ht : s.data.toList.take s.size = s.data.toList := List.take_of_length_le (by simp)
        rw [ht] at hd
        have HF := Lib.hid (H.out.trans hd)
        clear hd ht
        go_wp2_with fail
        go_ret
        exact ⟨retB HF.out.symm, rfl⟩

theorem let_yes {c : UInt8} (h : Fig.let_ c = true) : (97 ≤ (c.toNat : Int) ∧ (c.toNat : Int) ≤ 122) ∨ (65 ≤ (c.toNat : Int) ∧ (c.toNat : Int) ≤ 90) := by
  exact of_decide_eq_true h
theorem let_no {c : UInt8} (h : Fig.let_ c = false) : ¬ ((97 ≤ (c.toNat : Int) ∧ (c.toNat : Int) ≤ 122) ∨ (65 ≤ (c.toNat : Int) ∧ (c.toNat : Int) ≤ 90)) := by
  exact of_decide_eq_false h
set_option maxHeartbeats 1000000 in
theorem rname_any (s : ByteArray) (w : World) (hs : s.size ≤ maxLen) :
    Calls Tryd.prog 25 #[.string s] w fun e w' => e = .returned (.bool (Fig.nameB s.data.toList)) ∧ w = w' := by
  unfold maxLen at hs
  go_enter Tryd.func25, Tryd.ntmps25
  go_wp2_with fail
  go_loop [3] (fun i => ∃ k : Nat, k ≤ s.size ∧ i = .int .i64 k ∧ (s.data.toList.take k).all (fun c => Fig.dig c || Fig.let_ c) = true) (fun i => s.size - (intOf i).toNat)
  case atStart => exact ⟨0, Nat.zero_le _, rfl, rfl⟩
  case round =>
    obtain ⟨k, hk, rfl, hd⟩ := hrel
    by_cases hlt : k < s.size
    · by_cases hc : Fig.dig s[k] = true
      · have HD := Lib.hid (all_snoc hlt hd (by rw [hc]; rfl))
        clear hd
        go_wp2_with (go_at_call 43; refine (rdigit_any _ _).mono ?_; rintro e w' ⟨rfl, rfl⟩)
        go_round
        case rel => exact ⟨k + 1, by omega, by go_num, HD.out⟩
        case measure => simp [intOf]; omega
      · have hc' : Fig.dig s[k] = false := by simpa using hc
        by_cases hl : Fig.let_ s[k] = true
        · have HD := Lib.hid (all_snoc hlt hd (by rw [hc', hl]; rfl))
          have hy : (decide ((s[k].toNat : Int) < 65) = false ∧ decide (90 < (s[k].toNat : Int)) = true ∧ decide ((s[k].toNat : Int) < 97) = false ∧ decide (122 < (s[k].toNat : Int)) = false) ∨ (decide ((s[k].toNat : Int) < 65) = false ∧ decide (90 < (s[k].toNat : Int)) = false) := by
            rcases let_yes hl with h | h
            · exact Or.inl ⟨dec_f (by omega), dec_t (by omega), dec_f (by omega), dec_f (by omega)⟩
            · exact Or.inr ⟨dec_f (by omega), dec_f (by omega)⟩
          clear hd hc hl
          rcases hy with ⟨hy1, hy2, hy3, hy4⟩ | ⟨hy1, hy2⟩
          all_goals
            go_wp2_with (go_at_call 43; refine (rdigit_any _ _).mono ?_; rintro e w' ⟨rfl, rfl⟩)
            go_round
            case rel => exact ⟨k + 1, by omega, by go_num, HD.out⟩
            case measure => simp [intOf]; omega
        · have hl' : Fig.let_ s[k] = false := by simpa using hl
          have HF := Lib.hid (name_bad s k hlt hc' hl')
          have hy : (decide ((s[k].toNat : Int) < 65) = true ∧ decide ((s[k].toNat : Int) < 97) = true) ∨ (decide ((s[k].toNat : Int) < 65) = false ∧ decide (90 < (s[k].toNat : Int)) = true ∧ decide ((s[k].toNat : Int) < 97) = true) ∨ (decide ((s[k].toNat : Int) < 65) = false ∧ decide (90 < (s[k].toNat : Int)) = true ∧ decide ((s[k].toNat : Int) < 97) = false ∧ decide (122 < (s[k].toNat : Int)) = true) := by
            have hn := let_no hl'
            by_cases h65 : (s[k].toNat : Int) < 65
            · exact Or.inl ⟨dec_t h65, dec_t (by omega)⟩
            · by_cases h97 : (s[k].toNat : Int) < 97
              · exact Or.inr (Or.inl ⟨dec_f h65, dec_t (by omega), dec_t h97⟩)
              · exact Or.inr (Or.inr ⟨dec_f h65, dec_t (by omega), dec_f h97, dec_t (by omega)⟩)
          clear hd hc hl
          rcases hy with ⟨hy1, hy2⟩ | ⟨hy1, hy2, hy3⟩ | ⟨hy1, hy2, hy3, hy4⟩
          all_goals
            go_wp2_with (go_at_call 43; refine (rdigit_any _ _).mono ?_; rintro e w' ⟨rfl, rfl⟩)
            go_ret
            exact ⟨retB HF.out.symm, rfl⟩
    · have hks : k = s.size := by omega
      subst hks
      have ht : s.data.toList.take s.size = s.data.toList := List.take_of_length_le (by simp)
      rw [ht] at hd
      have HF := Lib.hid (name_good s hd)
      have hy : (decide (1 ≤ (s.size : Int)) = true ∧ decide (1 ≤ s.size ∧ s.size ≤ 8) = decide ((s.size : Int) ≤ 8)) ∨ (decide (1 ≤ (s.size : Int)) = false ∧ decide (1 ≤ s.size ∧ s.size ≤ 8) = false) := by
        by_cases h1 : 1 ≤ s.size
        · refine Or.inl ⟨dec_t (by omega), ?_⟩
          rw [Bool.eq_iff_iff]; simp; omega
        · exact Or.inr ⟨dec_f (by omega), dec_f (by omega)⟩
      clear hd ht
      rcases hy with ⟨hy1, hy2⟩ | ⟨hy1, hy2⟩
      all_goals
        have HG := Lib.hid (HF.out.trans hy2)
        clear hy2
        go_wp2_with fail
        go_ret
        exact ⟨retB HG.out.symm, rfl⟩
end Go.Proofs.YtgagandecjljoaaDoor

