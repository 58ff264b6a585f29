/-
  The walk of the law FigureNames: it returns true.
-/
import Derived.Test.YtooakpkbkoibpaaDoorFigAwake
import Derived.Test.YtooakpkbkoibpaaDoorLawKit
namespace Go.Proofs.YtooakpkbkoibpaaDoor
open Go.RowKit

theorem dec_dig (u : Nat) : (Lib.decDigits u).all Fig.dig = true := by
  induction u using Nat.strongRecOn with
  | ind u ih =>
    by_cases h : u < 10
    · rw [Lib.decDigits, dif_pos h]
      simp [Fig.dig]; omega
    · rw [Lib.decDigits, dif_neg h, List.all_append, ih (u / 10) (by omega)]
      simp [Fig.dig]; omega
theorem dec_len (k : Nat) : ∀ u : Nat, u < 10 ^ (k + 1) → (Lib.decDigits u).length ≤ k + 1 := by
  induction k with
  | zero => intro u h; rw [Lib.decDigits, dif_pos (by simpa using h)]; simp
  | succ k ih =>
    intro u h
    by_cases h1 : u < 10
    · rw [Lib.decDigits, dif_pos h1]; simp
    · rw [Lib.decDigits, dif_neg h1]
      have := ih (u / 10) (by rw [Nat.pow_succ] at h; omega)
      simp; omega
theorem dec_pos (u : Nat) : 1 ≤ (Lib.decDigits u).length := by rw [Lib.decDigits_length]; exact Lib.nDigits_pos u
theorem dec_name (u : Nat) (h : u < 100000000) : Fig.nameB (Lib.decDigits u) = true := by
  have h1 := dec_pos u
  have h2 := dec_len 7 u (by simpa using h)
  have h3 := dec_dig u
  rw [Fig.nameB, Bool.and_eq_true]
  refine ⟨decide_eq_true ⟨h1, by omega⟩, ?_⟩
  rw [List.all_eq_true] at h3 ⊢
  intro x hx
  rw [h3 x hx]; rfl
theorem name_join (a b : List UInt8) (ha : Fig.nameB a = true) (hb : Fig.nameB b = true) : Fig.nameB (a ++ b) = decide (((a.length : Int) + (b.length : Int)) ≤ 8) := by
  rw [Fig.nameB, Bool.and_eq_true, decide_eq_true_eq] at ha hb
  rw [Fig.nameB, List.all_append, ha.2, hb.2, List.length_append, Bool.eq_iff_iff]
  simp; omega
theorem name_spoilt (a b : List UInt8) (ha : Fig.nameB a = false) (h0 : 1 ≤ a.length) (h8 : a.length ≤ 8) : Fig.nameB (a ++ b) = false := by
  have : decide (1 ≤ a.length ∧ a.length ≤ 8) = true := decide_eq_true ⟨h0, h8⟩
  rw [Fig.nameB, this, Bool.true_and] at ha
  rw [Fig.nameB, List.all_append, ha]; simp

theorem printName (n : Int) (h : 0 ≤ n) (h1 : n < 100000000) (w : World) :
    Calls Tryd.prog 14 #[.string ⟨(Lib.decDigits n.toNat).toArray⟩] w fun e w' => e = .returned (.bool true) ∧ w = w' :=
  name_c _ true (by
    have := dec_len 7 n.toNat (by omega)
    show (Lib.decDigits n.toNat).toArray.size ≤ _
    unfold maxLen; simp; omega) (dec_name _ (by omega)) w

set_option maxHeartbeats 1000000 in
theorem figureNames_walk (n : Int) (s t : ByteArray) (W : World) (wn : (Lit.int .u32 n).wf = true) (ws : s.size ≤ maxLen) (wt : t.size ≤ maxLen)
    (htab : Lib.TabIs Tryd.prog W "internal/strconv.uint64pow10" .u64 Lib.pow10Tab) :
    Calls Tryd.prog 5 #[.int .u32 n, .string s, .string t] W fun e w' => e = .returned (.bool true) ∧ Below W.heap.size W w' := by
  have bn := wf_u32 wn
  unfold maxLen at ws wt
  have A := Lib.hid (fun w h => awake_any w h)
  have T := Lib.hid htab
  clear htab wn
  by_cases hl : 50 < s.size ∨ 50 < t.size
  · have hl' : decide (50 < (s.size : Int)) = true ∨ (decide (50 < (s.size : Int)) = false ∧ decide (50 < (t.size : Int)) = true) := by
      by_cases h : 50 < s.size
      · exact Or.inl (dec_t (by omega))
      · exact Or.inr ⟨dec_f (by omega), dec_t (by omega)⟩
    clear hl
    rcases hl' with h1 | ⟨h1, h2⟩
    all_goals
      go_enter Tryd.func5, Tryd.ntmps5
      go_wp2_with (go_at_call 7; refine (A.out _ T.out).mono ?_; rintro e w' ⟨rfl, hb⟩)
      go_ret
      exact ⟨rfl, hb⟩
  · have h1 : decide (50 < (s.size : Int)) = false := dec_f (by omega)
    have h2 : decide (50 < (t.size : Int)) = false := dec_f (by omega)
    have ls : s.data.toList.length = s.size := by simp
    have lt : t.data.toList.length = t.size := by simp
    have la : (s ++ t).size ≤ maxLen := by unfold maxLen; simp; omega
    have ap : (s ++ t).data.toList = s.data.toList ++ t.data.toList := by simp [ByteArray.data_append]
    -- what the three names are
    have key : ∃ a b c : Bool, Fig.nameB s.data.toList = a ∧ Fig.nameB t.data.toList = b ∧ Fig.nameB (s ++ t).data.toList = c ∧
        (a = true → b = true → c = decide ((s.size : Int) + (t.size : Int) ≤ 8)) ∧ (a = false → s.size = 0 ∨ 8 < s.size ∨ c = false) := by
      refine ⟨_, _, _, rfl, rfl, rfl, fun ha hb => ?_, fun ha => ?_⟩
      · rw [ap, name_join _ _ ha hb, ls, lt]
      · by_cases h0 : s.size = 0
        · exact Or.inl h0
        · by_cases h8 : 8 < s.size
          · exact Or.inr (Or.inl h8)
          · exact Or.inr (Or.inr (by rw [ap]; exact name_spoilt _ _ ha (by omega) (by omega)))
    obtain ⟨a, b, c, ha, hb, hc, k1, k2⟩ := key
    have K2 := Lib.hid k2
    have C1 := Lib.hid (name_c s a (by unfold maxLen; omega) ha)
    have C2 := Lib.hid (name_c t b (by unfold maxLen; omega) hb)
    have C3 := Lib.hid (name_c (s ++ t) c la hc)
    have hcat : ¬ 9223372036854775807 < s.size + t.size := by omega
    have hm : 0 ≤ n % 100000000 := by omega
    have hm2 : n % 100000000 < 100000000 := by omega
    have PN := Lib.hid (printName (n % 100000000) hm hm2)
    cases a
    · clear ha hb hc la ap k1 ls lt hl
      have k3 := k2 rfl
      have K3 : ((s.size = 0 ∨ 8 < s.size) ∧ c = c) ∨ c = false := by rcases k3 with h | h | h <;> simp [h]
      clear k2 k3
      by_cases h0 : s.size = 0
      · have hs0 : s = ⟨#[]⟩ := by
          apply ByteArray.ext; apply Array.eq_empty_of_size_eq_zero; exact h0
        subst hs0
        clear h0 K3 K2
        go_enter Tryd.func5, Tryd.ntmps5
        go_wp2_with fail
        refine (C1.out _).mono ?_; rintro e w' ⟨rfl, rfl⟩
        go_wp2_with fail
        refine (C2.out _).mono ?_; rintro e w' ⟨rfl, rfl⟩
        go_wp2_with fail
        refine (A.out _ T.out).mono ?_; rintro e w1 ⟨rfl, hb1⟩
        have T1 := Lib.hid (Lib.tabBelow_of_tabIs T.out _ hb1)
        go_wp2_with fail
        refine (print_any (n % 100000000) _ hm (by omega) T1.out).mono ?_; rintro e w2 ⟨rfl, hb2⟩
        have hb := hb1.trans (hb2.mono hb1.size)
        clear hb1 hb2
        go_wp2_with fail
        refine (PN.out _).mono ?_; rintro e w' ⟨rfl, rfl⟩
        go_wp2_with fail
        go_ret
        exact ⟨rfl, hb⟩
      · have hne : ¬ (s.toList = []) := by
          intro h; apply h0
          rw [ByteArray.toList_eq] at h
          simpa using congrArg List.length h
        have hne2 : s.toList.isEmpty = false := by
          cases h : s.toList with
          | nil => exact absurd h hne
          | cons => rfl
        by_cases h8 : 8 < s.size
        · have h8' : decide (8 < (s.size : Int)) = true := dec_t (by omega)
          clear K3 K2 h8 h0
          go_enter Tryd.func5, Tryd.ntmps5
          go_wp2_with fail
          refine (C1.out _).mono ?_; rintro e w' ⟨rfl, rfl⟩
          go_wp2_with fail
          refine (C2.out _).mono ?_; rintro e w' ⟨rfl, rfl⟩
          go_wp2_with fail
          refine (A.out _ T.out).mono ?_; rintro e w1 ⟨rfl, hb1⟩
          have T1 := Lib.hid (Lib.tabBelow_of_tabIs T.out _ hb1)
          go_wp2_with fail
          refine (print_any (n % 100000000) _ hm (by omega) T1.out).mono ?_; rintro e w2 ⟨rfl, hb2⟩
          have hb := hb1.trans (hb2.mono hb1.size)
          clear hb1 hb2
          go_wp2_with fail
          refine (PN.out _).mono ?_; rintro e w' ⟨rfl, rfl⟩
          go_wp2_with fail
          go_ret
          exact ⟨rfl, hb⟩
        · have h8' : decide (8 < (s.size : Int)) = false := dec_f (by omega)
          obtain rfl : c = false := by rcases K3 with ⟨h | h, _⟩ | h <;> first | (exact h) | (exfalso; omega)
          clear K3 K2 h8 h0
          go_enter Tryd.func5, Tryd.ntmps5
          go_wp2_with fail
          refine (C1.out _).mono ?_; rintro e w' ⟨rfl, rfl⟩
          go_wp2_with fail
          refine (C2.out _).mono ?_; rintro e w' ⟨rfl, rfl⟩
          go_wp2_with fail
          refine (A.out _ T.out).mono ?_; rintro e w1 ⟨rfl, hb1⟩
          have T1 := Lib.hid (Lib.tabBelow_of_tabIs T.out _ hb1)
          go_wp2_with fail
          refine (print_any (n % 100000000) _ hm (by omega) T1.out).mono ?_; rintro e w2 ⟨rfl, hb2⟩
          have hb := hb1.trans (hb2.mono hb1.size)
          clear hb1 hb2
          go_wp2_with fail
          refine (PN.out _).mono ?_; rintro e w' ⟨rfl, rfl⟩
          go_wp2_with fail
          refine (C3.out _).mono ?_; rintro e w' ⟨rfl, rfl⟩
          go_wp2_with fail
          go_ret
          exact ⟨rfl, hb⟩
    · cases b
      · clear ha hb hc la ap k1 k2 K2 ls lt hl
        go_enter Tryd.func5, Tryd.ntmps5
        go_wp2_with fail
        refine (C1.out _).mono ?_; rintro e w' ⟨rfl, rfl⟩
        go_wp2_with fail
        refine (C2.out _).mono ?_; rintro e w' ⟨rfl, rfl⟩
        go_wp2_with fail
        refine (A.out _ T.out).mono ?_; rintro e w1 ⟨rfl, hb1⟩
        have T1 := Lib.hid (Lib.tabBelow_of_tabIs T.out _ hb1)
        go_wp2_with fail
        refine (print_any (n % 100000000) _ hm (by omega) T1.out).mono ?_; rintro e w2 ⟨rfl, hb2⟩
        have hb := hb1.trans (hb2.mono hb1.size)
        clear hb1 hb2
        go_wp2_with fail
        refine (PN.out _).mono ?_; rintro e w' ⟨rfl, rfl⟩
        go_wp2_with fail
        go_ret
        exact ⟨rfl, hb⟩
      · obtain rfl := k1 rfl rfl
        clear ha hb hc la ap k1 k2 K2 ls lt hl
        go_enter Tryd.func5, Tryd.ntmps5
        go_wp2_with fail
        refine (C1.out _).mono ?_; rintro e w' ⟨rfl, rfl⟩
        go_wp2_with fail
        refine (C2.out _).mono ?_; rintro e w' ⟨rfl, rfl⟩
        go_wp2_with fail
        refine (A.out _ T.out).mono ?_; rintro e w1 ⟨rfl, hb1⟩
        have T1 := Lib.hid (Lib.tabBelow_of_tabIs T.out _ hb1)
        go_wp2_with fail
        refine (print_any (n % 100000000) _ hm (by omega) T1.out).mono ?_; rintro e w2 ⟨rfl, hb2⟩
        have hb := hb1.trans (hb2.mono hb1.size)
        clear hb1 hb2
        go_wp2_with fail
        refine (PN.out _).mono ?_; rintro e w' ⟨rfl, rfl⟩
        go_wp2_with fail
        refine (C3.out _).mono ?_; rintro e w' ⟨rfl, rfl⟩
        go_wp2_with fail
        go_ret
        exact ⟨rfl, hb⟩
end Go.Proofs.YtooakpkbkoibpaaDoor
