/-
  The walks of layer 1's functions and of the document's answers to it: each returns what the plain functions of the text before say, and leaves the world as it was.
-/
import Derived.Test.YtgagandecjljoaaDoorRows
import Derived.Test.YtgagandecjljoaaDoorFigSpec
import Derived.WalkKit
import Derived.WalkSpells
import Derived.WalkLawsBesides
import Derived.Deep.QuietTactic
import Derived.BigQuiet
import Derived.Lib.Hide
namespace Go.Proofs.YtgagandecjljoaaDoor
open Go.RowKit

theorem retB {a b : Bool} (h : a = b) : Ending.returned (.bool a) = .returned (.bool b) := by rw [h]

set_option maxHeartbeats 400000 in
theorem digit_any (c : UInt8) (w : World) :
    Calls Tryd.prog 59 #[.int .u8 c.toNat] w fun e w' => e = .returned (.bool (Fig.dig c)) ∧ w = w' := by
  go_enter Tryd.func59, Tryd.ntmps59
  go_wp2
  all_goals (go_ret; refine ⟨retB ?_, rfl⟩; simp [Fig.dig]; try omega)
set_option maxHeartbeats 400000 in
theorem rdigit_any (c : UInt8) (w : World) :
    Calls Tryd.prog 43 #[.int .u8 c.toNat] w fun e w' => e = .returned (.bool (Fig.dig c)) ∧ w = w' := by
  go_enter Tryd.func43, Tryd.ntmps43
  go_wp2
  all_goals (go_ret; refine ⟨retB ?_, rfl⟩; simp [Fig.dig]; try omega)
set_option maxHeartbeats 400000 in
theorem letter_any (c : UInt8) (w : World) :
    Calls Tryd.prog 60 #[.int .u8 c.toNat] w fun e w' => e = .returned (.bool (Fig.let_ c)) ∧ w = w' := by
  go_enter Tryd.func60, Tryd.ntmps60
  go_wp2
  all_goals (go_ret; refine ⟨retB ?_, rfl⟩; rw [Bool.eq_iff_iff]; simp [Fig.let_]; try omega)
theorem pad_long (s : ByteArray) (h : 0 < s.size) (h1 : 1 < s.size) : Fig.pad s.data.toList = ((s[0].toNat : Int) == 48) := by
  have e : s.data.toList.head? = some s[0] := by
    rw [List.head?_eq_getElem?]
    exact List.getElem?_eq_getElem (by simpa using h)
  have hl : 1 < s.data.toList.length := by simpa using h1
  rw [Fig.pad, e, Bool.eq_iff_iff]
  simp only [hl, decide_true, Bool.true_and, beq_iff_eq, Option.some.injEq]
  constructor
  · intro h; rw [h]; rfl
  · intro h; exact UInt8.toNat_inj.mp (by simpa using Int.ofNat.inj h)
theorem pad_yes (s : ByteArray) (h : Fig.pad s.data.toList = true) : 1 < s.size ∧ ∀ h0 : 0 < s.size, ((s[0]'h0).toNat : Int) = 48 := by
  by_cases h1 : 1 < s.size
  · refine ⟨h1, fun h0 => ?_⟩
    rw [pad_long s h0 h1] at h
    exact beq_iff_eq.mp h
  · rw [Fig.pad, show decide (1 < s.data.toList.length) = false by simpa using h1] at h
    cases h
theorem pad_short (s : ByteArray) (h1 : ¬ 1 < s.size) : Fig.pad s.data.toList = false := by
  have hl : decide (1 < s.data.toList.length) = false := by simpa using h1
  rw [Fig.pad, hl]; rfl
set_option maxHeartbeats 400000 in
theorem padded_any (s : ByteArray) (w : World) (hs : s.size ≤ maxLen) :
    Calls Tryd.prog 58 #[.string s] w fun e w' => e = .returned (.bool (Fig.pad s.data.toList)) ∧ w = w' := by
  unfold maxLen at hs
  by_cases h1 : 1 < s.size
  · go_enter Tryd.func58, Tryd.ntmps58
    go_wp2
    go_ret
    exact ⟨retB (pad_long s (by omega) h1).symm, rfl⟩
  · go_enter Tryd.func58, Tryd.ntmps58
    go_wp2
    go_ret
    exact ⟨retB (pad_short s h1).symm, rfl⟩

theorem take_snoc (s : ByteArray) (k : Nat) (h : k < s.size) : s.data.toList.take (k + 1) = s.data.toList.take k ++ [s[k]] := by
  rw [List.take_succ_eq_append_getElem (by simpa using h)]; rfl
theorem retNB {a b : Int} {p q : Bool} (h : a = b) (k : p = q) : Ending.returned (.tuple #[.int .i64 a, .bool p]) = .returned (.tuple #[.int .i64 b, .bool q]) := by rw [h, k]
theorem parse_no (l : List UInt8) (most : Int) (h : Fig.form l = false) : Fig.parseN l most = 0 ∧ Fig.parseB l most = false := by
  simp [Fig.parseN, Fig.parseB, h]
theorem all_false {p : UInt8 → Bool} {l : List UInt8} {k : Nat} (h : k < l.length) (hp : p l[k] = false) : l.all p = false := by
  rw [List.all_eq_false]; exact ⟨_, List.getElem_mem h, by simp [hp]⟩

theorem form_mid (s : ByteArray) (h1 : ¬ s.size = 0) (h2 : ¬ 13 < s.size) (h3 : Fig.pad s.data.toList = false) : Fig.form s.data.toList = s.data.toList.all Fig.dig := by
  have : decide (1 ≤ s.data.toList.length ∧ s.data.toList.length ≤ 13) = true := by simp; omega
  rw [Fig.form, this, h3]; simp
theorem form_ends (s : ByteArray) (h0 : s.size = 0 ∨ 13 < s.size) : Fig.form s.data.toList = false := by
  have : decide (1 ≤ s.data.toList.length ∧ s.data.toList.length ≤ 13) = false := by
    have : s.data.toList.length = s.size := by simp
    rw [decide_eq_false_iff_not]; omega
  rw [Fig.form, this]; rfl
theorem beq0_t {n : Nat} (h : n = 0) : ((n : Int) == 0) = true := by subst h; rfl
theorem beq0_f {n : Nat} (h : n ≠ 0) : ((n : Int) == 0) = false := by
  rw [beq_eq_false_iff_ne]; omega
theorem dec_f {p : Prop} [Decidable p] (h : ¬ p) : decide p = false := decide_eq_false h
theorem dec_t {p : Prop} [Decidable p] (h : p) : decide p = true := decide_eq_true h
theorem dig_bd {c : UInt8} (h : Fig.dig c = true) : 48 ≤ (c.toNat : Int) ∧ (c.toNat : Int) ≤ 57 := by simpa [Fig.dig] using h
theorem all_snoc {p : UInt8 → Bool} {s : ByteArray} {k : Nat} (hk : k < s.size) (h : (s.data.toList.take k).all p = true) (hc : p s[k] = true) : (s.data.toList.take (k + 1)).all p = true := by
  rw [take_snoc s k hk, List.all_append, h]; simpa using hc
theorem all_stop {p : UInt8 → Bool} {s : ByteArray} {k : Nat} (hk : k < s.size) (hc : p s[k] = false) : s.data.toList.all p = false :=
  all_false (k := k) (by simpa using hk) hc
theorem val_step (s : ByteArray) (k : Nat) (hk : k < s.size) : Fig.val (s.data.toList.take (k + 1)) = 10 * Fig.val (s.data.toList.take k) + ((s[k].toNat : Int) - 48) := by
  rw [take_snoc s k hk, Fig.val_snoc]
theorem pow_small {k : Nat} (h : k ≤ 13) : (10 : Int) ^ k ≤ 10000000000000 := by
  have : (10 : Nat) ^ k ≤ 10 ^ 13 := Nat.pow_le_pow_right (by omega) h
  have h2 : ((10 ^ k : Nat) : Int) ≤ ((10 ^ 13 : Nat) : Int) := Int.ofNat_le.mpr this
  simpa using h2
theorem val_small (s : ByteArray) (k : Nat) (h : k ≤ 13) (hd : (s.data.toList.take k).all Fig.dig = true) : 0 ≤ Fig.val (s.data.toList.take k) ∧ Fig.val (s.data.toList.take k) < 10000000000000 := by
  have hv := Fig.val_bd _ hd
  have hl : (s.data.toList.take k).length ≤ 13 := by simp; omega
  have := pow_small hl
  omega
theorem parse_val (s : ByteArray) (most : Int) (h : Fig.form s.data.toList = true) : Fig.parseN s.data.toList most = (if Fig.val s.data.toList ≤ most then Fig.val s.data.toList else 0) ∧ Fig.parseB s.data.toList most = decide (Fig.val s.data.toList ≤ most) := by
  simp [Fig.parseN, Fig.parseB, h]
theorem parse_in {n v most : Int} {b : Bool} (h : n = (if v ≤ most then v else 0) ∧ b = decide (v ≤ most)) (hm : v ≤ most) : n = v ∧ b = true := by
  rw [h.1, h.2, if_pos hm]; exact ⟨rfl, dec_t hm⟩
theorem parse_out {n v most : Int} {b : Bool} (h : n = (if v ≤ most then v else 0) ∧ b = decide (v ≤ most)) (hm : ¬ v ≤ most) : n = 0 ∧ b = false := by
  rw [h.1, h.2, if_neg hm]; exact ⟨rfl, dec_f hm⟩
set_option maxHeartbeats 400000 in
theorem parse_any (s : ByteArray) (most : Int) (w : World) (hs : s.size ≤ maxLen) :
    Calls Tryd.prog 48 #[.string s, .int .i64 most] w fun e w' => e = .returned (.tuple #[.int .i64 (Fig.parseN s.data.toList most), .bool (Fig.parseB s.data.toList most)]) ∧ w = w' := by
  unfold maxLen at hs
  by_cases h0 : s.size = 0 ∨ 13 < s.size
  · have H := Lib.hid (parse_no s.data.toList most (form_ends s h0))
    have h0' : ((s.size : Int) == 0) = true ∨ (((s.size : Int) == 0) = false ∧ decide (13 < (s.size : Int)) = true) := by
      by_cases h : s.size = 0
      · exact Or.inl (beq0_t h)
      · exact Or.inr ⟨beq0_f h, dec_t (by omega)⟩
    clear h0
    rcases h0' with h0' | ⟨h0', h1⟩
    all_goals
      go_enter Tryd.func48, Tryd.ntmps48
      go_wp2_with fail
      go_ret2
      exact ⟨retNB H.out.1.symm H.out.2.symm, rfl⟩
  · have h0a : ((s.size : Int) == 0) = false := beq0_f (by omega)
    have h0b : decide (13 < (s.size : Int)) = false := dec_f (by omega)
    have h0c : s.size ≤ 13 := by omega
    by_cases hp : Fig.pad s.data.toList = true
    · have H := Lib.hid (parse_no s.data.toList most (by rw [Fig.form, hp]; simp))
      clear h0 h0c
      go_enter Tryd.func48, Tryd.ntmps48
      go_wp2_with (go_at_call 58; refine (padded_any _ _ (by assumption)).mono ?_; rintro e w' ⟨rfl, rfl⟩)
      go_ret2
      exact ⟨retNB H.out.1.symm H.out.2.symm, rfl⟩
    · have hp' : Fig.pad s.data.toList = false := by simpa using hp
      have H := Lib.hid (form_mid s (by omega) (by omega) hp')
      clear h0 hp
      go_enter Tryd.func48, Tryd.ntmps48
      go_wp2_with (go_at_call 58; refine (padded_any _ _ (by assumption)).mono ?_; rintro e w' ⟨rfl, rfl⟩)
      go_loop [6, 22] (fun n i => ∃ k : Nat, k ≤ s.size ∧ i = .int .i64 k ∧ n = .int .i64 (Fig.val (s.data.toList.take k)) ∧ (s.data.toList.take k).all Fig.dig = true) (fun _ i => s.size - (intOf i).toNat)
      case atStart => exact ⟨0, Nat.zero_le _, rfl, rfl, rfl⟩
      case round =>
        obtain ⟨k, hk, rfl, rfl, hd⟩ := hrel
        have hv := val_small s k (by omega) hd
        by_cases hlt : k < s.size
        · by_cases hc : Fig.dig s[k] = true
          · have hb := dig_bd hc
            have HS := Lib.hid (val_step s k hlt)
            have HD := Lib.hid (all_snoc hlt hd hc)
            clear hd
            go_wp2_with (go_at_call 59; refine (digit_any _ _).mono ?_; rintro e w' ⟨rfl, rfl⟩)
            go_round
            case rel => exact ⟨k + 1, by omega, by go_num, by rw [HS.out], HD.out⟩
            case measure => simp [intOf]; omega
          · have hc' : Fig.dig s[k] = false := by simpa using hc
            have HF := Lib.hid (parse_no s.data.toList most (by rw [H.out]; exact all_stop hlt hc'))
            clear hd hc
            go_wp2_with (go_at_call 59; refine (digit_any _ _).mono ?_; rintro e w' ⟨rfl, rfl⟩)
            go_ret2
            exact ⟨retNB HF.out.1.symm HF.out.2.symm, rfl⟩
        · have hks : k = s.size := by omega
          subst hks
          have ht : s.data.toList.take s.size = s.data.toList := List.take_of_length_le (by simp)
          rw [ht] at hd hv
          rw [ht]
          have hn := parse_val s most (by rw [H.out]; exact hd)
          have HN := Lib.hid hn
          clear hd ht hn
          by_cases hm : Fig.val s.data.toList ≤ most
          · have HM := Lib.hid (parse_in HN.out hm)
            have hm' : decide (most < Fig.val s.data.toList) = false := dec_f (by omega)
            clear hm
            go_wp2_with fail
            go_ret2
            exact ⟨retNB HM.out.1.symm HM.out.2.symm, rfl⟩
          · have HM := Lib.hid (parse_out HN.out hm)
            have hm' : decide (most < Fig.val s.data.toList) = true := dec_t (by omega)
            clear hm
            go_wp2_with fail
            go_ret2
            exact ⟨retNB HM.out.1.symm HM.out.2.symm, rfl⟩
set_option maxHeartbeats 400000 in
theorem rparse_any (s : ByteArray) (most : Int) (w : World) (hs : s.size ≤ maxLen) :
    Calls Tryd.prog 27 #[.string s, .int .i64 most] w fun e w' => e = .returned (.tuple #[.int .i64 (Fig.parseN s.data.toList most), .bool (Fig.parseB s.data.toList most)]) ∧ w = w' := by
  unfold maxLen at hs
  by_cases h0 : s.size = 0 ∨ 13 < s.size
  · have H := Lib.hid (parse_no s.data.toList most (form_ends s h0))
    have h0' : ((s.size : Int) == 0) = true ∨ (((s.size : Int) == 0) = false ∧ decide (13 < (s.size : Int)) = true) := by
      by_cases h : s.size = 0
      · exact Or.inl (beq0_t h)
      · exact Or.inr ⟨beq0_f h, dec_t (by omega)⟩
    clear h0
    rcases h0' with h0' | ⟨h0', h1⟩
    all_goals
      go_enter Tryd.func27, Tryd.ntmps27
      go_wp2_with fail
      go_ret2
      exact ⟨retNB H.out.1.symm H.out.2.symm, rfl⟩
  · have h0a : ((s.size : Int) == 0) = false := beq0_f (by omega)
    have h0b : decide (13 < (s.size : Int)) = false := dec_f (by omega)
    have h0c : s.size ≤ 13 := by omega
    by_cases hp : Fig.pad s.data.toList = true
    · have H := Lib.hid (parse_no s.data.toList most (by rw [Fig.form, hp]; simp))
      have hz : 0 < s.size := by omega
      have h1a : decide (1 < (s.size : Int)) = true := dec_t (by have := (pad_yes s hp).1; omega)
      have h1c : ((s[0].toNat : Int) == 48) = true := by rw [(pad_yes s hp).2 hz]; rfl
      clear h0 h0c
      go_enter Tryd.func27, Tryd.ntmps27
      go_wp2_with fail
      go_ret2
      exact ⟨retNB H.out.1.symm H.out.2.symm, rfl⟩
    · have hp' : Fig.pad s.data.toList = false := by simpa using hp
      have H := Lib.hid (form_mid s (by omega) (by omega) hp')
      have hz : 0 < s.size := by omega
      have h1 : (decide (1 < (s.size : Int)) = true ∧ ((s[0].toNat : Int) == 48) = false) ∨ decide (1 < (s.size : Int)) = false := by
        by_cases h1 : 1 < s.size
        · exact Or.inl ⟨dec_t (by omega), by rw [← pad_long s hz h1]; exact hp'⟩
        · exact Or.inr (dec_f (by omega))
      clear h0 hp
      rcases h1 with ⟨h1a, h1c⟩ | h1a
      all_goals
        go_enter Tryd.func27, Tryd.ntmps27
        go_wp2_with fail
        go_loop [6, 7] (fun n i => ∃ k : Nat, k ≤ s.size ∧ i = .int .i64 k ∧ n = .int .i64 (Fig.val (s.data.toList.take k)) ∧ (s.data.toList.take k).all Fig.dig = true) (fun _ i => s.size - (intOf i).toNat)
        case atStart => exact ⟨0, Nat.zero_le _, rfl, rfl, rfl⟩
        case round =>
          obtain ⟨k, hk, rfl, rfl, hd⟩ := hrel
          have hv := val_small s k (by omega) hd
          by_cases hlt : k < s.size
          · by_cases hc : Fig.dig s[k] = true
            · have hb := dig_bd hc
              have HS := Lib.hid (val_step s k hlt)
              have HD := Lib.hid (all_snoc hlt hd hc)
              clear hd
              go_wp2_with (go_at_call 43; refine (rdigit_any _ _).mono ?_; rintro e w' ⟨rfl, rfl⟩)
              go_round
              case rel => exact ⟨k + 1, by omega, by go_num, by rw [HS.out], HD.out⟩
              case measure => simp [intOf]; omega
            · have hc' : Fig.dig s[k] = false := by simpa using hc
              have HF := Lib.hid (parse_no s.data.toList most (by rw [H.out]; exact all_stop hlt hc'))
              clear hd hc
              go_wp2_with (go_at_call 43; refine (rdigit_any _ _).mono ?_; rintro e w' ⟨rfl, rfl⟩)
              go_ret2
              exact ⟨retNB HF.out.1.symm HF.out.2.symm, rfl⟩
          · have hks : k = s.size := by omega
            subst hks
            have ht : s.data.toList.take s.size = s.data.toList := List.take_of_length_le (by simp)
            rw [ht] at hd hv
            rw [ht]
            have hn := parse_val s most (by rw [H.out]; exact hd)
            have HN := Lib.hid hn
            clear hd ht hn
            by_cases hm : Fig.val s.data.toList ≤ most
            · have HM := Lib.hid (parse_in HN.out hm)
              have hm' : decide (most < Fig.val s.data.toList) = false := dec_f (by omega)
              clear hm
              go_wp2_with fail
              go_ret2
              exact ⟨retNB HM.out.1.symm HM.out.2.symm, rfl⟩
            · have HM := Lib.hid (parse_out HN.out hm)
              have hm' : decide (most < Fig.val s.data.toList) = true := dec_t (by omega)
              clear hm
              go_wp2_with fail
              go_ret2
              exact ⟨retNB HM.out.1.symm HM.out.2.symm, rfl⟩
end Go.Proofs.YtgagandecjljoaaDoor

