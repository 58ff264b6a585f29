/-
  The walk of the law FigureForms: it returns true.
-/
import Derived.Test.YtooakpkbkoibpaaDoorFigureBackWalk
namespace Go.Proofs.YtooakpkbkoibpaaDoor
open Go.RowKit

theorem pad_at (s : ByteArray) (h : 0 < s.size) : Fig.pad s.data.toList = (decide (1 < s.size) && ((s[0].toNat : Int) == 48)) := by
  by_cases h1 : 1 < s.size
  · rw [pad_long s h h1, dec_t h1, Bool.true_and]
  · rw [pad_short s h1, dec_f h1, Bool.false_and]
theorem form_at (s : ByteArray) (h : 0 < s.size) (h13 : s.size ≤ 13) : Fig.form s.data.toList = (!(decide (1 < s.size) && ((s[0].toNat : Int) == 48)) && s.data.toList.all Fig.dig) := by
  have : decide (1 ≤ s.data.toList.length ∧ s.data.toList.length ≤ 13) = true := dec_t (by simp; omega)
  rw [Fig.form, this, pad_at s h]; rfl
theorem nodig {c : UInt8} (h : Fig.dig c = false) : ¬ (48 ≤ (c.toNat : Int) ∧ (c.toNat : Int) ≤ 57) := of_decide_eq_false h

/-- The law's loop and what comes behind it, where the text may still be a number when the loop begins. -/
theorem forms_parse (s : ByteArray) (m : Int) (b : Bool) (h : Fig.form s.data.toList = b) :
    (b = false → Fig.parseN s.data.toList m = 0 ∧ Fig.parseB s.data.toList m = false) ∧
    (b = true → Fig.parseN s.data.toList m = (if Fig.val s.data.toList ≤ m then Fig.val s.data.toList else 0) ∧ Fig.parseB s.data.toList m = decide (Fig.val s.data.toList ≤ m)) :=
  ⟨fun hb => parse_no _ m (h.trans hb), fun hb => parse_val s m (h.trans hb)⟩

set_option maxHeartbeats 1000000 in
theorem figureForms_walk (s : ByteArray) (m : Int) (W : World) (ws : s.size ≤ maxLen) (wm : (Lit.int .u32 m).wf = true)
    (htab : Lib.TabIs Tryd.prog W "internal/strconv.uint64pow10" .u64 Lib.pow10Tab) :
    Calls Tryd.prog 6 #[.string s, .int .u32 m] W fun e w' => e = .returned (.bool true) ∧ Below W.heap.size W w' := by
  have bm := wf_u32 wm
  have hs' := ws
  unfold maxLen at ws
  have A := Lib.hid (awake_any W htab)
  clear htab wm
  by_cases hl : 100 < s.size
  · have h1 : decide (100 < (s.size : Int)) = true := dec_t (by omega)
    clear hl bm
    go_enter Tryd.func6, Tryd.ntmps6
    go_wp2_with (go_at_call 7; refine A.out.mono ?_; rintro e w' ⟨rfl, hb⟩)
    go_ret
    exact ⟨rfl, hb⟩
  · have h1 : decide (100 < (s.size : Int)) = false := dec_f (by omega)
    -- where it is none from the first look on
    have bad : Fig.form s.data.toList = false → (decide (1 ≤ (s.size : Int)) = false ∨ (decide (1 ≤ (s.size : Int)) = true ∧ decide ((s.size : Int) ≤ 13) = false) ∨
        (∃ h0 : 0 < s.size, decide (1 ≤ (s.size : Int)) = true ∧ decide ((s.size : Int) ≤ 13) = true ∧ ((s[0].toNat : Int) != 48) = false ∧ ((s.size : Int) == 1) = false)) →
        Calls Tryd.prog 6 #[.string s, .int .u32 m] W fun e w' => e = .returned (.bool true) ∧ Below W.heap.size W w' := by
      intro hf hy
      have hp := parse_no s.data.toList m hf
      have C := Lib.hid (parse_of s m 0 false hs' hp.1 hp.2)
      clear hp hf hl hs'
      rcases hy with y1 | ⟨y1, y2⟩ | ⟨h0, y1, y2, y3, y4⟩
      all_goals
        go_enter Tryd.func6, Tryd.ntmps6
        go_wp2_with fail
        go_loop [5, 6, 7] (fun g n i => g = .bool false ∧ n = .int .i64 0 ∧ i = .int .i64 0) (fun _ _ _ => 0)
        case atStart => exact ⟨rfl, rfl, rfl⟩
        case round =>
          obtain ⟨rfl, rfl, rfl⟩ := hrel
          go_wp2_with fail
          all_goals try
            refine (C.out _).mono ?_; rintro e w' ⟨rfl, rfl⟩
            go_wp2_with fail
            refine A.out.mono ?_; rintro e w1 ⟨rfl, hb1⟩
            go_wp2_with fail
            go_ret
            exact ⟨rfl, hb1⟩
    by_cases h0 : s.size = 0
    · exact bad (form_ends s (Or.inl h0)) (Or.inl (dec_f (by omega)))
    · have g0 : 0 < s.size := by omega
      by_cases h13 : 13 < s.size
      · exact bad (form_ends s (Or.inr h13)) (Or.inr (Or.inl ⟨dec_t (by omega), dec_f (by omega)⟩))
      · have hfa := form_at s g0 (by omega)
        by_cases hz : (s[0].toNat : Int) = 48 ∧ 1 < s.size
        · refine bad (by rw [hfa, hz.1, dec_t hz.2]; rfl) (Or.inr (Or.inr ⟨g0, dec_t (by omega), dec_t (by omega), by rw [hz.1]; rfl, ?_⟩))
          rw [beq_eq_false_iff_ne]; omega
        · have hform : Fig.form s.data.toList = s.data.toList.all Fig.dig := by
            rw [hfa]
            by_cases h1 : 1 < s.size
            · have : ((s[0].toNat : Int) == 48) = false := by rw [beq_eq_false_iff_ne]; omega
              rw [this]; simp
            · rw [dec_f h1]; simp
          have y1 : decide (1 ≤ (s.size : Int)) = true := dec_t (by omega)
          have y2 : decide ((s.size : Int) ≤ 13) = true := dec_t (by omega)
          have y3 : ((s[0].toNat : Int) != 48) = true ∨ (((s[0].toNat : Int) != 48) = false ∧ ((s.size : Int) == 1) = true) := by
            by_cases h : (s[0].toNat : Int) = 48
            · refine Or.inr ⟨by rw [h]; rfl, ?_⟩
              rw [beq_iff_eq]; omega
            · exact Or.inl (by rw [bne_iff_ne]; exact h)
          have c13 : s.size ≤ 13 := by omega
          have P := forms_parse s m _ rfl
          have HF := Lib.hid hform
          have HP := Lib.hid P
          clear bad h0 h13 hfa hz P hl
          clear hform
          rcases y3 with y3 | ⟨y3, y4⟩
          all_goals
            go_enter Tryd.func6, Tryd.ntmps6
            go_wp2_with fail
            go_loop [5, 6, 7] (fun g n i => ∃ k : Nat, k ≤ s.size ∧ i = .int .i64 k ∧ ((g = .bool true ∧ n = .int .i64 (Fig.val (s.data.toList.take k)) ∧ (s.data.toList.take k).all Fig.dig = true) ∨ (g = .bool false ∧ (∃ v, n = .int .i64 v) ∧ Fig.form s.data.toList = false))) (fun _ _ i => s.size - (intOf i).toNat)
            case atStart => exact ⟨0, Nat.zero_le _, rfl, Or.inl ⟨rfl, rfl, rfl⟩⟩
            case round =>
              obtain ⟨k, hk, rfl, hd⟩ := hrel
              rcases hd with ⟨rfl, rfl, hd⟩ | ⟨rfl, ⟨v, rfl⟩, hf⟩
              · have hv := val_small s k (by omega) hd
                by_cases hlt : k < s.size
                · have HS := Lib.hid (val_step s k hlt)
                  have hb := UInt8.toNat_lt s[k]
                  by_cases hc : Fig.dig s[k] = true
                  · have hbd := dig_bd hc
                    have HD := Lib.hid (all_snoc hlt hd hc)
                    clear hd hc
                    go_wp2_with fail
                    go_round
                    case rel => exact ⟨k + 1, by omega, by go_num, Or.inl ⟨rfl, by rw [HS.out]; exact congrArg _ (by omega), HD.out⟩⟩
                    case measure => simp [intOf]; omega
                  · have hc' : Fig.dig s[k] = false := by simpa using hc
                    have HN := Lib.hid (show Fig.form s.data.toList = false by rw [HF.out]; exact all_stop hlt hc')
                    have hnd := nodig hc'
                    have hy : decide (48 ≤ (s[k].toNat : Int)) = false ∨ (decide (48 ≤ (s[k].toNat : Int)) = true ∧ decide ((s[k].toNat : Int) ≤ 57) = false) := by
                      by_cases h : 48 ≤ (s[k].toNat : Int)
                      · exact Or.inr ⟨dec_t h, dec_f (by omega)⟩
                      · exact Or.inl (dec_f h)
                    clear hd hc hnd
                    rcases hy with z1 | ⟨z1, z2⟩
                    all_goals
                      go_wp2_with fail
                      go_round
                      case rel => exact ⟨k + 1, by omega, by go_num, Or.inr ⟨rfl, ⟨_, rfl⟩, HN.out⟩⟩
                      case measure => simp [intOf]; omega
                · have hks : k = s.size := by omega
                  subst hks
                  have ht : s.data.toList.take s.size = s.data.toList := List.take_of_length_le (by simp)
                  rw [ht] at hd hv
                  rw [ht]
                  have hn := HP.out.2 (HF.out.trans hd)
                  clear hd ht
                  by_cases hm : Fig.val s.data.toList ≤ m
                  · have C := Lib.hid (parse_of s m _ true hs' (by rw [hn.1, if_pos hm]) (by rw [hn.2]; exact dec_t hm))
                    have hmd : decide (Fig.val s.data.toList ≤ m) = true := dec_t hm
                    clear hn hs' hm
                    go_wp2_with fail
                    refine (C.out _).mono ?_; rintro e w' ⟨rfl, rfl⟩
                    go_wp2_with fail
                    refine A.out.mono ?_; rintro e w1 ⟨rfl, hb1⟩
                    go_wp2_with fail
                    go_ret
                    exact ⟨rfl, hb1⟩
                  · have C := Lib.hid (parse_of s m 0 false hs' (by rw [hn.1, if_neg hm]) (by rw [hn.2]; exact dec_f hm))
                    have hmd : decide (Fig.val s.data.toList ≤ m) = false := dec_f hm
                    clear hn hs' hm
                    go_wp2_with fail
                    refine (C.out _).mono ?_; rintro e w' ⟨rfl, rfl⟩
                    go_wp2_with fail
                    refine A.out.mono ?_; rintro e w1 ⟨rfl, hb1⟩
                    go_wp2_with fail
                    all_goals go_ret
                    all_goals exact ⟨rfl, hb1⟩
              · have hn := HP.out.1 hf
                have C := Lib.hid (parse_of s m 0 false hs' hn.1 hn.2)
                clear hn hs' hf
                by_cases hlt : k < s.size
                all_goals
                  go_wp2_with fail
                  refine (C.out _).mono ?_; rintro e w' ⟨rfl, rfl⟩
                  go_wp2_with fail
                  refine A.out.mono ?_; rintro e w1 ⟨rfl, hb1⟩
                  go_wp2_with fail
                  all_goals go_ret
                  all_goals exact ⟨rfl, hb1⟩
end Go.Proofs.YtooakpkbkoibpaaDoor
