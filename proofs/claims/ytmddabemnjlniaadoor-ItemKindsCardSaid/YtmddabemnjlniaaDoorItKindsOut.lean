/-
  The walk of the law ItemKinds where there is no such kind.
-/
import Derived.Test.YtmddabemnjlniaaDoorItKindsIn
namespace Go.Proofs.YtmddabemnjlniaaDoor
open Go.RowKit

set_option maxHeartbeats 8000000 in
set_option maxRecDepth 100000 in
theorem ik_out_t_noname (k : Int) (nm : ByteArray) (c : UInt8) (W : World) (hm : nm.size ≤ maxLen) (hE : Env W) (hl : ¬ 50 < nm.size) (hk : ¬ (1 ≤ k ∧ k ≤ 9)) (h2 : It.tipOk (nm.data.toList ++ [c]) = true) (hn : Fig.nameB nm.data.toList = false) :
    Calls Tryd.prog 6 #[.int .i64 k, .string nm, .int .u8 c.toNat] W fun e w' => e = .returned (.bool true) ∧ Below W.heap.size W w' := by
  unfold maxLen at hm
  have hd : decide (50 < (nm.size : Int)) = false := dec_f (by omega)
  have hl' : nm.size ≤ 50 := by omega
  have WD := Lib.hid (fun w => word_any k w)
  have AW := Lib.hid awake_any
  have B0 := Lib.hid ((Below.refl W.heap.size W).alloc (Nat.le_refl _) (.cells #[.int .u8 c.toNat] 5))
  have H0 := Lib.hid (hE.below rfl B0.out)
  have hA := one_new W (c.toNat : Int)
  have e1 : (txt (It.word k)).toList.isEmpty = true := by rw [toList_txt, List.isEmpty_iff]; exact word_none (by omega) (by omega) (by omega) (by omega) (by omega) (by omega) (by omega) (by omega) (by omega)
  have kw : (decide (1 ≤ k) = false) ∨ (decide (1 ≤ k) = true ∧ decide (k ≤ 9) = false) := by
    by_cases h : 1 ≤ k
    · exact Or.inr ⟨dec_t h, dec_f (by omega)⟩
    · exact Or.inl (dec_f h)
  have T2 := Lib.hid (tip_any2 nm c hl' _ h2)
  obtain ⟨g0, g1⟩ := last_46 nm (tip_joined _ _ h2)
  have g3 : nm.size - 1 < nm.size := by omega
  have g2 : ((nm[nm.size - 1].toNat : Int) == 46) = true := by rw [g1 g3]; rfl
  have g4 : nm.toList.isEmpty = false := by rw [ByteArray.toList_eq]; simpa using (tip_joined _ _ h2).1
  clear g1
  have NM := Lib.hid (rname_b nm _ hn hl')
  have T1 := Lib.hid (tip_bad (nm.data.toList ++ [46] ++ [c]) _ (end_txt nm c) (by simp; omega) (by rw [tip_parts, hn]; rfl))
  clear hn h2
  clear hl hE hm hk
  rcases kw with k1 | ⟨k1, k9⟩
  all_goals
    go_enter Tryd.func6, Tryd.ntmps6
    go_wp2_with fail
    refine (WD.out _).mono ?_; rintro e w' ⟨rfl, rfl⟩
    go_wp2_with fail
    refine (T1.out _).mono ?_; rintro e w1 ⟨rfl, hb⟩
    have B1 := Lib.hid (B0.out.trans (hb.mono B0.out.size))
    have H1 := Lib.hid (H0.out.below rfl hb)
    clear hb B0 H0 hA
    have hA := one_byte ((w1.alloc (.cells #[.string ⟨#[]⟩, .int .u8 0] 23)).alloc (.cells #[.int .u8 c.toNat] 5)) (w1.heap.size + 1) (c.toNat : Int) (by go_simp)
    go_wp2_with fail
    refine (NM.out _).mono ?_; rintro e w' ⟨rfl, rfl⟩
    go_wp2_with fail
    refine (T2.out _).mono ?_; rintro e w2 ⟨rfl, hb⟩
    have hz : w1.heap.size < ((w1.alloc (.cells #[.string ⟨#[]⟩, .int .u8 0] 23)).alloc (.cells #[.int .u8 c.toNat] 5)).heap.size := by simp; omega
    have R2 := Lib.hid ((hb.block _ hz).trans ((row_alloc (by simp) _).trans (heap_alloc_new w1 (.cells #[.string ⟨#[]⟩, .int .u8 0] 23))))
    have B2 := Lib.hid (B1.out.trans ((((Below.refl w1.heap.size w1).alloc (Nat.le_refl _) (.cells #[.string ⟨#[]⟩, .int .u8 0] 23)).alloc (by simp) (.cells #[.int .u8 c.toNat] 5) |>.trans (hb.mono (Nat.le_of_lt hz))).mono B1.out.size))
    have H2 := Lib.hid ((H1.out.below rfl (((Below.refl w1.heap.size w1).alloc (Nat.le_refl _) (.cells #[.string ⟨#[]⟩, .int .u8 0] 23)).alloc (by simp) (.cells #[.int .u8 c.toNat] 5))).below rfl hb)
    clear hb B1 H1 hA hz
    go_wp2_with fail
    refine (AW.out _ (H2.out.below rfl ((Below.refl _ _).alloc (Nat.le_refl _) _))).mono ?_; rintro e w3 ⟨rfl, hb⟩
    have R3 := Lib.hid (keep_row R2.out hb)
    have B3 := Lib.hid (B2.out.trans ((((Below.refl w2.heap.size w2).alloc (Nat.le_refl _) _).trans (hb.mono (by simp))).mono B2.out.size))
    clear hb R2 B2 H2
    obtain ⟨⟨t0, t1⟩, ht⟩ := row2 R3.out
    go_wp2_with fail
    go_ret
    exact ⟨rfl, B3.out⟩
set_option maxHeartbeats 8000000 in
set_option maxRecDepth 100000 in
theorem ik_out_t_name (k : Int) (nm : ByteArray) (c : UInt8) (W : World) (hm : nm.size ≤ maxLen) (hE : Env W) (hl : ¬ 50 < nm.size) (hk : ¬ (1 ≤ k ∧ k ≤ 9)) (h2 : It.tipOk (nm.data.toList ++ [c]) = true) (hn : Fig.nameB nm.data.toList = true) :
    Calls Tryd.prog 6 #[.int .i64 k, .string nm, .int .u8 c.toNat] W fun e w' => e = .returned (.bool true) ∧ Below W.heap.size W w' := by
  unfold maxLen at hm
  have hd : decide (50 < (nm.size : Int)) = false := dec_f (by omega)
  have hl' : nm.size ≤ 50 := by omega
  have WD := Lib.hid (fun w => word_any k w)
  have AW := Lib.hid awake_any
  have B0 := Lib.hid ((Below.refl W.heap.size W).alloc (Nat.le_refl _) (.cells #[.int .u8 c.toNat] 5))
  have H0 := Lib.hid (hE.below rfl B0.out)
  have hA := one_new W (c.toNat : Int)
  have e1 : (txt (It.word k)).toList.isEmpty = true := by rw [toList_txt, List.isEmpty_iff]; exact word_none (by omega) (by omega) (by omega) (by omega) (by omega) (by omega) (by omega) (by omega) (by omega)
  have kw : (decide (1 ≤ k) = false) ∨ (decide (1 ≤ k) = true ∧ decide (k ≤ 9) = false) := by
    by_cases h : 1 ≤ k
    · exact Or.inr ⟨dec_t h, dec_f (by omega)⟩
    · exact Or.inl (dec_f h)
  have T2 := Lib.hid (tip_any2 nm c hl' _ h2)
  obtain ⟨g0, g1⟩ := last_46 nm (tip_joined _ _ h2)
  have g3 : nm.size - 1 < nm.size := by omega
  have g2 : ((nm[nm.size - 1].toNat : Int) == 46) = true := by rw [g1 g3]; rfl
  have g4 : nm.toList.isEmpty = false := by rw [ByteArray.toList_eq]; simpa using (tip_joined _ _ h2).1
  clear g1
  have NM := Lib.hid (rname_b nm _ hn hl')
  have T1g := fun (h : It.letter c = true) => Lib.hid (tip_good nm c hl' (by rw [hn, Bool.true_and]; exact h))
  have T1b := fun (h : It.letter c = false) => Lib.hid (tip_bad (nm.data.toList ++ [46] ++ [c]) _ (end_txt nm c) (by simp; omega) (by rw [tip_parts, hn, Bool.true_and]; exact h))
  clear hn h2
  clear hl hE hm hk
  rcases let_cases c with h | h | h | h | h | h
  · obtain ⟨c1, c2, c3, c4, c5, c6⟩ := h
    have T1 := T1g c6
    clear T1g T1b c6 c2 c3 c4 c5
    rcases kw with k1 | ⟨k1, k9⟩
    all_goals
      go_enter Tryd.func6, Tryd.ntmps6
      go_wp2_with fail
      refine (WD.out _).mono ?_; rintro e w' ⟨rfl, rfl⟩
      go_wp2_with fail
      refine (T1.out _).mono ?_; rintro e w1 ⟨rfl, hb⟩
      have B1 := Lib.hid (B0.out.trans (hb.mono B0.out.size))
      have H1 := Lib.hid (H0.out.below rfl hb)
      clear hb B0 H0 hA
      have hA := one_byte ((w1.alloc (.cells #[.string nm, .int .u8 c.toNat] 23)).alloc (.cells #[.int .u8 c.toNat] 5)) (w1.heap.size + 1) (c.toNat : Int) (by go_simp)
      go_wp2_with fail
      refine (NM.out _).mono ?_; rintro e w' ⟨rfl, rfl⟩
      go_wp2_with fail
      refine (T2.out _).mono ?_; rintro e w2 ⟨rfl, hb⟩
      have hz : w1.heap.size < ((w1.alloc (.cells #[.string nm, .int .u8 c.toNat] 23)).alloc (.cells #[.int .u8 c.toNat] 5)).heap.size := by simp; omega
      have R2 := Lib.hid ((hb.block _ hz).trans ((row_alloc (by simp) _).trans (heap_alloc_new w1 (.cells #[.string nm, .int .u8 c.toNat] 23))))
      have B2 := Lib.hid (B1.out.trans ((((Below.refl w1.heap.size w1).alloc (Nat.le_refl _) (.cells #[.string nm, .int .u8 c.toNat] 23)).alloc (by simp) (.cells #[.int .u8 c.toNat] 5) |>.trans (hb.mono (Nat.le_of_lt hz))).mono B1.out.size))
      have H2 := Lib.hid ((H1.out.below rfl (((Below.refl w1.heap.size w1).alloc (Nat.le_refl _) (.cells #[.string nm, .int .u8 c.toNat] 23)).alloc (by simp) (.cells #[.int .u8 c.toNat] 5))).below rfl hb)
      clear hb B1 H1 hA hz
      go_wp2_with fail
      refine (AW.out _ (H2.out.below rfl ((Below.refl _ _).alloc (Nat.le_refl _) _))).mono ?_; rintro e w3 ⟨rfl, hb⟩
      have R3 := Lib.hid (keep_row R2.out hb)
      have B3 := Lib.hid (B2.out.trans ((((Below.refl w2.heap.size w2).alloc (Nat.le_refl _) _).trans (hb.mono (by simp))).mono B2.out.size))
      clear hb R2 B2 H2
      obtain ⟨⟨t0, t1⟩, ht⟩ := row2 R3.out
      go_wp2_with fail
      go_ret
      exact ⟨rfl, B3.out⟩
  · obtain ⟨c1, c2, c3, c4, c5, c6⟩ := h
    have T1 := T1g c6
    clear T1g T1b c6 c3 c4 c5
    rcases kw with k1 | ⟨k1, k9⟩
    all_goals
      go_enter Tryd.func6, Tryd.ntmps6
      go_wp2_with fail
      refine (WD.out _).mono ?_; rintro e w' ⟨rfl, rfl⟩
      go_wp2_with fail
      refine (T1.out _).mono ?_; rintro e w1 ⟨rfl, hb⟩
      have B1 := Lib.hid (B0.out.trans (hb.mono B0.out.size))
      have H1 := Lib.hid (H0.out.below rfl hb)
      clear hb B0 H0 hA
      have hA := one_byte ((w1.alloc (.cells #[.string nm, .int .u8 c.toNat] 23)).alloc (.cells #[.int .u8 c.toNat] 5)) (w1.heap.size + 1) (c.toNat : Int) (by go_simp)
      go_wp2_with fail
      refine (NM.out _).mono ?_; rintro e w' ⟨rfl, rfl⟩
      go_wp2_with fail
      refine (T2.out _).mono ?_; rintro e w2 ⟨rfl, hb⟩
      have hz : w1.heap.size < ((w1.alloc (.cells #[.string nm, .int .u8 c.toNat] 23)).alloc (.cells #[.int .u8 c.toNat] 5)).heap.size := by simp; omega
      have R2 := Lib.hid ((hb.block _ hz).trans ((row_alloc (by simp) _).trans (heap_alloc_new w1 (.cells #[.string nm, .int .u8 c.toNat] 23))))
      have B2 := Lib.hid (B1.out.trans ((((Below.refl w1.heap.size w1).alloc (Nat.le_refl _) (.cells #[.string nm, .int .u8 c.toNat] 23)).alloc (by simp) (.cells #[.int .u8 c.toNat] 5) |>.trans (hb.mono (Nat.le_of_lt hz))).mono B1.out.size))
      have H2 := Lib.hid ((H1.out.below rfl (((Below.refl w1.heap.size w1).alloc (Nat.le_refl _) (.cells #[.string nm, .int .u8 c.toNat] 23)).alloc (by simp) (.cells #[.int .u8 c.toNat] 5))).below rfl hb)
      clear hb B1 H1 hA hz
      go_wp2_with fail
      refine (AW.out _ (H2.out.below rfl ((Below.refl _ _).alloc (Nat.le_refl _) _))).mono ?_; rintro e w3 ⟨rfl, hb⟩
      have R3 := Lib.hid (keep_row R2.out hb)
      have B3 := Lib.hid (B2.out.trans ((((Below.refl w2.heap.size w2).alloc (Nat.le_refl _) _).trans (hb.mono (by simp))).mono B2.out.size))
      clear hb R2 B2 H2
      obtain ⟨⟨t0, t1⟩, ht⟩ := row2 R3.out
      go_wp2_with fail
      go_ret
      exact ⟨rfl, B3.out⟩
  · obtain ⟨c1, c2, c3, c4, c5, c6⟩ := h
    have T1 := T1g c6
    clear T1g T1b c6 c4 c5
    rcases kw with k1 | ⟨k1, k9⟩
    all_goals
      go_enter Tryd.func6, Tryd.ntmps6
      go_wp2_with fail
      refine (WD.out _).mono ?_; rintro e w' ⟨rfl, rfl⟩
      go_wp2_with fail
      refine (T1.out _).mono ?_; rintro e w1 ⟨rfl, hb⟩
      have B1 := Lib.hid (B0.out.trans (hb.mono B0.out.size))
      have H1 := Lib.hid (H0.out.below rfl hb)
      clear hb B0 H0 hA
      have hA := one_byte ((w1.alloc (.cells #[.string nm, .int .u8 c.toNat] 23)).alloc (.cells #[.int .u8 c.toNat] 5)) (w1.heap.size + 1) (c.toNat : Int) (by go_simp)
      go_wp2_with fail
      refine (NM.out _).mono ?_; rintro e w' ⟨rfl, rfl⟩
      go_wp2_with fail
      refine (T2.out _).mono ?_; rintro e w2 ⟨rfl, hb⟩
      have hz : w1.heap.size < ((w1.alloc (.cells #[.string nm, .int .u8 c.toNat] 23)).alloc (.cells #[.int .u8 c.toNat] 5)).heap.size := by simp; omega
      have R2 := Lib.hid ((hb.block _ hz).trans ((row_alloc (by simp) _).trans (heap_alloc_new w1 (.cells #[.string nm, .int .u8 c.toNat] 23))))
      have B2 := Lib.hid (B1.out.trans ((((Below.refl w1.heap.size w1).alloc (Nat.le_refl _) (.cells #[.string nm, .int .u8 c.toNat] 23)).alloc (by simp) (.cells #[.int .u8 c.toNat] 5) |>.trans (hb.mono (Nat.le_of_lt hz))).mono B1.out.size))
      have H2 := Lib.hid ((H1.out.below rfl (((Below.refl w1.heap.size w1).alloc (Nat.le_refl _) (.cells #[.string nm, .int .u8 c.toNat] 23)).alloc (by simp) (.cells #[.int .u8 c.toNat] 5))).below rfl hb)
      clear hb B1 H1 hA hz
      go_wp2_with fail
      refine (AW.out _ (H2.out.below rfl ((Below.refl _ _).alloc (Nat.le_refl _) _))).mono ?_; rintro e w3 ⟨rfl, hb⟩
      have R3 := Lib.hid (keep_row R2.out hb)
      have B3 := Lib.hid (B2.out.trans ((((Below.refl w2.heap.size w2).alloc (Nat.le_refl _) _).trans (hb.mono (by simp))).mono B2.out.size))
      clear hb R2 B2 H2
      obtain ⟨⟨t0, t1⟩, ht⟩ := row2 R3.out
      go_wp2_with fail
      go_ret
      exact ⟨rfl, B3.out⟩
  · obtain ⟨c1, c2, c3, c4, c5, c6⟩ := h
    have T1 := T1g c6
    clear T1g T1b c6 c5
    rcases kw with k1 | ⟨k1, k9⟩
    all_goals
      go_enter Tryd.func6, Tryd.ntmps6
      go_wp2_with fail
      refine (WD.out _).mono ?_; rintro e w' ⟨rfl, rfl⟩
      go_wp2_with fail
      refine (T1.out _).mono ?_; rintro e w1 ⟨rfl, hb⟩
      have B1 := Lib.hid (B0.out.trans (hb.mono B0.out.size))
      have H1 := Lib.hid (H0.out.below rfl hb)
      clear hb B0 H0 hA
      have hA := one_byte ((w1.alloc (.cells #[.string nm, .int .u8 c.toNat] 23)).alloc (.cells #[.int .u8 c.toNat] 5)) (w1.heap.size + 1) (c.toNat : Int) (by go_simp)
      go_wp2_with fail
      refine (NM.out _).mono ?_; rintro e w' ⟨rfl, rfl⟩
      go_wp2_with fail
      refine (T2.out _).mono ?_; rintro e w2 ⟨rfl, hb⟩
      have hz : w1.heap.size < ((w1.alloc (.cells #[.string nm, .int .u8 c.toNat] 23)).alloc (.cells #[.int .u8 c.toNat] 5)).heap.size := by simp; omega
      have R2 := Lib.hid ((hb.block _ hz).trans ((row_alloc (by simp) _).trans (heap_alloc_new w1 (.cells #[.string nm, .int .u8 c.toNat] 23))))
      have B2 := Lib.hid (B1.out.trans ((((Below.refl w1.heap.size w1).alloc (Nat.le_refl _) (.cells #[.string nm, .int .u8 c.toNat] 23)).alloc (by simp) (.cells #[.int .u8 c.toNat] 5) |>.trans (hb.mono (Nat.le_of_lt hz))).mono B1.out.size))
      have H2 := Lib.hid ((H1.out.below rfl (((Below.refl w1.heap.size w1).alloc (Nat.le_refl _) (.cells #[.string nm, .int .u8 c.toNat] 23)).alloc (by simp) (.cells #[.int .u8 c.toNat] 5))).below rfl hb)
      clear hb B1 H1 hA hz
      go_wp2_with fail
      refine (AW.out _ (H2.out.below rfl ((Below.refl _ _).alloc (Nat.le_refl _) _))).mono ?_; rintro e w3 ⟨rfl, hb⟩
      have R3 := Lib.hid (keep_row R2.out hb)
      have B3 := Lib.hid (B2.out.trans ((((Below.refl w2.heap.size w2).alloc (Nat.le_refl _) _).trans (hb.mono (by simp))).mono B2.out.size))
      clear hb R2 B2 H2
      obtain ⟨⟨t0, t1⟩, ht⟩ := row2 R3.out
      go_wp2_with fail
      go_ret
      exact ⟨rfl, B3.out⟩
  · obtain ⟨c1, c2, c3, c4, c5, c6⟩ := h
    have T1 := T1g c6
    clear T1g T1b c6 
    rcases kw with k1 | ⟨k1, k9⟩
    all_goals
      go_enter Tryd.func6, Tryd.ntmps6
      go_wp2_with fail
      refine (WD.out _).mono ?_; rintro e w' ⟨rfl, rfl⟩
      go_wp2_with fail
      refine (T1.out _).mono ?_; rintro e w1 ⟨rfl, hb⟩
      have B1 := Lib.hid (B0.out.trans (hb.mono B0.out.size))
      have H1 := Lib.hid (H0.out.below rfl hb)
      clear hb B0 H0 hA
      have hA := one_byte ((w1.alloc (.cells #[.string nm, .int .u8 c.toNat] 23)).alloc (.cells #[.int .u8 c.toNat] 5)) (w1.heap.size + 1) (c.toNat : Int) (by go_simp)
      go_wp2_with fail
      refine (NM.out _).mono ?_; rintro e w' ⟨rfl, rfl⟩
      go_wp2_with fail
      refine (T2.out _).mono ?_; rintro e w2 ⟨rfl, hb⟩
      have hz : w1.heap.size < ((w1.alloc (.cells #[.string nm, .int .u8 c.toNat] 23)).alloc (.cells #[.int .u8 c.toNat] 5)).heap.size := by simp; omega
      have R2 := Lib.hid ((hb.block _ hz).trans ((row_alloc (by simp) _).trans (heap_alloc_new w1 (.cells #[.string nm, .int .u8 c.toNat] 23))))
      have B2 := Lib.hid (B1.out.trans ((((Below.refl w1.heap.size w1).alloc (Nat.le_refl _) (.cells #[.string nm, .int .u8 c.toNat] 23)).alloc (by simp) (.cells #[.int .u8 c.toNat] 5) |>.trans (hb.mono (Nat.le_of_lt hz))).mono B1.out.size))
      have H2 := Lib.hid ((H1.out.below rfl (((Below.refl w1.heap.size w1).alloc (Nat.le_refl _) (.cells #[.string nm, .int .u8 c.toNat] 23)).alloc (by simp) (.cells #[.int .u8 c.toNat] 5))).below rfl hb)
      clear hb B1 H1 hA hz
      go_wp2_with fail
      refine (AW.out _ (H2.out.below rfl ((Below.refl _ _).alloc (Nat.le_refl _) _))).mono ?_; rintro e w3 ⟨rfl, hb⟩
      have R3 := Lib.hid (keep_row R2.out hb)
      have B3 := Lib.hid (B2.out.trans ((((Below.refl w2.heap.size w2).alloc (Nat.le_refl _) _).trans (hb.mono (by simp))).mono B2.out.size))
      clear hb R2 B2 H2
      obtain ⟨⟨t0, t1⟩, ht⟩ := row2 R3.out
      go_wp2_with fail
      go_ret
      exact ⟨rfl, B3.out⟩
  · obtain ⟨c1, c2, c3, c4, c5, c6⟩ := h
    have T1 := T1b c6
    clear T1g T1b c6 
    rcases kw with k1 | ⟨k1, k9⟩
    all_goals
      go_enter Tryd.func6, Tryd.ntmps6
      go_wp2_with fail
      refine (WD.out _).mono ?_; rintro e w' ⟨rfl, rfl⟩
      go_wp2_with fail
      refine (T1.out _).mono ?_; rintro e w1 ⟨rfl, hb⟩
      have B1 := Lib.hid (B0.out.trans (hb.mono B0.out.size))
      have H1 := Lib.hid (H0.out.below rfl hb)
      clear hb B0 H0 hA
      have hA := one_byte ((w1.alloc (.cells #[.string ⟨#[]⟩, .int .u8 0] 23)).alloc (.cells #[.int .u8 c.toNat] 5)) (w1.heap.size + 1) (c.toNat : Int) (by go_simp)
      go_wp2_with fail
      refine (NM.out _).mono ?_; rintro e w' ⟨rfl, rfl⟩
      go_wp2_with fail
      refine (T2.out _).mono ?_; rintro e w2 ⟨rfl, hb⟩
      have hz : w1.heap.size < ((w1.alloc (.cells #[.string ⟨#[]⟩, .int .u8 0] 23)).alloc (.cells #[.int .u8 c.toNat] 5)).heap.size := by simp; omega
      have R2 := Lib.hid ((hb.block _ hz).trans ((row_alloc (by simp) _).trans (heap_alloc_new w1 (.cells #[.string ⟨#[]⟩, .int .u8 0] 23))))
      have B2 := Lib.hid (B1.out.trans ((((Below.refl w1.heap.size w1).alloc (Nat.le_refl _) (.cells #[.string ⟨#[]⟩, .int .u8 0] 23)).alloc (by simp) (.cells #[.int .u8 c.toNat] 5) |>.trans (hb.mono (Nat.le_of_lt hz))).mono B1.out.size))
      have H2 := Lib.hid ((H1.out.below rfl (((Below.refl w1.heap.size w1).alloc (Nat.le_refl _) (.cells #[.string ⟨#[]⟩, .int .u8 0] 23)).alloc (by simp) (.cells #[.int .u8 c.toNat] 5))).below rfl hb)
      clear hb B1 H1 hA hz
      go_wp2_with fail
      refine (AW.out _ (H2.out.below rfl ((Below.refl _ _).alloc (Nat.le_refl _) _))).mono ?_; rintro e w3 ⟨rfl, hb⟩
      have R3 := Lib.hid (keep_row R2.out hb)
      have B3 := Lib.hid (B2.out.trans ((((Below.refl w2.heap.size w2).alloc (Nat.le_refl _) _).trans (hb.mono (by simp))).mono B2.out.size))
      clear hb R2 B2 H2
      obtain ⟨⟨t0, t1⟩, ht⟩ := row2 R3.out
      go_wp2_with fail
      go_ret
      exact ⟨rfl, B3.out⟩
set_option maxHeartbeats 8000000 in
set_option maxRecDepth 100000 in
theorem ik_out_f_noname (k : Int) (nm : ByteArray) (c : UInt8) (W : World) (hm : nm.size ≤ maxLen) (hE : Env W) (hl : ¬ 50 < nm.size) (hk : ¬ (1 ≤ k ∧ k ≤ 9)) (h2 : It.tipOk (nm.data.toList ++ [c]) = false) (hn : Fig.nameB nm.data.toList = false) :
    Calls Tryd.prog 6 #[.int .i64 k, .string nm, .int .u8 c.toNat] W fun e w' => e = .returned (.bool true) ∧ Below W.heap.size W w' := by
  unfold maxLen at hm
  have hd : decide (50 < (nm.size : Int)) = false := dec_f (by omega)
  have hl' : nm.size ≤ 50 := by omega
  have WD := Lib.hid (fun w => word_any k w)
  have AW := Lib.hid awake_any
  have B0 := Lib.hid ((Below.refl W.heap.size W).alloc (Nat.le_refl _) (.cells #[.int .u8 c.toNat] 5))
  have H0 := Lib.hid (hE.below rfl B0.out)
  have hA := one_new W (c.toNat : Int)
  have e1 : (txt (It.word k)).toList.isEmpty = true := by rw [toList_txt, List.isEmpty_iff]; exact word_none (by omega) (by omega) (by omega) (by omega) (by omega) (by omega) (by omega) (by omega) (by omega)
  have kw : (decide (1 ≤ k) = false) ∨ (decide (1 ≤ k) = true ∧ decide (k ≤ 9) = false) := by
    by_cases h : 1 ≤ k
    · exact Or.inr ⟨dec_t h, dec_f (by omega)⟩
    · exact Or.inl (dec_f h)
  have T2 := Lib.hid (tip_any2 nm c hl' _ h2)
  have NM := Lib.hid (rname_b nm _ hn hl')
  have T1 := Lib.hid (tip_bad (nm.data.toList ++ [46] ++ [c]) _ (end_txt nm c) (by simp; omega) (by rw [tip_parts, hn]; rfl))
  clear hn h2
  clear hl hE hm hk
  rcases kw with k1 | ⟨k1, k9⟩
  all_goals
    go_enter Tryd.func6, Tryd.ntmps6
    go_wp2_with fail
    refine (WD.out _).mono ?_; rintro e w' ⟨rfl, rfl⟩
    go_wp2_with fail
    refine (T1.out _).mono ?_; rintro e w1 ⟨rfl, hb⟩
    have B1 := Lib.hid (B0.out.trans (hb.mono B0.out.size))
    have H1 := Lib.hid (H0.out.below rfl hb)
    clear hb B0 H0 hA
    have hA := one_byte ((w1.alloc (.cells #[.string ⟨#[]⟩, .int .u8 0] 23)).alloc (.cells #[.int .u8 c.toNat] 5)) (w1.heap.size + 1) (c.toNat : Int) (by go_simp)
    go_wp2_with fail
    refine (NM.out _).mono ?_; rintro e w' ⟨rfl, rfl⟩
    go_wp2_with fail
    refine (T2.out _).mono ?_; rintro e w2 ⟨rfl, hb⟩
    have hz : w1.heap.size < ((w1.alloc (.cells #[.string ⟨#[]⟩, .int .u8 0] 23)).alloc (.cells #[.int .u8 c.toNat] 5)).heap.size := by simp; omega
    have R2 := Lib.hid ((hb.block _ hz).trans ((row_alloc (by simp) _).trans (heap_alloc_new w1 (.cells #[.string ⟨#[]⟩, .int .u8 0] 23))))
    have B2 := Lib.hid (B1.out.trans ((((Below.refl w1.heap.size w1).alloc (Nat.le_refl _) (.cells #[.string ⟨#[]⟩, .int .u8 0] 23)).alloc (by simp) (.cells #[.int .u8 c.toNat] 5) |>.trans (hb.mono (Nat.le_of_lt hz))).mono B1.out.size))
    have H2 := Lib.hid ((H1.out.below rfl (((Below.refl w1.heap.size w1).alloc (Nat.le_refl _) (.cells #[.string ⟨#[]⟩, .int .u8 0] 23)).alloc (by simp) (.cells #[.int .u8 c.toNat] 5))).below rfl hb)
    clear hb B1 H1 hA hz
    go_wp2_with fail
    refine (AW.out _ (H2.out.below rfl ((Below.refl _ _).alloc (Nat.le_refl _) _))).mono ?_; rintro e w3 ⟨rfl, hb⟩
    have R3 := Lib.hid (keep_row R2.out hb)
    have B3 := Lib.hid (B2.out.trans ((((Below.refl w2.heap.size w2).alloc (Nat.le_refl _) _).trans (hb.mono (by simp))).mono B2.out.size))
    clear hb R2 B2 H2
    obtain ⟨⟨t0, t1⟩, ht⟩ := row2 R3.out
    go_wp2_with fail
    go_ret
    exact ⟨rfl, B3.out⟩
set_option maxHeartbeats 8000000 in
set_option maxRecDepth 100000 in
theorem ik_out_f_name (k : Int) (nm : ByteArray) (c : UInt8) (W : World) (hm : nm.size ≤ maxLen) (hE : Env W) (hl : ¬ 50 < nm.size) (hk : ¬ (1 ≤ k ∧ k ≤ 9)) (h2 : It.tipOk (nm.data.toList ++ [c]) = false) (hn : Fig.nameB nm.data.toList = true) :
    Calls Tryd.prog 6 #[.int .i64 k, .string nm, .int .u8 c.toNat] W fun e w' => e = .returned (.bool true) ∧ Below W.heap.size W w' := by
  unfold maxLen at hm
  have hd : decide (50 < (nm.size : Int)) = false := dec_f (by omega)
  have hl' : nm.size ≤ 50 := by omega
  have WD := Lib.hid (fun w => word_any k w)
  have AW := Lib.hid awake_any
  have B0 := Lib.hid ((Below.refl W.heap.size W).alloc (Nat.le_refl _) (.cells #[.int .u8 c.toNat] 5))
  have H0 := Lib.hid (hE.below rfl B0.out)
  have hA := one_new W (c.toNat : Int)
  have e1 : (txt (It.word k)).toList.isEmpty = true := by rw [toList_txt, List.isEmpty_iff]; exact word_none (by omega) (by omega) (by omega) (by omega) (by omega) (by omega) (by omega) (by omega) (by omega)
  have kw : (decide (1 ≤ k) = false) ∨ (decide (1 ≤ k) = true ∧ decide (k ≤ 9) = false) := by
    by_cases h : 1 ≤ k
    · exact Or.inr ⟨dec_t h, dec_f (by omega)⟩
    · exact Or.inl (dec_f h)
  have T2 := Lib.hid (tip_any2 nm c hl' _ h2)
  have NM := Lib.hid (rname_b nm _ hn hl')
  have T1g := fun (h : It.letter c = true) => Lib.hid (tip_good nm c hl' (by rw [hn, Bool.true_and]; exact h))
  have T1b := fun (h : It.letter c = false) => Lib.hid (tip_bad (nm.data.toList ++ [46] ++ [c]) _ (end_txt nm c) (by simp; omega) (by rw [tip_parts, hn, Bool.true_and]; exact h))
  clear hn h2
  clear hl hE hm hk
  rcases let_cases c with h | h | h | h | h | h
  · obtain ⟨c1, c2, c3, c4, c5, c6⟩ := h
    have T1 := T1g c6
    clear T1g T1b c6 c2 c3 c4 c5
    rcases kw with k1 | ⟨k1, k9⟩
    all_goals
      go_enter Tryd.func6, Tryd.ntmps6
      go_wp2_with fail
      refine (WD.out _).mono ?_; rintro e w' ⟨rfl, rfl⟩
      go_wp2_with fail
      refine (T1.out _).mono ?_; rintro e w1 ⟨rfl, hb⟩
      have B1 := Lib.hid (B0.out.trans (hb.mono B0.out.size))
      have H1 := Lib.hid (H0.out.below rfl hb)
      clear hb B0 H0 hA
      have hA := one_byte ((w1.alloc (.cells #[.string nm, .int .u8 c.toNat] 23)).alloc (.cells #[.int .u8 c.toNat] 5)) (w1.heap.size + 1) (c.toNat : Int) (by go_simp)
      go_wp2_with fail
      refine (NM.out _).mono ?_; rintro e w' ⟨rfl, rfl⟩
      go_wp2_with fail
      refine (T2.out _).mono ?_; rintro e w2 ⟨rfl, hb⟩
      have hz : w1.heap.size < ((w1.alloc (.cells #[.string nm, .int .u8 c.toNat] 23)).alloc (.cells #[.int .u8 c.toNat] 5)).heap.size := by simp; omega
      have R2 := Lib.hid ((hb.block _ hz).trans ((row_alloc (by simp) _).trans (heap_alloc_new w1 (.cells #[.string nm, .int .u8 c.toNat] 23))))
      have B2 := Lib.hid (B1.out.trans ((((Below.refl w1.heap.size w1).alloc (Nat.le_refl _) (.cells #[.string nm, .int .u8 c.toNat] 23)).alloc (by simp) (.cells #[.int .u8 c.toNat] 5) |>.trans (hb.mono (Nat.le_of_lt hz))).mono B1.out.size))
      have H2 := Lib.hid ((H1.out.below rfl (((Below.refl w1.heap.size w1).alloc (Nat.le_refl _) (.cells #[.string nm, .int .u8 c.toNat] 23)).alloc (by simp) (.cells #[.int .u8 c.toNat] 5))).below rfl hb)
      clear hb B1 H1 hA hz
      go_wp2_with fail
      refine (AW.out _ (H2.out.below rfl ((Below.refl _ _).alloc (Nat.le_refl _) _))).mono ?_; rintro e w3 ⟨rfl, hb⟩
      have R3 := Lib.hid (keep_row R2.out hb)
      have B3 := Lib.hid (B2.out.trans ((((Below.refl w2.heap.size w2).alloc (Nat.le_refl _) _).trans (hb.mono (by simp))).mono B2.out.size))
      clear hb R2 B2 H2
      obtain ⟨⟨t0, t1⟩, ht⟩ := row2 R3.out
      go_wp2_with fail
      go_ret
      exact ⟨rfl, B3.out⟩
  · obtain ⟨c1, c2, c3, c4, c5, c6⟩ := h
    have T1 := T1g c6
    clear T1g T1b c6 c3 c4 c5
    rcases kw with k1 | ⟨k1, k9⟩
    all_goals
      go_enter Tryd.func6, Tryd.ntmps6
      go_wp2_with fail
      refine (WD.out _).mono ?_; rintro e w' ⟨rfl, rfl⟩
      go_wp2_with fail
      refine (T1.out _).mono ?_; rintro e w1 ⟨rfl, hb⟩
      have B1 := Lib.hid (B0.out.trans (hb.mono B0.out.size))
      have H1 := Lib.hid (H0.out.below rfl hb)
      clear hb B0 H0 hA
      have hA := one_byte ((w1.alloc (.cells #[.string nm, .int .u8 c.toNat] 23)).alloc (.cells #[.int .u8 c.toNat] 5)) (w1.heap.size + 1) (c.toNat : Int) (by go_simp)
      go_wp2_with fail
      refine (NM.out _).mono ?_; rintro e w' ⟨rfl, rfl⟩
      go_wp2_with fail
      refine (T2.out _).mono ?_; rintro e w2 ⟨rfl, hb⟩
      have hz : w1.heap.size < ((w1.alloc (.cells #[.string nm, .int .u8 c.toNat] 23)).alloc (.cells #[.int .u8 c.toNat] 5)).heap.size := by simp; omega
      have R2 := Lib.hid ((hb.block _ hz).trans ((row_alloc (by simp) _).trans (heap_alloc_new w1 (.cells #[.string nm, .int .u8 c.toNat] 23))))
      have B2 := Lib.hid (B1.out.trans ((((Below.refl w1.heap.size w1).alloc (Nat.le_refl _) (.cells #[.string nm, .int .u8 c.toNat] 23)).alloc (by simp) (.cells #[.int .u8 c.toNat] 5) |>.trans (hb.mono (Nat.le_of_lt hz))).mono B1.out.size))
      have H2 := Lib.hid ((H1.out.below rfl (((Below.refl w1.heap.size w1).alloc (Nat.le_refl _) (.cells #[.string nm, .int .u8 c.toNat] 23)).alloc (by simp) (.cells #[.int .u8 c.toNat] 5))).below rfl hb)
      clear hb B1 H1 hA hz
      go_wp2_with fail
      refine (AW.out _ (H2.out.below rfl ((Below.refl _ _).alloc (Nat.le_refl _) _))).mono ?_; rintro e w3 ⟨rfl, hb⟩
      have R3 := Lib.hid (keep_row R2.out hb)
      have B3 := Lib.hid (B2.out.trans ((((Below.refl w2.heap.size w2).alloc (Nat.le_refl _) _).trans (hb.mono (by simp))).mono B2.out.size))
      clear hb R2 B2 H2
      obtain ⟨⟨t0, t1⟩, ht⟩ := row2 R3.out
      go_wp2_with fail
      go_ret
      exact ⟨rfl, B3.out⟩
  · obtain ⟨c1, c2, c3, c4, c5, c6⟩ := h
    have T1 := T1g c6
    clear T1g T1b c6 c4 c5
    rcases kw with k1 | ⟨k1, k9⟩
    all_goals
      go_enter Tryd.func6, Tryd.ntmps6
      go_wp2_with fail
      refine (WD.out _).mono ?_; rintro e w' ⟨rfl, rfl⟩
      go_wp2_with fail
      refine (T1.out _).mono ?_; rintro e w1 ⟨rfl, hb⟩
      have B1 := Lib.hid (B0.out.trans (hb.mono B0.out.size))
      have H1 := Lib.hid (H0.out.below rfl hb)
      clear hb B0 H0 hA
      have hA := one_byte ((w1.alloc (.cells #[.string nm, .int .u8 c.toNat] 23)).alloc (.cells #[.int .u8 c.toNat] 5)) (w1.heap.size + 1) (c.toNat : Int) (by go_simp)
      go_wp2_with fail
      refine (NM.out _).mono ?_; rintro e w' ⟨rfl, rfl⟩
      go_wp2_with fail
      refine (T2.out _).mono ?_; rintro e w2 ⟨rfl, hb⟩
      have hz : w1.heap.size < ((w1.alloc (.cells #[.string nm, .int .u8 c.toNat] 23)).alloc (.cells #[.int .u8 c.toNat] 5)).heap.size := by simp; omega
      have R2 := Lib.hid ((hb.block _ hz).trans ((row_alloc (by simp) _).trans (heap_alloc_new w1 (.cells #[.string nm, .int .u8 c.toNat] 23))))
      have B2 := Lib.hid (B1.out.trans ((((Below.refl w1.heap.size w1).alloc (Nat.le_refl _) (.cells #[.string nm, .int .u8 c.toNat] 23)).alloc (by simp) (.cells #[.int .u8 c.toNat] 5) |>.trans (hb.mono (Nat.le_of_lt hz))).mono B1.out.size))
      have H2 := Lib.hid ((H1.out.below rfl (((Below.refl w1.heap.size w1).alloc (Nat.le_refl _) (.cells #[.string nm, .int .u8 c.toNat] 23)).alloc (by simp) (.cells #[.int .u8 c.toNat] 5))).below rfl hb)
      clear hb B1 H1 hA hz
      go_wp2_with fail
      refine (AW.out _ (H2.out.below rfl ((Below.refl _ _).alloc (Nat.le_refl _) _))).mono ?_; rintro e w3 ⟨rfl, hb⟩
      have R3 := Lib.hid (keep_row R2.out hb)
      have B3 := Lib.hid (B2.out.trans ((((Below.refl w2.heap.size w2).alloc (Nat.le_refl _) _).trans (hb.mono (by simp))).mono B2.out.size))
      clear hb R2 B2 H2
      obtain ⟨⟨t0, t1⟩, ht⟩ := row2 R3.out
      go_wp2_with fail
      go_ret
      exact ⟨rfl, B3.out⟩
  · obtain ⟨c1, c2, c3, c4, c5, c6⟩ := h
    have T1 := T1g c6
    clear T1g T1b c6 c5
    rcases kw with k1 | ⟨k1, k9⟩
    all_goals
      go_enter Tryd.func6, Tryd.ntmps6
      go_wp2_with fail
      refine (WD.out _).mono ?_; rintro e w' ⟨rfl, rfl⟩
      go_wp2_with fail
      refine (T1.out _).mono ?_; rintro e w1 ⟨rfl, hb⟩
      have B1 := Lib.hid (B0.out.trans (hb.mono B0.out.size))
      have H1 := Lib.hid (H0.out.below rfl hb)
      clear hb B0 H0 hA
      have hA := one_byte ((w1.alloc (.cells #[.string nm, .int .u8 c.toNat] 23)).alloc (.cells #[.int .u8 c.toNat] 5)) (w1.heap.size + 1) (c.toNat : Int) (by go_simp)
      go_wp2_with fail
      refine (NM.out _).mono ?_; rintro e w' ⟨rfl, rfl⟩
      go_wp2_with fail
      refine (T2.out _).mono ?_; rintro e w2 ⟨rfl, hb⟩
      have hz : w1.heap.size < ((w1.alloc (.cells #[.string nm, .int .u8 c.toNat] 23)).alloc (.cells #[.int .u8 c.toNat] 5)).heap.size := by simp; omega
      have R2 := Lib.hid ((hb.block _ hz).trans ((row_alloc (by simp) _).trans (heap_alloc_new w1 (.cells #[.string nm, .int .u8 c.toNat] 23))))
      have B2 := Lib.hid (B1.out.trans ((((Below.refl w1.heap.size w1).alloc (Nat.le_refl _) (.cells #[.string nm, .int .u8 c.toNat] 23)).alloc (by simp) (.cells #[.int .u8 c.toNat] 5) |>.trans (hb.mono (Nat.le_of_lt hz))).mono B1.out.size))
      have H2 := Lib.hid ((H1.out.below rfl (((Below.refl w1.heap.size w1).alloc (Nat.le_refl _) (.cells #[.string nm, .int .u8 c.toNat] 23)).alloc (by simp) (.cells #[.int .u8 c.toNat] 5))).below rfl hb)
      clear hb B1 H1 hA hz
      go_wp2_with fail
      refine (AW.out _ (H2.out.below rfl ((Below.refl _ _).alloc (Nat.le_refl _) _))).mono ?_; rintro e w3 ⟨rfl, hb⟩
      have R3 := Lib.hid (keep_row R2.out hb)
      have B3 := Lib.hid (B2.out.trans ((((Below.refl w2.heap.size w2).alloc (Nat.le_refl _) _).trans (hb.mono (by simp))).mono B2.out.size))
      clear hb R2 B2 H2
      obtain ⟨⟨t0, t1⟩, ht⟩ := row2 R3.out
      go_wp2_with fail
      go_ret
      exact ⟨rfl, B3.out⟩
  · obtain ⟨c1, c2, c3, c4, c5, c6⟩ := h
    have T1 := T1g c6
    clear T1g T1b c6 
    rcases kw with k1 | ⟨k1, k9⟩
    all_goals
      go_enter Tryd.func6, Tryd.ntmps6
      go_wp2_with fail
      refine (WD.out _).mono ?_; rintro e w' ⟨rfl, rfl⟩
      go_wp2_with fail
      refine (T1.out _).mono ?_; rintro e w1 ⟨rfl, hb⟩
      have B1 := Lib.hid (B0.out.trans (hb.mono B0.out.size))
      have H1 := Lib.hid (H0.out.below rfl hb)
      clear hb B0 H0 hA
      have hA := one_byte ((w1.alloc (.cells #[.string nm, .int .u8 c.toNat] 23)).alloc (.cells #[.int .u8 c.toNat] 5)) (w1.heap.size + 1) (c.toNat : Int) (by go_simp)
      go_wp2_with fail
      refine (NM.out _).mono ?_; rintro e w' ⟨rfl, rfl⟩
      go_wp2_with fail
      refine (T2.out _).mono ?_; rintro e w2 ⟨rfl, hb⟩
      have hz : w1.heap.size < ((w1.alloc (.cells #[.string nm, .int .u8 c.toNat] 23)).alloc (.cells #[.int .u8 c.toNat] 5)).heap.size := by simp; omega
      have R2 := Lib.hid ((hb.block _ hz).trans ((row_alloc (by simp) _).trans (heap_alloc_new w1 (.cells #[.string nm, .int .u8 c.toNat] 23))))
      have B2 := Lib.hid (B1.out.trans ((((Below.refl w1.heap.size w1).alloc (Nat.le_refl _) (.cells #[.string nm, .int .u8 c.toNat] 23)).alloc (by simp) (.cells #[.int .u8 c.toNat] 5) |>.trans (hb.mono (Nat.le_of_lt hz))).mono B1.out.size))
      have H2 := Lib.hid ((H1.out.below rfl (((Below.refl w1.heap.size w1).alloc (Nat.le_refl _) (.cells #[.string nm, .int .u8 c.toNat] 23)).alloc (by simp) (.cells #[.int .u8 c.toNat] 5))).below rfl hb)
      clear hb B1 H1 hA hz
      go_wp2_with fail
      refine (AW.out _ (H2.out.below rfl ((Below.refl _ _).alloc (Nat.le_refl _) _))).mono ?_; rintro e w3 ⟨rfl, hb⟩
      have R3 := Lib.hid (keep_row R2.out hb)
      have B3 := Lib.hid (B2.out.trans ((((Below.refl w2.heap.size w2).alloc (Nat.le_refl _) _).trans (hb.mono (by simp))).mono B2.out.size))
      clear hb R2 B2 H2
      obtain ⟨⟨t0, t1⟩, ht⟩ := row2 R3.out
      go_wp2_with fail
      go_ret
      exact ⟨rfl, B3.out⟩
  · obtain ⟨c1, c2, c3, c4, c5, c6⟩ := h
    have T1 := T1b c6
    clear T1g T1b c6 
    rcases kw with k1 | ⟨k1, k9⟩
    all_goals
      go_enter Tryd.func6, Tryd.ntmps6
      go_wp2_with fail
      refine (WD.out _).mono ?_; rintro e w' ⟨rfl, rfl⟩
      go_wp2_with fail
      refine (T1.out _).mono ?_; rintro e w1 ⟨rfl, hb⟩
      have B1 := Lib.hid (B0.out.trans (hb.mono B0.out.size))
      have H1 := Lib.hid (H0.out.below rfl hb)
      clear hb B0 H0 hA
      have hA := one_byte ((w1.alloc (.cells #[.string ⟨#[]⟩, .int .u8 0] 23)).alloc (.cells #[.int .u8 c.toNat] 5)) (w1.heap.size + 1) (c.toNat : Int) (by go_simp)
      go_wp2_with fail
      refine (NM.out _).mono ?_; rintro e w' ⟨rfl, rfl⟩
      go_wp2_with fail
      refine (T2.out _).mono ?_; rintro e w2 ⟨rfl, hb⟩
      have hz : w1.heap.size < ((w1.alloc (.cells #[.string ⟨#[]⟩, .int .u8 0] 23)).alloc (.cells #[.int .u8 c.toNat] 5)).heap.size := by simp; omega
      have R2 := Lib.hid ((hb.block _ hz).trans ((row_alloc (by simp) _).trans (heap_alloc_new w1 (.cells #[.string ⟨#[]⟩, .int .u8 0] 23))))
      have B2 := Lib.hid (B1.out.trans ((((Below.refl w1.heap.size w1).alloc (Nat.le_refl _) (.cells #[.string ⟨#[]⟩, .int .u8 0] 23)).alloc (by simp) (.cells #[.int .u8 c.toNat] 5) |>.trans (hb.mono (Nat.le_of_lt hz))).mono B1.out.size))
      have H2 := Lib.hid ((H1.out.below rfl (((Below.refl w1.heap.size w1).alloc (Nat.le_refl _) (.cells #[.string ⟨#[]⟩, .int .u8 0] 23)).alloc (by simp) (.cells #[.int .u8 c.toNat] 5))).below rfl hb)
      clear hb B1 H1 hA hz
      go_wp2_with fail
      refine (AW.out _ (H2.out.below rfl ((Below.refl _ _).alloc (Nat.le_refl _) _))).mono ?_; rintro e w3 ⟨rfl, hb⟩
      have R3 := Lib.hid (keep_row R2.out hb)
      have B3 := Lib.hid (B2.out.trans ((((Below.refl w2.heap.size w2).alloc (Nat.le_refl _) _).trans (hb.mono (by simp))).mono B2.out.size))
      clear hb R2 B2 H2
      obtain ⟨⟨t0, t1⟩, ht⟩ := row2 R3.out
      go_wp2_with fail
      go_ret
      exact ⟨rfl, B3.out⟩
end Go.Proofs.YtmddabemnjlniaaDoor

