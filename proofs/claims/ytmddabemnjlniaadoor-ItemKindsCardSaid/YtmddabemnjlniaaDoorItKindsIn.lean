/-
  The walk of the law ItemKinds where there is such a kind.
-/
import Derived.Test.YtmddabemnjlniaaDoorItKit
namespace Go.Proofs.YtmddabemnjlniaaDoor
open Go.RowKit

theorem word_ne {k : Int} (h1 : 1 ≤ k) (h9 : k ≤ 9) : It.word k ≠ [] := by
  obtain rfl | rfl | rfl | rfl | rfl | rfl | rfl | rfl | rfl : k = 1 ∨ k = 2 ∨ k = 3 ∨ k = 4 ∨ k = 5 ∨ k = 6 ∨ k = 7 ∨ k = 8 ∨ k = 9 := by omega
  all_goals decide
theorem kind_word' {k : Int} (h1 : 1 ≤ k) (h9 : k ≤ 9) : It.kind (It.word k) = k := by
  obtain ⟨n, rfl⟩ : ∃ n : Nat, k = n := ⟨k.toNat, by omega⟩
  exact It.kind_word n (by omega) (by omega)
/-- An end's name out of its parts. -/
theorem tip_parts (l : List UInt8) (c : UInt8) : It.tipOk (l ++ [46] ++ [c]) = (Fig.nameB l && It.letter c) := by
  have e1 : (l ++ [46] ++ [c]).length = l.length + 2 := by simp
  have e2 : (l ++ [46] ++ [c])[l.length + 2 - 2]? = some 46 := by
    rw [List.append_assoc, List.getElem?_append_right (by omega)]; simp
  have e3 : (l ++ [46] ++ [c])[l.length + 2 - 1]? = some c := by
    rw [List.append_assoc, List.getElem?_append_right (by omega)]; simp
  have e4 : (l ++ [46] ++ [c]).take (l.length + 2 - 2) = l := by
    rw [List.append_assoc, List.take_append_of_le_length (by omega)]; simp
  rw [It.tipOk, e1, e2, e3, e4]
  cases hn : Fig.nameB l
  · simp
  · have := fig_len hn
    rw [dec_t (by omega : 3 ≤ l.length + 2)]
    simp
theorem tip_parts' (l : List UInt8) (c : UInt8) (h : It.tipOk (l ++ [46] ++ [c]) = true) : It.tip (l ++ [46] ++ [c]) = ⟨l, c⟩ := by
  have e1 : (l ++ [46] ++ [c]).length = l.length + 2 := by simp
  have e3 : (l ++ [46] ++ [c])[l.length + 2 - 1]? = some c := by
    rw [List.append_assoc, List.getElem?_append_right (by omega)]; simp
  have e4 : (l ++ [46] ++ [c]).take (l.length + 2 - 2) = l := by
    rw [List.append_assoc, List.take_append_of_le_length (by omega)]; simp
  rw [It.tip, if_pos h, e1, e3, e4]; rfl
/-- A name and a letter, with no point between, name an end only if the name ends in a point. -/
theorem tip_joined (l : List UInt8) (c : UInt8) (h : It.tipOk (l ++ [c]) = true) : l ≠ [] ∧ l[l.length - 1]? = some 46 := by
  simp only [It.tipOk, Bool.and_eq_true, decide_eq_true_eq] at h
  obtain ⟨⟨⟨h3, h46⟩, _⟩, _⟩ := h
  have e1 : (l ++ [c]).length = l.length + 1 := by simp
  rw [e1] at h3 h46
  rw [List.getElem?_append_left (by omega)] at h46
  exact ⟨by intro e; rw [e] at h3; simp at h3, by rw [← h46]; congr 1⟩
theorem end_txt (nm : ByteArray) (c : UInt8) : (nm ++ (⟨#[46]⟩ : ByteArray)) ++ (⟨#[c]⟩ : ByteArray) = txt (nm.data.toList ++ [46] ++ [c]) := by
  rw [← txt_add, ← txt_add, txt_of]; rfl
theorem join_txt (nm : ByteArray) (c : UInt8) : nm ++ (⟨#[c]⟩ : ByteArray) = txt (nm.data.toList ++ [c]) := by
  rw [← txt_add, txt_of]; rfl
theorem tip_l (l : List UInt8) (s : ByteArray) (hs : s = txt l) (w : World) (hl : l.length ≤ 1000) (b : Bool) (h : It.tipOk l = b) :
    Calls Tryd.prog 9 #[.string s] w fun e w' => e = .returned (.tuple #[.agg #[.string (txt (It.tip l).n), .int .u8 (It.tip l).c.toNat], .bool b]) ∧ Below w.heap.size w w' := by
  subst hs
  have := tip_any (txt l) w (by rw [txt_size]; unfold maxLen; omega)
  rwa [txt_toList, h] at this
set_option maxHeartbeats 8000000 in
set_option maxRecDepth 100000 in
theorem ik_long (k : Int) (nm : ByteArray) (c : UInt8) (W : World) (hm : nm.size ≤ maxLen) (hE : Env W) (hl : 50 < nm.size) :
    Calls Tryd.prog 6 #[.int .i64 k, .string nm, .int .u8 c.toNat] W fun e w' => e = .returned (.bool true) ∧ Below W.heap.size W w' := by
  unfold maxLen at hm
  have h1 : decide (50 < (nm.size : Int)) = true := dec_t (by omega)
  have A := Lib.hid (awake_any W hE)
  clear hl hE
  go_enter Tryd.func6, Tryd.ntmps6
  go_wp2_with fail
  refine A.out.mono ?_; rintro e w' ⟨rfl, hb⟩
  go_wp2_with fail
  go_ret
  exact ⟨rfl, hb⟩
theorem tip_good (nm : ByteArray) (c : UInt8) (hl : nm.size ≤ 50) (h : (Fig.nameB nm.data.toList && It.letter c) = true) (w : World) :
    Calls Tryd.prog 9 #[.string ((nm ++ (⟨#[46]⟩ : ByteArray)) ++ (⟨#[c]⟩ : ByteArray))] w fun e w' => e = .returned (.tuple #[.agg #[.string nm, .int .u8 c.toNat], .bool true]) ∧ Below w.heap.size w w' := by
  have ht : It.tipOk (nm.data.toList ++ [46] ++ [c]) = true := by rw [tip_parts]; exact h
  have := tip_l (nm.data.toList ++ [46] ++ [c]) _ (end_txt nm c) w (by simp; omega) true ht
  rw [tip_parts' _ _ ht] at this
  simp only [txt_of] at this
  exact this
theorem tip_bad (l : List UInt8) (s : ByteArray) (hs : s = txt l) (hl : l.length ≤ 1000) (h : It.tipOk l = false) (w : World) :
    Calls Tryd.prog 9 #[.string s] w fun e w' => e = .returned (.tuple #[.agg #[.string ⟨#[]⟩, .int .u8 0], .bool false]) ∧ Below w.heap.size w w' := by
  have := tip_l l s hs w hl false h
  rw [tip_no h] at this
  exact this
theorem tip_any2 (nm : ByteArray) (c : UInt8) (hl : nm.size ≤ 50) (b : Bool) (h : It.tipOk (nm.data.toList ++ [c]) = b) (w : World) :
    Calls Tryd.prog 9 #[.string (nm ++ (⟨#[c]⟩ : ByteArray))] w fun e w' => e = .returned (.tuple #[.agg #[.string (txt (It.tip (nm.data.toList ++ [c])).n), .int .u8 (It.tip (nm.data.toList ++ [c])).c.toNat], .bool b]) ∧ Below w.heap.size w w' :=
  tip_l _ _ (join_txt nm c) w (by simp; omega) b h
theorem rname_b (nm : ByteArray) (b : Bool) (h : Fig.nameB nm.data.toList = b) (hl : nm.size ≤ 50) (w : World) :
    Calls Tryd.prog 21 #[.string nm] w fun e w' => e = .returned (.bool b) ∧ w = w' := by
  subst h; exact rname_any nm w (by unfold maxLen; omega)
theorem last_46 (nm : ByteArray) (h : nm.data.toList ≠ [] ∧ nm.data.toList[nm.data.toList.length - 1]? = some 46) : 0 < nm.size ∧ ∀ h0 : nm.size - 1 < nm.size, ((nm[nm.size - 1]'h0).toNat : Int) = 46 := by
  have e : nm.data.toList.length = nm.size := by simp
  have h0 : 0 < nm.size := by
    rcases Nat.eq_zero_or_pos nm.size with hz | hz
    · exact absurd (List.eq_nil_of_length_eq_zero (by rw [e]; exact hz)) h.1
    · exact hz
  refine ⟨h0, fun hb => ?_⟩
  have h2 := h.2
  rw [e, get_opt hb] at h2
  rw [Option.some.inj h2]; rfl
set_option maxHeartbeats 8000000 in
set_option maxRecDepth 100000 in
theorem ik_in_t_noname (k : Int) (nm : ByteArray) (c : UInt8) (W : World) (hm : nm.size ≤ maxLen) (hE : Env W) (hl : ¬ 50 < nm.size) (h1 : 1 ≤ k) (h9 : k ≤ 9) (h2 : It.tipOk (nm.data.toList ++ [c]) = true) (hn : Fig.nameB nm.data.toList = false) :
    Calls Tryd.prog 6 #[.int .i64 k, .string nm, .int .u8 c.toNat] W fun e w' => e = .returned (.bool true) ∧ Below W.heap.size W w' := by
  unfold maxLen at hm
  have hd : decide (50 < (nm.size : Int)) = false := dec_f (by omega)
  have hl' : nm.size ≤ 50 := by omega
  have WD := Lib.hid (fun w => word_any k w)
  have AW := Lib.hid awake_any
  have B0 := Lib.hid ((Below.refl W.heap.size W).alloc (Nat.le_refl _) (.cells #[.int .u8 c.toNat] 5))
  have H0 := Lib.hid (hE.below rfl B0.out)
  have hA := one_new W (c.toNat : Int)
  have KD := Lib.hid (fun w => kind_t (It.word k) w (by have := word_le k; omega) k (kind_word' h1 h9))
  have e1 : (txt (It.word k)).toList.isEmpty = false := by rw [toList_txt]; simpa using word_ne h1 h9
  have k1 : decide (1 ≤ k) = true := dec_t h1
  have k9 : decide (k ≤ 9) = true := dec_t h9
  have T2 := Lib.hid (tip_any2 nm c hl' _ h2)
  obtain ⟨g0, g1⟩ := last_46 nm (tip_joined _ _ h2)
  have g3 : nm.size - 1 < nm.size := by omega
  have g2 : ((nm[nm.size - 1].toNat : Int) == 46) = true := by rw [g1 g3]; rfl
  have g4 : nm.toList.isEmpty = false := by rw [ByteArray.toList_eq]; simpa using (tip_joined _ _ h2).1
  clear g1
  have NM := Lib.hid (rname_b nm _ hn hl')
  have T1 := Lib.hid (tip_bad (nm.data.toList ++ [46] ++ [c]) _ (end_txt nm c) (by simp; omega) (by rw [tip_parts, hn]; rfl))
  clear hn h2
  clear hl hE hm h1 h9
  go_enter Tryd.func6, Tryd.ntmps6
  go_wp2_with fail
  refine (WD.out _).mono ?_; rintro e w' ⟨rfl, rfl⟩
  go_wp2_with fail
  refine (KD.out _).mono ?_; rintro e w' ⟨rfl, rfl⟩
  go_wp2_with fail
  refine (T1.out _).mono ?_; rintro e w1 ⟨rfl, hb⟩
  have B1 := Lib.hid (B0.out.trans (hb.mono B0.out.size))
  have H1 := Lib.hid (H0.out.below rfl hb)
  clear hb B0 H0 hA
  have hA := one_byte ((w1.alloc (.cells #[.string ⟨#[]⟩, .int .u8 0] 23)).alloc (.cells #[.int .u8 c.toNat] 5)) (w1.heap.size + 1) (c.toNat : Int) (by go_simp)
  go_wp2_with fail
  refine (NM.out _).mono ?_; rintro e w' ⟨rfl, rfl⟩
  go_wp2_with fail
  refine (T2.out _).mono ?_; rintro e w2 ⟨rfl, hb⟩
  have hz : w1.heap.size < ((w1.alloc (.cells #[.string ⟨#[]⟩, .int .u8 0] 23)).alloc (.cells #[.int .u8 c.toNat] 5)).heap.size := by simp; omega
  have R2 := Lib.hid ((hb.block _ hz).trans ((row_alloc (by simp) _).trans (heap_alloc_new w1 (.cells #[.string ⟨#[]⟩, .int .u8 0] 23))))
  have B2 := Lib.hid (B1.out.trans ((((Below.refl w1.heap.size w1).alloc (Nat.le_refl _) (.cells #[.string ⟨#[]⟩, .int .u8 0] 23)).alloc (by simp) (.cells #[.int .u8 c.toNat] 5) |>.trans (hb.mono (Nat.le_of_lt hz))).mono B1.out.size))
  have H2 := Lib.hid ((H1.out.below rfl (((Below.refl w1.heap.size w1).alloc (Nat.le_refl _) (.cells #[.string ⟨#[]⟩, .int .u8 0] 23)).alloc (by simp) (.cells #[.int .u8 c.toNat] 5))).below rfl hb)
  clear hb B1 H1 hA hz
  go_wp2_with fail
  refine (AW.out _ (H2.out.below rfl ((Below.refl _ _).alloc (Nat.le_refl _) _))).mono ?_; rintro e w3 ⟨rfl, hb⟩
  have R3 := Lib.hid (keep_row R2.out hb)
  have B3 := Lib.hid (B2.out.trans ((((Below.refl w2.heap.size w2).alloc (Nat.le_refl _) _).trans (hb.mono (by simp))).mono B2.out.size))
  clear hb R2 B2 H2
  obtain ⟨⟨t0, t1⟩, ht⟩ := row2 R3.out
  go_wp2_with fail
  go_ret
  exact ⟨rfl, B3.out⟩
set_option maxHeartbeats 8000000 in
set_option maxRecDepth 100000 in
theorem ik_in_t_name (k : Int) (nm : ByteArray) (c : UInt8) (W : World) (hm : nm.size ≤ maxLen) (hE : Env W) (hl : ¬ 50 < nm.size) (h1 : 1 ≤ k) (h9 : k ≤ 9) (h2 : It.tipOk (nm.data.toList ++ [c]) = true) (hn : Fig.nameB nm.data.toList = true) :
    Calls Tryd.prog 6 #[.int .i64 k, .string nm, .int .u8 c.toNat] W fun e w' => e = .returned (.bool true) ∧ Below W.heap.size W w' := by
  unfold maxLen at hm
  have hd : decide (50 < (nm.size : Int)) = false := dec_f (by omega)
  have hl' : nm.size ≤ 50 := by omega
  have WD := Lib.hid (fun w => word_any k w)
  have AW := Lib.hid awake_any
  have B0 := Lib.hid ((Below.refl W.heap.size W).alloc (Nat.le_refl _) (.cells #[.int .u8 c.toNat] 5))
  have H0 := Lib.hid (hE.below rfl B0.out)
  have hA := one_new W (c.toNat : Int)
  have KD := Lib.hid (fun w => kind_t (It.word k) w (by have := word_le k; omega) k (kind_word' h1 h9))
  have e1 : (txt (It.word k)).toList.isEmpty = false := by rw [toList_txt]; simpa using word_ne h1 h9
  have k1 : decide (1 ≤ k) = true := dec_t h1
  have k9 : decide (k ≤ 9) = true := dec_t h9
  have T2 := Lib.hid (tip_any2 nm c hl' _ h2)
  obtain ⟨g0, g1⟩ := last_46 nm (tip_joined _ _ h2)
  have g3 : nm.size - 1 < nm.size := by omega
  have g2 : ((nm[nm.size - 1].toNat : Int) == 46) = true := by rw [g1 g3]; rfl
  have g4 : nm.toList.isEmpty = false := by rw [ByteArray.toList_eq]; simpa using (tip_joined _ _ h2).1
  clear g1
  have NM := Lib.hid (rname_b nm _ hn hl')
  have T1g := fun (h : It.letter c = true) => Lib.hid (tip_good nm c hl' (by rw [hn, Bool.true_and]; exact h))
  have T1b := fun (h : It.letter c = false) => Lib.hid (tip_bad (nm.data.toList ++ [46] ++ [c]) _ (end_txt nm c) (by simp; omega) (by rw [tip_parts, hn, Bool.true_and]; exact h))
  clear hn h2
  clear hl hE hm h1 h9
  rcases let_cases c with h | h | h | h | h | h
  · obtain ⟨c1, c2, c3, c4, c5, c6⟩ := h
    have T1 := T1g c6
    clear T1g T1b c6 c2 c3 c4 c5
    go_enter Tryd.func6, Tryd.ntmps6
    go_wp2_with fail
    refine (WD.out _).mono ?_; rintro e w' ⟨rfl, rfl⟩
    go_wp2_with fail
    refine (KD.out _).mono ?_; rintro e w' ⟨rfl, rfl⟩
    go_wp2_with fail
    refine (T1.out _).mono ?_; rintro e w1 ⟨rfl, hb⟩
    have B1 := Lib.hid (B0.out.trans (hb.mono B0.out.size))
    have H1 := Lib.hid (H0.out.below rfl hb)
    clear hb B0 H0 hA
    have hA := one_byte ((w1.alloc (.cells #[.string nm, .int .u8 c.toNat] 23)).alloc (.cells #[.int .u8 c.toNat] 5)) (w1.heap.size + 1) (c.toNat : Int) (by go_simp)
    go_wp2_with fail
    refine (NM.out _).mono ?_; rintro e w' ⟨rfl, rfl⟩
    go_wp2_with fail
    refine (T2.out _).mono ?_; rintro e w2 ⟨rfl, hb⟩
    have hz : w1.heap.size < ((w1.alloc (.cells #[.string nm, .int .u8 c.toNat] 23)).alloc (.cells #[.int .u8 c.toNat] 5)).heap.size := by simp; omega
    have R2 := Lib.hid ((hb.block _ hz).trans ((row_alloc (by simp) _).trans (heap_alloc_new w1 (.cells #[.string nm, .int .u8 c.toNat] 23))))
    have B2 := Lib.hid (B1.out.trans ((((Below.refl w1.heap.size w1).alloc (Nat.le_refl _) (.cells #[.string nm, .int .u8 c.toNat] 23)).alloc (by simp) (.cells #[.int .u8 c.toNat] 5) |>.trans (hb.mono (Nat.le_of_lt hz))).mono B1.out.size))
    have H2 := Lib.hid ((H1.out.below rfl (((Below.refl w1.heap.size w1).alloc (Nat.le_refl _) (.cells #[.string nm, .int .u8 c.toNat] 23)).alloc (by simp) (.cells #[.int .u8 c.toNat] 5))).below rfl hb)
    clear hb B1 H1 hA hz
    go_wp2_with fail
    refine (AW.out _ (H2.out.below rfl ((Below.refl _ _).alloc (Nat.le_refl _) _))).mono ?_; rintro e w3 ⟨rfl, hb⟩
    have R3 := Lib.hid (keep_row R2.out hb)
    have B3 := Lib.hid (B2.out.trans ((((Below.refl w2.heap.size w2).alloc (Nat.le_refl _) _).trans (hb.mono (by simp))).mono B2.out.size))
    clear hb R2 B2 H2
    obtain ⟨⟨t0, t1⟩, ht⟩ := row2 R3.out
    go_wp2_with fail
    go_ret
    exact ⟨rfl, B3.out⟩
  · obtain ⟨c1, c2, c3, c4, c5, c6⟩ := h
    have T1 := T1g c6
    clear T1g T1b c6 c3 c4 c5
    go_enter Tryd.func6, Tryd.ntmps6
    go_wp2_with fail
    refine (WD.out _).mono ?_; rintro e w' ⟨rfl, rfl⟩
    go_wp2_with fail
    refine (KD.out _).mono ?_; rintro e w' ⟨rfl, rfl⟩
    go_wp2_with fail
    refine (T1.out _).mono ?_; rintro e w1 ⟨rfl, hb⟩
    have B1 := Lib.hid (B0.out.trans (hb.mono B0.out.size))
    have H1 := Lib.hid (H0.out.below rfl hb)
    clear hb B0 H0 hA
    have hA := one_byte ((w1.alloc (.cells #[.string nm, .int .u8 c.toNat] 23)).alloc (.cells #[.int .u8 c.toNat] 5)) (w1.heap.size + 1) (c.toNat : Int) (by go_simp)
    go_wp2_with fail
    refine (NM.out _).mono ?_; rintro e w' ⟨rfl, rfl⟩
    go_wp2_with fail
    refine (T2.out _).mono ?_; rintro e w2 ⟨rfl, hb⟩
    have hz : w1.heap.size < ((w1.alloc (.cells #[.string nm, .int .u8 c.toNat] 23)).alloc (.cells #[.int .u8 c.toNat] 5)).heap.size := by simp; omega
    have R2 := Lib.hid ((hb.block _ hz).trans ((row_alloc (by simp) _).trans (heap_alloc_new w1 (.cells #[.string nm, .int .u8 c.toNat] 23))))
    have B2 := Lib.hid (B1.out.trans ((((Below.refl w1.heap.size w1).alloc (Nat.le_refl _) (.cells #[.string nm, .int .u8 c.toNat] 23)).alloc (by simp) (.cells #[.int .u8 c.toNat] 5) |>.trans (hb.mono (Nat.le_of_lt hz))).mono B1.out.size))
    have H2 := Lib.hid ((H1.out.below rfl (((Below.refl w1.heap.size w1).alloc (Nat.le_refl _) (.cells #[.string nm, .int .u8 c.toNat] 23)).alloc (by simp) (.cells #[.int .u8 c.toNat] 5))).below rfl hb)
    clear hb B1 H1 hA hz
    go_wp2_with fail
    refine (AW.out _ (H2.out.below rfl ((Below.refl _ _).alloc (Nat.le_refl _) _))).mono ?_; rintro e w3 ⟨rfl, hb⟩
    have R3 := Lib.hid (keep_row R2.out hb)
    have B3 := Lib.hid (B2.out.trans ((((Below.refl w2.heap.size w2).alloc (Nat.le_refl _) _).trans (hb.mono (by simp))).mono B2.out.size))
    clear hb R2 B2 H2
    obtain ⟨⟨t0, t1⟩, ht⟩ := row2 R3.out
    go_wp2_with fail
    go_ret
    exact ⟨rfl, B3.out⟩
  · obtain ⟨c1, c2, c3, c4, c5, c6⟩ := h
    have T1 := T1g c6
    clear T1g T1b c6 c4 c5
    go_enter Tryd.func6, Tryd.ntmps6
    go_wp2_with fail
    refine (WD.out _).mono ?_; rintro e w' ⟨rfl, rfl⟩
    go_wp2_with fail
    refine (KD.out _).mono ?_; rintro e w' ⟨rfl, rfl⟩
    go_wp2_with fail
    refine (T1.out _).mono ?_; rintro e w1 ⟨rfl, hb⟩
    have B1 := Lib.hid (B0.out.trans (hb.mono B0.out.size))
    have H1 := Lib.hid (H0.out.below rfl hb)
    clear hb B0 H0 hA
    have hA := one_byte ((w1.alloc (.cells #[.string nm, .int .u8 c.toNat] 23)).alloc (.cells #[.int .u8 c.toNat] 5)) (w1.heap.size + 1) (c.toNat : Int) (by go_simp)
    go_wp2_with fail
    refine (NM.out _).mono ?_; rintro e w' ⟨rfl, rfl⟩
    go_wp2_with fail
    refine (T2.out _).mono ?_; rintro e w2 ⟨rfl, hb⟩
    have hz : w1.heap.size < ((w1.alloc (.cells #[.string nm, .int .u8 c.toNat] 23)).alloc (.cells #[.int .u8 c.toNat] 5)).heap.size := by simp; omega
    have R2 := Lib.hid ((hb.block _ hz).trans ((row_alloc (by simp) _).trans (heap_alloc_new w1 (.cells #[.string nm, .int .u8 c.toNat] 23))))
    have B2 := Lib.hid (B1.out.trans ((((Below.refl w1.heap.size w1).alloc (Nat.le_refl _) (.cells #[.string nm, .int .u8 c.toNat] 23)).alloc (by simp) (.cells #[.int .u8 c.toNat] 5) |>.trans (hb.mono (Nat.le_of_lt hz))).mono B1.out.size))
    have H2 := Lib.hid ((H1.out.below rfl (((Below.refl w1.heap.size w1).alloc (Nat.le_refl _) (.cells #[.string nm, .int .u8 c.toNat] 23)).alloc (by simp) (.cells #[.int .u8 c.toNat] 5))).below rfl hb)
    clear hb B1 H1 hA hz
    go_wp2_with fail
    refine (AW.out _ (H2.out.below rfl ((Below.refl _ _).alloc (Nat.le_refl _) _))).mono ?_; rintro e w3 ⟨rfl, hb⟩
    have R3 := Lib.hid (keep_row R2.out hb)
    have B3 := Lib.hid (B2.out.trans ((((Below.refl w2.heap.size w2).alloc (Nat.le_refl _) _).trans (hb.mono (by simp))).mono B2.out.size))
    clear hb R2 B2 H2
    obtain ⟨⟨t0, t1⟩, ht⟩ := row2 R3.out
    go_wp2_with fail
    go_ret
    exact ⟨rfl, B3.out⟩
  · obtain ⟨c1, c2, c3, c4, c5, c6⟩ := h
    have T1 := T1g c6
    clear T1g T1b c6 c5
    go_enter Tryd.func6, Tryd.ntmps6
    go_wp2_with fail
    refine (WD.out _).mono ?_; rintro e w' ⟨rfl, rfl⟩
    go_wp2_with fail
    refine (KD.out _).mono ?_; rintro e w' ⟨rfl, rfl⟩
    go_wp2_with fail
    refine (T1.out _).mono ?_; rintro e w1 ⟨rfl, hb⟩
    have B1 := Lib.hid (B0.out.trans (hb.mono B0.out.size))
    have H1 := Lib.hid (H0.out.below rfl hb)
    clear hb B0 H0 hA
    have hA := one_byte ((w1.alloc (.cells #[.string nm, .int .u8 c.toNat] 23)).alloc (.cells #[.int .u8 c.toNat] 5)) (w1.heap.size + 1) (c.toNat : Int) (by go_simp)
    go_wp2_with fail
    refine (NM.out _).mono ?_; rintro e w' ⟨rfl, rfl⟩
    go_wp2_with fail
    refine (T2.out _).mono ?_; rintro e w2 ⟨rfl, hb⟩
    have hz : w1.heap.size < ((w1.alloc (.cells #[.string nm, .int .u8 c.toNat] 23)).alloc (.cells #[.int .u8 c.toNat] 5)).heap.size := by simp; omega
    have R2 := Lib.hid ((hb.block _ hz).trans ((row_alloc (by simp) _).trans (heap_alloc_new w1 (.cells #[.string nm, .int .u8 c.toNat] 23))))
    have B2 := Lib.hid (B1.out.trans ((((Below.refl w1.heap.size w1).alloc (Nat.le_refl _) (.cells #[.string nm, .int .u8 c.toNat] 23)).alloc (by simp) (.cells #[.int .u8 c.toNat] 5) |>.trans (hb.mono (Nat.le_of_lt hz))).mono B1.out.size))
    have H2 := Lib.hid ((H1.out.below rfl (((Below.refl w1.heap.size w1).alloc (Nat.le_refl _) (.cells #[.string nm, .int .u8 c.toNat] 23)).alloc (by simp) (.cells #[.int .u8 c.toNat] 5))).below rfl hb)
    clear hb B1 H1 hA hz
    go_wp2_with fail
    refine (AW.out _ (H2.out.below rfl ((Below.refl _ _).alloc (Nat.le_refl _) _))).mono ?_; rintro e w3 ⟨rfl, hb⟩
    have R3 := Lib.hid (keep_row R2.out hb)
    have B3 := Lib.hid (B2.out.trans ((((Below.refl w2.heap.size w2).alloc (Nat.le_refl _) _).trans (hb.mono (by simp))).mono B2.out.size))
    clear hb R2 B2 H2
    obtain ⟨⟨t0, t1⟩, ht⟩ := row2 R3.out
    go_wp2_with fail
    go_ret
    exact ⟨rfl, B3.out⟩
  · obtain ⟨c1, c2, c3, c4, c5, c6⟩ := h
    have T1 := T1g c6
    clear T1g T1b c6 
    go_enter Tryd.func6, Tryd.ntmps6
    go_wp2_with fail
    refine (WD.out _).mono ?_; rintro e w' ⟨rfl, rfl⟩
    go_wp2_with fail
    refine (KD.out _).mono ?_; rintro e w' ⟨rfl, rfl⟩
    go_wp2_with fail
    refine (T1.out _).mono ?_; rintro e w1 ⟨rfl, hb⟩
    have B1 := Lib.hid (B0.out.trans (hb.mono B0.out.size))
    have H1 := Lib.hid (H0.out.below rfl hb)
    clear hb B0 H0 hA
    have hA := one_byte ((w1.alloc (.cells #[.string nm, .int .u8 c.toNat] 23)).alloc (.cells #[.int .u8 c.toNat] 5)) (w1.heap.size + 1) (c.toNat : Int) (by go_simp)
    go_wp2_with fail
    refine (NM.out _).mono ?_; rintro e w' ⟨rfl, rfl⟩
    go_wp2_with fail
    refine (T2.out _).mono ?_; rintro e w2 ⟨rfl, hb⟩
    have hz : w1.heap.size < ((w1.alloc (.cells #[.string nm, .int .u8 c.toNat] 23)).alloc (.cells #[.int .u8 c.toNat] 5)).heap.size := by simp; omega
    have R2 := Lib.hid ((hb.block _ hz).trans ((row_alloc (by simp) _).trans (heap_alloc_new w1 (.cells #[.string nm, .int .u8 c.toNat] 23))))
    have B2 := Lib.hid (B1.out.trans ((((Below.refl w1.heap.size w1).alloc (Nat.le_refl _) (.cells #[.string nm, .int .u8 c.toNat] 23)).alloc (by simp) (.cells #[.int .u8 c.toNat] 5) |>.trans (hb.mono (Nat.le_of_lt hz))).mono B1.out.size))
    have H2 := Lib.hid ((H1.out.below rfl (((Below.refl w1.heap.size w1).alloc (Nat.le_refl _) (.cells #[.string nm, .int .u8 c.toNat] 23)).alloc (by simp) (.cells #[.int .u8 c.toNat] 5))).below rfl hb)
    clear hb B1 H1 hA hz
    go_wp2_with fail
    refine (AW.out _ (H2.out.below rfl ((Below.refl _ _).alloc (Nat.le_refl _) _))).mono ?_; rintro e w3 ⟨rfl, hb⟩
    have R3 := Lib.hid (keep_row R2.out hb)
    have B3 := Lib.hid (B2.out.trans ((((Below.refl w2.heap.size w2).alloc (Nat.le_refl _) _).trans (hb.mono (by simp))).mono B2.out.size))
    clear hb R2 B2 H2
    obtain ⟨⟨t0, t1⟩, ht⟩ := row2 R3.out
    go_wp2_with fail
    go_ret
    exact ⟨rfl, B3.out⟩
  · obtain ⟨c1, c2, c3, c4, c5, c6⟩ := h
    have T1 := T1b c6
    clear T1g T1b c6 
    go_enter Tryd.func6, Tryd.ntmps6
    go_wp2_with fail
    refine (WD.out _).mono ?_; rintro e w' ⟨rfl, rfl⟩
    go_wp2_with fail
    refine (KD.out _).mono ?_; rintro e w' ⟨rfl, rfl⟩
    go_wp2_with fail
    refine (T1.out _).mono ?_; rintro e w1 ⟨rfl, hb⟩
    have B1 := Lib.hid (B0.out.trans (hb.mono B0.out.size))
    have H1 := Lib.hid (H0.out.below rfl hb)
    clear hb B0 H0 hA
    have hA := one_byte ((w1.alloc (.cells #[.string ⟨#[]⟩, .int .u8 0] 23)).alloc (.cells #[.int .u8 c.toNat] 5)) (w1.heap.size + 1) (c.toNat : Int) (by go_simp)
    go_wp2_with fail
    refine (NM.out _).mono ?_; rintro e w' ⟨rfl, rfl⟩
    go_wp2_with fail
    refine (T2.out _).mono ?_; rintro e w2 ⟨rfl, hb⟩
    have hz : w1.heap.size < ((w1.alloc (.cells #[.string ⟨#[]⟩, .int .u8 0] 23)).alloc (.cells #[.int .u8 c.toNat] 5)).heap.size := by simp; omega
    have R2 := Lib.hid ((hb.block _ hz).trans ((row_alloc (by simp) _).trans (heap_alloc_new w1 (.cells #[.string ⟨#[]⟩, .int .u8 0] 23))))
    have B2 := Lib.hid (B1.out.trans ((((Below.refl w1.heap.size w1).alloc (Nat.le_refl _) (.cells #[.string ⟨#[]⟩, .int .u8 0] 23)).alloc (by simp) (.cells #[.int .u8 c.toNat] 5) |>.trans (hb.mono (Nat.le_of_lt hz))).mono B1.out.size))
    have H2 := Lib.hid ((H1.out.below rfl (((Below.refl w1.heap.size w1).alloc (Nat.le_refl _) (.cells #[.string ⟨#[]⟩, .int .u8 0] 23)).alloc (by simp) (.cells #[.int .u8 c.toNat] 5))).below rfl hb)
    clear hb B1 H1 hA hz
    go_wp2_with fail
    refine (AW.out _ (H2.out.below rfl ((Below.refl _ _).alloc (Nat.le_refl _) _))).mono ?_; rintro e w3 ⟨rfl, hb⟩
    have R3 := Lib.hid (keep_row R2.out hb)
    have B3 := Lib.hid (B2.out.trans ((((Below.refl w2.heap.size w2).alloc (Nat.le_refl _) _).trans (hb.mono (by simp))).mono B2.out.size))
    clear hb R2 B2 H2
    obtain ⟨⟨t0, t1⟩, ht⟩ := row2 R3.out
    go_wp2_with fail
    go_ret
    exact ⟨rfl, B3.out⟩
set_option maxHeartbeats 8000000 in
set_option maxRecDepth 100000 in
theorem ik_in_f_noname (k : Int) (nm : ByteArray) (c : UInt8) (W : World) (hm : nm.size ≤ maxLen) (hE : Env W) (hl : ¬ 50 < nm.size) (h1 : 1 ≤ k) (h9 : k ≤ 9) (h2 : It.tipOk (nm.data.toList ++ [c]) = false) (hn : Fig.nameB nm.data.toList = false) :
    Calls Tryd.prog 6 #[.int .i64 k, .string nm, .int .u8 c.toNat] W fun e w' => e = .returned (.bool true) ∧ Below W.heap.size W w' := by
  unfold maxLen at hm
  have hd : decide (50 < (nm.size : Int)) = false := dec_f (by omega)
  have hl' : nm.size ≤ 50 := by omega
  have WD := Lib.hid (fun w => word_any k w)
  have AW := Lib.hid awake_any
  have B0 := Lib.hid ((Below.refl W.heap.size W).alloc (Nat.le_refl _) (.cells #[.int .u8 c.toNat] 5))
  have H0 := Lib.hid (hE.below rfl B0.out)
  have hA := one_new W (c.toNat : Int)
  have KD := Lib.hid (fun w => kind_t (It.word k) w (by have := word_le k; omega) k (kind_word' h1 h9))
  have e1 : (txt (It.word k)).toList.isEmpty = false := by rw [toList_txt]; simpa using word_ne h1 h9
  have k1 : decide (1 ≤ k) = true := dec_t h1
  have k9 : decide (k ≤ 9) = true := dec_t h9
  have T2 := Lib.hid (tip_any2 nm c hl' _ h2)
  have NM := Lib.hid (rname_b nm _ hn hl')
  have T1 := Lib.hid (tip_bad (nm.data.toList ++ [46] ++ [c]) _ (end_txt nm c) (by simp; omega) (by rw [tip_parts, hn]; rfl))
  clear hn h2
  clear hl hE hm h1 h9
  go_enter Tryd.func6, Tryd.ntmps6
  go_wp2_with fail
  refine (WD.out _).mono ?_; rintro e w' ⟨rfl, rfl⟩
  go_wp2_with fail
  refine (KD.out _).mono ?_; rintro e w' ⟨rfl, rfl⟩
  go_wp2_with fail
  refine (T1.out _).mono ?_; rintro e w1 ⟨rfl, hb⟩
  have B1 := Lib.hid (B0.out.trans (hb.mono B0.out.size))
  have H1 := Lib.hid (H0.out.below rfl hb)
  clear hb B0 H0 hA
  have hA := one_byte ((w1.alloc (.cells #[.string ⟨#[]⟩, .int .u8 0] 23)).alloc (.cells #[.int .u8 c.toNat] 5)) (w1.heap.size + 1) (c.toNat : Int) (by go_simp)
  go_wp2_with fail
  refine (NM.out _).mono ?_; rintro e w' ⟨rfl, rfl⟩
  go_wp2_with fail
  refine (T2.out _).mono ?_; rintro e w2 ⟨rfl, hb⟩
  have hz : w1.heap.size < ((w1.alloc (.cells #[.string ⟨#[]⟩, .int .u8 0] 23)).alloc (.cells #[.int .u8 c.toNat] 5)).heap.size := by simp; omega
  have R2 := Lib.hid ((hb.block _ hz).trans ((row_alloc (by simp) _).trans (heap_alloc_new w1 (.cells #[.string ⟨#[]⟩, .int .u8 0] 23))))
  have B2 := Lib.hid (B1.out.trans ((((Below.refl w1.heap.size w1).alloc (Nat.le_refl _) (.cells #[.string ⟨#[]⟩, .int .u8 0] 23)).alloc (by simp) (.cells #[.int .u8 c.toNat] 5) |>.trans (hb.mono (Nat.le_of_lt hz))).mono B1.out.size))
  have H2 := Lib.hid ((H1.out.below rfl (((Below.refl w1.heap.size w1).alloc (Nat.le_refl _) (.cells #[.string ⟨#[]⟩, .int .u8 0] 23)).alloc (by simp) (.cells #[.int .u8 c.toNat] 5))).below rfl hb)
  clear hb B1 H1 hA hz
  go_wp2_with fail
  refine (AW.out _ (H2.out.below rfl ((Below.refl _ _).alloc (Nat.le_refl _) _))).mono ?_; rintro e w3 ⟨rfl, hb⟩
  have R3 := Lib.hid (keep_row R2.out hb)
  have B3 := Lib.hid (B2.out.trans ((((Below.refl w2.heap.size w2).alloc (Nat.le_refl _) _).trans (hb.mono (by simp))).mono B2.out.size))
  clear hb R2 B2 H2
  obtain ⟨⟨t0, t1⟩, ht⟩ := row2 R3.out
  go_wp2_with fail
  go_ret
  exact ⟨rfl, B3.out⟩
set_option maxHeartbeats 8000000 in
set_option maxRecDepth 100000 in
theorem ik_in_f_name (k : Int) (nm : ByteArray) (c : UInt8) (W : World) (hm : nm.size ≤ maxLen) (hE : Env W) (hl : ¬ 50 < nm.size) (h1 : 1 ≤ k) (h9 : k ≤ 9) (h2 : It.tipOk (nm.data.toList ++ [c]) = false) (hn : Fig.nameB nm.data.toList = true) :
    Calls Tryd.prog 6 #[.int .i64 k, .string nm, .int .u8 c.toNat] W fun e w' => e = .returned (.bool true) ∧ Below W.heap.size W w' := by
  unfold maxLen at hm
  have hd : decide (50 < (nm.size : Int)) = false := dec_f (by omega)
  have hl' : nm.size ≤ 50 := by omega
  have WD := Lib.hid (fun w => word_any k w)
  have AW := Lib.hid awake_any
  have B0 := Lib.hid ((Below.refl W.heap.size W).alloc (Nat.le_refl _) (.cells #[.int .u8 c.toNat] 5))
  have H0 := Lib.hid (hE.below rfl B0.out)
  have hA := one_new W (c.toNat : Int)
  have KD := Lib.hid (fun w => kind_t (It.word k) w (by have := word_le k; omega) k (kind_word' h1 h9))
  have e1 : (txt (It.word k)).toList.isEmpty = false := by rw [toList_txt]; simpa using word_ne h1 h9
  have k1 : decide (1 ≤ k) = true := dec_t h1
  have k9 : decide (k ≤ 9) = true := dec_t h9
  have T2 := Lib.hid (tip_any2 nm c hl' _ h2)
  have NM := Lib.hid (rname_b nm _ hn hl')
  have T1g := fun (h : It.letter c = true) => Lib.hid (tip_good nm c hl' (by rw [hn, Bool.true_and]; exact h))
  have T1b := fun (h : It.letter c = false) => Lib.hid (tip_bad (nm.data.toList ++ [46] ++ [c]) _ (end_txt nm c) (by simp; omega) (by rw [tip_parts, hn, Bool.true_and]; exact h))
  clear hn h2
  clear hl hE hm h1 h9
  rcases let_cases c with h | h | h | h | h | h
  · obtain ⟨c1, c2, c3, c4, c5, c6⟩ := h
    have T1 := T1g c6
    clear T1g T1b c6 c2 c3 c4 c5
    go_enter Tryd.func6, Tryd.ntmps6
    go_wp2_with fail
    refine (WD.out _).mono ?_; rintro e w' ⟨rfl, rfl⟩
    go_wp2_with fail
    refine (KD.out _).mono ?_; rintro e w' ⟨rfl, rfl⟩
    go_wp2_with fail
    refine (T1.out _).mono ?_; rintro e w1 ⟨rfl, hb⟩
    have B1 := Lib.hid (B0.out.trans (hb.mono B0.out.size))
    have H1 := Lib.hid (H0.out.below rfl hb)
    clear hb B0 H0 hA
    have hA := one_byte ((w1.alloc (.cells #[.string nm, .int .u8 c.toNat] 23)).alloc (.cells #[.int .u8 c.toNat] 5)) (w1.heap.size + 1) (c.toNat : Int) (by go_simp)
    go_wp2_with fail
    refine (NM.out _).mono ?_; rintro e w' ⟨rfl, rfl⟩
    go_wp2_with fail
    refine (T2.out _).mono ?_; rintro e w2 ⟨rfl, hb⟩
    have hz : w1.heap.size < ((w1.alloc (.cells #[.string nm, .int .u8 c.toNat] 23)).alloc (.cells #[.int .u8 c.toNat] 5)).heap.size := by simp; omega
    have R2 := Lib.hid ((hb.block _ hz).trans ((row_alloc (by simp) _).trans (heap_alloc_new w1 (.cells #[.string nm, .int .u8 c.toNat] 23))))
    have B2 := Lib.hid (B1.out.trans ((((Below.refl w1.heap.size w1).alloc (Nat.le_refl _) (.cells #[.string nm, .int .u8 c.toNat] 23)).alloc (by simp) (.cells #[.int .u8 c.toNat] 5) |>.trans (hb.mono (Nat.le_of_lt hz))).mono B1.out.size))
    have H2 := Lib.hid ((H1.out.below rfl (((Below.refl w1.heap.size w1).alloc (Nat.le_refl _) (.cells #[.string nm, .int .u8 c.toNat] 23)).alloc (by simp) (.cells #[.int .u8 c.toNat] 5))).below rfl hb)
    clear hb B1 H1 hA hz
    go_wp2_with fail
    refine (AW.out _ (H2.out.below rfl ((Below.refl _ _).alloc (Nat.le_refl _) _))).mono ?_; rintro e w3 ⟨rfl, hb⟩
    have R3 := Lib.hid (keep_row R2.out hb)
    have B3 := Lib.hid (B2.out.trans ((((Below.refl w2.heap.size w2).alloc (Nat.le_refl _) _).trans (hb.mono (by simp))).mono B2.out.size))
    clear hb R2 B2 H2
    obtain ⟨⟨t0, t1⟩, ht⟩ := row2 R3.out
    go_wp2_with fail
    go_ret
    exact ⟨rfl, B3.out⟩
  · obtain ⟨c1, c2, c3, c4, c5, c6⟩ := h
    have T1 := T1g c6
    clear T1g T1b c6 c3 c4 c5
    go_enter Tryd.func6, Tryd.ntmps6
    go_wp2_with fail
    refine (WD.out _).mono ?_; rintro e w' ⟨rfl, rfl⟩
    go_wp2_with fail
    refine (KD.out _).mono ?_; rintro e w' ⟨rfl, rfl⟩
    go_wp2_with fail
    refine (T1.out _).mono ?_; rintro e w1 ⟨rfl, hb⟩
    have B1 := Lib.hid (B0.out.trans (hb.mono B0.out.size))
    have H1 := Lib.hid (H0.out.below rfl hb)
    clear hb B0 H0 hA
    have hA := one_byte ((w1.alloc (.cells #[.string nm, .int .u8 c.toNat] 23)).alloc (.cells #[.int .u8 c.toNat] 5)) (w1.heap.size + 1) (c.toNat : Int) (by go_simp)
    go_wp2_with fail
    refine (NM.out _).mono ?_; rintro e w' ⟨rfl, rfl⟩
    go_wp2_with fail
    refine (T2.out _).mono ?_; rintro e w2 ⟨rfl, hb⟩
    have hz : w1.heap.size < ((w1.alloc (.cells #[.string nm, .int .u8 c.toNat] 23)).alloc (.cells #[.int .u8 c.toNat] 5)).heap.size := by simp; omega
    have R2 := Lib.hid ((hb.block _ hz).trans ((row_alloc (by simp) _).trans (heap_alloc_new w1 (.cells #[.string nm, .int .u8 c.toNat] 23))))
    have B2 := Lib.hid (B1.out.trans ((((Below.refl w1.heap.size w1).alloc (Nat.le_refl _) (.cells #[.string nm, .int .u8 c.toNat] 23)).alloc (by simp) (.cells #[.int .u8 c.toNat] 5) |>.trans (hb.mono (Nat.le_of_lt hz))).mono B1.out.size))
    have H2 := Lib.hid ((H1.out.below rfl (((Below.refl w1.heap.size w1).alloc (Nat.le_refl _) (.cells #[.string nm, .int .u8 c.toNat] 23)).alloc (by simp) (.cells #[.int .u8 c.toNat] 5))).below rfl hb)
    clear hb B1 H1 hA hz
    go_wp2_with fail
    refine (AW.out _ (H2.out.below rfl ((Below.refl _ _).alloc (Nat.le_refl _) _))).mono ?_; rintro e w3 ⟨rfl, hb⟩
    have R3 := Lib.hid (keep_row R2.out hb)
    have B3 := Lib.hid (B2.out.trans ((((Below.refl w2.heap.size w2).alloc (Nat.le_refl _) _).trans (hb.mono (by simp))).mono B2.out.size))
    clear hb R2 B2 H2
    obtain ⟨⟨t0, t1⟩, ht⟩ := row2 R3.out
    go_wp2_with fail
    go_ret
    exact ⟨rfl, B3.out⟩
  · obtain ⟨c1, c2, c3, c4, c5, c6⟩ := h
    have T1 := T1g c6
    clear T1g T1b c6 c4 c5
    go_enter Tryd.func6, Tryd.ntmps6
    go_wp2_with fail
    refine (WD.out _).mono ?_; rintro e w' ⟨rfl, rfl⟩
    go_wp2_with fail
    refine (KD.out _).mono ?_; rintro e w' ⟨rfl, rfl⟩
    go_wp2_with fail
    refine (T1.out _).mono ?_; rintro e w1 ⟨rfl, hb⟩
    have B1 := Lib.hid (B0.out.trans (hb.mono B0.out.size))
    have H1 := Lib.hid (H0.out.below rfl hb)
    clear hb B0 H0 hA
    have hA := one_byte ((w1.alloc (.cells #[.string nm, .int .u8 c.toNat] 23)).alloc (.cells #[.int .u8 c.toNat] 5)) (w1.heap.size + 1) (c.toNat : Int) (by go_simp)
    go_wp2_with fail
    refine (NM.out _).mono ?_; rintro e w' ⟨rfl, rfl⟩
    go_wp2_with fail
    refine (T2.out _).mono ?_; rintro e w2 ⟨rfl, hb⟩
    have hz : w1.heap.size < ((w1.alloc (.cells #[.string nm, .int .u8 c.toNat] 23)).alloc (.cells #[.int .u8 c.toNat] 5)).heap.size := by simp; omega
    have R2 := Lib.hid ((hb.block _ hz).trans ((row_alloc (by simp) _).trans (heap_alloc_new w1 (.cells #[.string nm, .int .u8 c.toNat] 23))))
    have B2 := Lib.hid (B1.out.trans ((((Below.refl w1.heap.size w1).alloc (Nat.le_refl _) (.cells #[.string nm, .int .u8 c.toNat] 23)).alloc (by simp) (.cells #[.int .u8 c.toNat] 5) |>.trans (hb.mono (Nat.le_of_lt hz))).mono B1.out.size))
    have H2 := Lib.hid ((H1.out.below rfl (((Below.refl w1.heap.size w1).alloc (Nat.le_refl _) (.cells #[.string nm, .int .u8 c.toNat] 23)).alloc (by simp) (.cells #[.int .u8 c.toNat] 5))).below rfl hb)
    clear hb B1 H1 hA hz
    go_wp2_with fail
    refine (AW.out _ (H2.out.below rfl ((Below.refl _ _).alloc (Nat.le_refl _) _))).mono ?_; rintro e w3 ⟨rfl, hb⟩
    have R3 := Lib.hid (keep_row R2.out hb)
    have B3 := Lib.hid (B2.out.trans ((((Below.refl w2.heap.size w2).alloc (Nat.le_refl _) _).trans (hb.mono (by simp))).mono B2.out.size))
    clear hb R2 B2 H2
    obtain ⟨⟨t0, t1⟩, ht⟩ := row2 R3.out
    go_wp2_with fail
    go_ret
    exact ⟨rfl, B3.out⟩
  · obtain ⟨c1, c2, c3, c4, c5, c6⟩ := h
    have T1 := T1g c6
    clear T1g T1b c6 c5
    go_enter Tryd.func6, Tryd.ntmps6
    go_wp2_with fail
    refine (WD.out _).mono ?_; rintro e w' ⟨rfl, rfl⟩
    go_wp2_with fail
    refine (KD.out _).mono ?_; rintro e w' ⟨rfl, rfl⟩
    go_wp2_with fail
    refine (T1.out _).mono ?_; rintro e w1 ⟨rfl, hb⟩
    have B1 := Lib.hid (B0.out.trans (hb.mono B0.out.size))
    have H1 := Lib.hid (H0.out.below rfl hb)
    clear hb B0 H0 hA
    have hA := one_byte ((w1.alloc (.cells #[.string nm, .int .u8 c.toNat] 23)).alloc (.cells #[.int .u8 c.toNat] 5)) (w1.heap.size + 1) (c.toNat : Int) (by go_simp)
    go_wp2_with fail
    refine (NM.out _).mono ?_; rintro e w' ⟨rfl, rfl⟩
    go_wp2_with fail
    refine (T2.out _).mono ?_; rintro e w2 ⟨rfl, hb⟩
    have hz : w1.heap.size < ((w1.alloc (.cells #[.string nm, .int .u8 c.toNat] 23)).alloc (.cells #[.int .u8 c.toNat] 5)).heap.size := by simp; omega
    have R2 := Lib.hid ((hb.block _ hz).trans ((row_alloc (by simp) _).trans (heap_alloc_new w1 (.cells #[.string nm, .int .u8 c.toNat] 23))))
    have B2 := Lib.hid (B1.out.trans ((((Below.refl w1.heap.size w1).alloc (Nat.le_refl _) (.cells #[.string nm, .int .u8 c.toNat] 23)).alloc (by simp) (.cells #[.int .u8 c.toNat] 5) |>.trans (hb.mono (Nat.le_of_lt hz))).mono B1.out.size))
    have H2 := Lib.hid ((H1.out.below rfl (((Below.refl w1.heap.size w1).alloc (Nat.le_refl _) (.cells #[.string nm, .int .u8 c.toNat] 23)).alloc (by simp) (.cells #[.int .u8 c.toNat] 5))).below rfl hb)
    clear hb B1 H1 hA hz
    go_wp2_with fail
    refine (AW.out _ (H2.out.below rfl ((Below.refl _ _).alloc (Nat.le_refl _) _))).mono ?_; rintro e w3 ⟨rfl, hb⟩
    have R3 := Lib.hid (keep_row R2.out hb)
    have B3 := Lib.hid (B2.out.trans ((((Below.refl w2.heap.size w2).alloc (Nat.le_refl _) _).trans (hb.mono (by simp))).mono B2.out.size))
    clear hb R2 B2 H2
    obtain ⟨⟨t0, t1⟩, ht⟩ := row2 R3.out
    go_wp2_with fail
    go_ret
    exact ⟨rfl, B3.out⟩
  · obtain ⟨c1, c2, c3, c4, c5, c6⟩ := h
    have T1 := T1g c6
    clear T1g T1b c6 
    go_enter Tryd.func6, Tryd.ntmps6
    go_wp2_with fail
    refine (WD.out _).mono ?_; rintro e w' ⟨rfl, rfl⟩
    go_wp2_with fail
    refine (KD.out _).mono ?_; rintro e w' ⟨rfl, rfl⟩
    go_wp2_with fail
    refine (T1.out _).mono ?_; rintro e w1 ⟨rfl, hb⟩
    have B1 := Lib.hid (B0.out.trans (hb.mono B0.out.size))
    have H1 := Lib.hid (H0.out.below rfl hb)
    clear hb B0 H0 hA
    have hA := one_byte ((w1.alloc (.cells #[.string nm, .int .u8 c.toNat] 23)).alloc (.cells #[.int .u8 c.toNat] 5)) (w1.heap.size + 1) (c.toNat : Int) (by go_simp)
    go_wp2_with fail
    refine (NM.out _).mono ?_; rintro e w' ⟨rfl, rfl⟩
    go_wp2_with fail
    refine (T2.out _).mono ?_; rintro e w2 ⟨rfl, hb⟩
    have hz : w1.heap.size < ((w1.alloc (.cells #[.string nm, .int .u8 c.toNat] 23)).alloc (.cells #[.int .u8 c.toNat] 5)).heap.size := by simp; omega
    have R2 := Lib.hid ((hb.block _ hz).trans ((row_alloc (by simp) _).trans (heap_alloc_new w1 (.cells #[.string nm, .int .u8 c.toNat] 23))))
    have B2 := Lib.hid (B1.out.trans ((((Below.refl w1.heap.size w1).alloc (Nat.le_refl _) (.cells #[.string nm, .int .u8 c.toNat] 23)).alloc (by simp) (.cells #[.int .u8 c.toNat] 5) |>.trans (hb.mono (Nat.le_of_lt hz))).mono B1.out.size))
    have H2 := Lib.hid ((H1.out.below rfl (((Below.refl w1.heap.size w1).alloc (Nat.le_refl _) (.cells #[.string nm, .int .u8 c.toNat] 23)).alloc (by simp) (.cells #[.int .u8 c.toNat] 5))).below rfl hb)
    clear hb B1 H1 hA hz
    go_wp2_with fail
    refine (AW.out _ (H2.out.below rfl ((Below.refl _ _).alloc (Nat.le_refl _) _))).mono ?_; rintro e w3 ⟨rfl, hb⟩
    have R3 := Lib.hid (keep_row R2.out hb)
    have B3 := Lib.hid (B2.out.trans ((((Below.refl w2.heap.size w2).alloc (Nat.le_refl _) _).trans (hb.mono (by simp))).mono B2.out.size))
    clear hb R2 B2 H2
    obtain ⟨⟨t0, t1⟩, ht⟩ := row2 R3.out
    go_wp2_with fail
    go_ret
    exact ⟨rfl, B3.out⟩
  · obtain ⟨c1, c2, c3, c4, c5, c6⟩ := h
    have T1 := T1b c6
    clear T1g T1b c6 
    go_enter Tryd.func6, Tryd.ntmps6
    go_wp2_with fail
    refine (WD.out _).mono ?_; rintro e w' ⟨rfl, rfl⟩
    go_wp2_with fail
    refine (KD.out _).mono ?_; rintro e w' ⟨rfl, rfl⟩
    go_wp2_with fail
    refine (T1.out _).mono ?_; rintro e w1 ⟨rfl, hb⟩
    have B1 := Lib.hid (B0.out.trans (hb.mono B0.out.size))
    have H1 := Lib.hid (H0.out.below rfl hb)
    clear hb B0 H0 hA
    have hA := one_byte ((w1.alloc (.cells #[.string ⟨#[]⟩, .int .u8 0] 23)).alloc (.cells #[.int .u8 c.toNat] 5)) (w1.heap.size + 1) (c.toNat : Int) (by go_simp)
    go_wp2_with fail
    refine (NM.out _).mono ?_; rintro e w' ⟨rfl, rfl⟩
    go_wp2_with fail
    refine (T2.out _).mono ?_; rintro e w2 ⟨rfl, hb⟩
    have hz : w1.heap.size < ((w1.alloc (.cells #[.string ⟨#[]⟩, .int .u8 0] 23)).alloc (.cells #[.int .u8 c.toNat] 5)).heap.size := by simp; omega
    have R2 := Lib.hid ((hb.block _ hz).trans ((row_alloc (by simp) _).trans (heap_alloc_new w1 (.cells #[.string ⟨#[]⟩, .int .u8 0] 23))))
    have B2 := Lib.hid (B1.out.trans ((((Below.refl w1.heap.size w1).alloc (Nat.le_refl _) (.cells #[.string ⟨#[]⟩, .int .u8 0] 23)).alloc (by simp) (.cells #[.int .u8 c.toNat] 5) |>.trans (hb.mono (Nat.le_of_lt hz))).mono B1.out.size))
    have H2 := Lib.hid ((H1.out.below rfl (((Below.refl w1.heap.size w1).alloc (Nat.le_refl _) (.cells #[.string ⟨#[]⟩, .int .u8 0] 23)).alloc (by simp) (.cells #[.int .u8 c.toNat] 5))).below rfl hb)
    clear hb B1 H1 hA hz
    go_wp2_with fail
    refine (AW.out _ (H2.out.below rfl ((Below.refl _ _).alloc (Nat.le_refl _) _))).mono ?_; rintro e w3 ⟨rfl, hb⟩
    have R3 := Lib.hid (keep_row R2.out hb)
    have B3 := Lib.hid (B2.out.trans ((((Below.refl w2.heap.size w2).alloc (Nat.le_refl _) _).trans (hb.mono (by simp))).mono B2.out.size))
    clear hb R2 B2 H2
    obtain ⟨⟨t0, t1⟩, ht⟩ := row2 R3.out
    go_wp2_with fail
    go_ret
    exact ⟨rfl, B3.out⟩
end Go.Proofs.YtmddabemnjlniaaDoor

