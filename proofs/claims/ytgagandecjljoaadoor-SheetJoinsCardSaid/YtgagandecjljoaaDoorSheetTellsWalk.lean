/-
  The walk of the law SheetTells: it returns true.
-/
import Derived.Test.YtgagandecjljoaaDoorShAwake
namespace Go.Proofs.YtgagandecjljoaaDoor
open Go.RowKit

def exF (r : Nat) : Int := if r = 0 then 0 else 2
theorem faultV_ex (r : Nat) : faultV r = .agg #[.int .i64 (exF r), .int .i64 r] := by
  unfold faultV exF
  split
  · rename_i h; subst h; rfl
  · rfl
/-- What Parse leaves, written out. -/
def SheetAgg (p : List It.Itm × Nat) (w : World) (e : Ending) (w' : World) : Prop :=
  ∃ A c, e = .returned (.tuple #[.slice A p.1.length c, .agg #[.int .i64 (exF p.2), .int .i64 p.2]]) ∧ Its w' A p.1 ∧ Below w.heap.size w w'
theorem SheetGives.written {p : List It.Itm × Nat} {w w' : World} {e : Ending} (h : SheetGives p w e w') : SheetAgg p w e w' := by
  obtain ⟨A, c, _, he, hi, hb⟩ := h
  exact ⟨A, c, by rw [he, faultV_ex], hi, hb⟩
theorem sheet_le (l : List UInt8) : (Sh.parse l).1.length ≤ l.length + 1 := by
  cases hb : Sh.bad (Ln.whole l) (Ln.split l) with
  | none => rw [Sh.parse_none hb]; exact Nat.le_trans (Sh.items_le _) (Sh.split_le l).2
  | some k => rw [Sh.parse_some hb]; simp
theorem print_le4 (y : It.Itm) (h : FitsP y) : (It.print y).length ≤ 10000 := by
  obtain ⟨h0, h1, hn, ha, hb⟩ := h
  have hw := word_le y.k
  have hd := dec_l20 h0 h1
  have e := ofV_txt y
  rw [← e]
  by_cases e1 : It.isNum y.k = true
  · rw [print_num e1]; simp [Ln.line, Lib.join]; omega
  by_cases e2 : It.isLen y.k = true
  · rw [print_len (len_num e2) e2, txt_toList]; simp [Ln.line, Lib.join]; omega
  by_cases e3 : y.k = 7
  · rw [e3] at hw ⊢; rw [print_7, txt_toList, txt_toList]; simp [Ln.line, Lib.join, It.tipT]; omega
  by_cases e4 : y.k = 8
  · rw [e4] at hw ⊢; rw [print_8, txt_toList]; simp [Ln.line, Lib.join, It.tipT]; omega
  by_cases e5 : y.k = 9
  · rw [e5] at hw ⊢; rw [print_9, txt_toList, txt_toList]; simp [Ln.line, Lib.join, It.tipT]; omega
  · rw [ofV_k _ _ _ _ _ _ _ (by simp [It.isNum] at e1; simp [It.isLen] at e2; omega)]; simp
theorem short_print {L : List It.Itm} (hl : L.length ≤ 40) (hf : ∀ y ∈ L, FitsP y) : (Sh.print L).length ≤ 10000000 := by
  have := Sh.text_le 10000 (L.map It.print) fun x hx => by
    obtain ⟨y, hy, rfl⟩ := List.mem_map.1 hx
    exact print_le4 y (hf y hy)
  rw [List.length_map] at this
  unfold Sh.print
  omega
theorem strB_refl (x : ByteArray) : (x.toList == x.toList) = true := by simp
set_option maxHeartbeats 8000000 in
set_option maxRecDepth 100000 in
theorem sheetTells_walk (s : ByteArray) (A : Option Addr) (c n : Nat) (L : List It.Itm) (W : World) (ws : s.size ≤ maxLen) (hn : L.length = n) (hI : Its W A L) (_hc : n ≤ c) (hl : n ≤ maxLen) (hN : ∀ y ∈ L, y.n ≤ 9223372036854775807) (hE : Env W) :
    Calls Tryd.prog 3 #[.string s, .slice A n c] W fun e w' => e = .returned (.bool true) ∧ Below W.heap.size W w' := by
  subst hn
  unfold maxLen at ws
  have AW := Lib.hid sawake_any
  have SH := Lib.hid (sshort_any A c L W hI hl)
  have HE := Lib.hid hE
  have HI := Lib.hid hI
  clear hE hI
  by_cases hlong : 800 < s.size
  · have h1 : decide (800 < (s.size : Int)) = true := dec_t (by omega)
    clear hlong
    go_enter Tryd.func3, Tryd.ntmps3
    go_wp2_with fail
    refine (AW.out _ HE.out).mono ?_; rintro e w1 ⟨rfl, hb1⟩
    go_wp2
    go_ret
    exact ⟨rfl, hb1⟩
  · have h1 : decide (800 < (s.size : Int)) = false := dec_f (by omega)
    cases hsh : shortL L
    · rw [hsh] at SH
      clear hlong hsh
      go_enter Tryd.func3, Tryd.ntmps3
      go_wp2_with fail
      refine SH.out.mono ?_; rintro e w1 ⟨rfl, rfl⟩
      go_wp2_with fail
      refine (AW.out _ HE.out).mono ?_; rintro e w1 ⟨rfl, hb1⟩
      go_wp2
      go_ret
      exact ⟨rfl, hb1⟩
    · rw [hsh] at SH
      obtain ⟨h40, hf⟩ := shortL_fits hsh hN
      have hpl := short_print h40 hf
      have h5 : L.length ≤ 100000 := by omega
      have P1 := Lib.hid (fun w hE h => sprint_any A c L w hE h h5 hf hpl)
      have P2 := Lib.hid (fun w h => rsprint_any A c L w h h5 hf hpl)
      have hs6 : s.size ≤ 1000000 := by omega
      have hple := sheet_le s.data.toList
      have S1 := Lib.hid (fun w hE => (sparse_any s w hE hs6).mono fun _ _ g => g.written)
      have S2 := Lib.hid (fun w => (rsparse_any s w hs6).mono fun _ _ g => g.written)
      obtain ⟨p, hp⟩ : ∃ p, Sh.parse s.data.toList = p := ⟨_, rfl⟩
      rw [hp] at S1 S2 hple
      have hsz : s.data.toList.length = s.size := by simp
      have hp6 : p.1.length ≤ 1000000 := by omega
      have Q := fun W => (bin_fault W (exF p.2) p.2 (exF p.2) p.2).trans (by rw [show ((exF p.2 == exF p.2) && ((p.2 : Int) == p.2)) = true by simp])
      have SM := Lib.hid (fun A B c d w hA hB => (isame_any A B c d p.1 p.1 w hA hB hp6 hp6).mono fun e w' (h : e = .returned (.bool (decide (p.1 = p.1))) ∧ _) => (show e = .returned (.bool true) ∧ Below w.heap.size w w' by rw [decide_eq_true rfl] at h; exact h))
      have hrefl := strB_refl (txt (Sh.print L))
      clear hlong hsh hN h40 hf hpl h5 hs6 hple hp hsz hp6
      go_enter Tryd.func3, Tryd.ntmps3
      go_wp2_with fail
      refine SH.out.mono ?_; rintro e w1 ⟨rfl, rfl⟩
      go_wp2_with fail
      refine (S1.out _ HE.out).mono ?_; rintro e w1 ⟨A1, c1, rfl, i1, hb1⟩
      have X1 := (Below.refl w1.heap.size w1).alloc (Nat.le_refl _) (.cells #[.int .i64 (exF p.2), .int .i64 p.2] 27)
      have H1 := Lib.hid ((HE.out.below rfl hb1).below rfl X1)
      have I1 := Lib.hid (i1.below rfl X1)
      have J1 := Lib.hid ((HI.out.below rfl hb1).below rfl X1)
      have B1 := Lib.hid (hb1.trans (X1.mono hb1.size))
      clear hb1 X1 i1
      go_wp2_with fail
      refine (S2.out _).mono ?_; rintro e w2 ⟨A2, c2, rfl, i2, hb2⟩
      have X2 := (Below.refl w2.heap.size w2).alloc (Nat.le_refl _) (.cells #[.int .i64 (exF p.2), .int .i64 p.2] 27)
      have H2 := Lib.hid ((H1.out.below rfl hb2).below rfl X2)
      have I12 := Lib.hid ((I1.out.below rfl hb2).below rfl X2)
      have J2 := Lib.hid ((J1.out.below rfl hb2).below rfl X2)
      have I2 := Lib.hid (i2.below rfl X2)
      have B2' := B1.out.trans (hb2.mono B1.out.size)
      have B2 := Lib.hid (B2'.trans (X2.mono B2'.size))
      have R12 := Lib.hid (fresh_row hb2)
      clear hb2 X2 i2 B2'
      go_wp2_with fail
      refine (AW.out _ H2.out).mono ?_; rintro e w3 ⟨rfl, hb3⟩
      have H3 := Lib.hid (H2.out.below rfl hb3)
      have I13 := Lib.hid (I12.out.below rfl hb3)
      have I23 := Lib.hid (I2.out.below rfl hb3)
      have J3 := Lib.hid (J2.out.below rfl hb3)
      have B3 := Lib.hid (B2.out.trans (hb3.mono B2.out.size))
      have R13 := Lib.hid (keep_row R12.out hb3)
      have R23 := Lib.hid (fresh_row hb3)
      clear hb3
      go_wp2_with fail
      refine (SM.out _ _ _ _ _ I13.out I23.out).mono ?_; rintro e w4 ⟨rfl, hb4⟩
      have H4 := Lib.hid (H3.out.below rfl hb4)
      have J4 := Lib.hid (J3.out.below rfl hb4)
      have B4 := Lib.hid (B3.out.trans (hb4.mono B3.out.size))
      obtain ⟨⟨a0, a1⟩, _⟩ := row2 (stay_row R13.out hb4)
      obtain ⟨⟨b0, b1⟩, _⟩ := row2 (stay_row R23.out hb4)
      clear hb4
      go_wp2_with fail
      refine (P1.out _ H4.out J4.out).mono ?_; rintro e w5 ⟨rfl, hb5⟩
      have J5 := Lib.hid (J4.out.below rfl hb5)
      have B5 := Lib.hid (B4.out.trans (hb5.mono B4.out.size))
      clear hb5 a0 a1 b0 b1
      go_wp2_with fail
      refine (P2.out _ J5.out).mono ?_; rintro e w6 ⟨rfl, hb6⟩
      go_wp2_with fail
      go_ret
      exact ⟨rfl, B5.out.trans (hb6.mono B5.out.size)⟩
end Go.Proofs.YtgagandecjljoaaDoor

