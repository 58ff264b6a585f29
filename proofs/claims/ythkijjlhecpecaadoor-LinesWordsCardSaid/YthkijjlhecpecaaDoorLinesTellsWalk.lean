/-
  The walk of the law LinesTells: it returns true.
-/
import Derived.Test.YthkijjlhecpecaaDoorLnAwake
namespace Go.Proofs.YthkijjlhecpecaaDoor
open Go.RowKit

theorem text_len (L : List (List UInt8)) (m : Nat) (h : ∀ x ∈ L, x.length ≤ m) : (Ln.text L).length ≤ (m + 1) * L.length := by
  induction L with
  | nil => simp [Ln.text]
  | cons x t ih =>
    have h1 := h x (List.mem_cons_self ..)
    have h2 := ih (fun y hy => h y (List.mem_cons_of_mem _ hy))
    simp only [Ln.text, List.map_cons, List.flatten_cons, List.length_append, List.length_cons, List.length_nil] at h2 ⊢
    rw [Nat.mul_add]
    omega
theorem line_len (L : List (List UInt8)) : (Ln.line L).length ≤ (Ln.text L).length := by
  by_cases h : L = []
  · subst h; simp [Ln.line, Lib.join]
  · have e := List.dropLast_concat_getLast h
    rw [← e, Ln.line, Ln.join_snoc, Ln.text, List.map_append, List.flatten_append]
    have : ∀ D : List (List UInt8), (D.map (· ++ [32])).flatten.length = (D.map (· ++ [10])).flatten.length := by
      intro D
      induction D with
      | nil => rfl
      | cons x t ih => simp only [List.map_cons, List.flatten_cons, List.length_append, ih]; rfl
    simp only [List.length_append, this, List.map_cons, List.map_nil, List.flatten_cons, List.flatten_nil, List.length_nil, List.length_cons]
    omega
theorem short_bd {L : List (List UInt8)} (h : isShort L = true) : L.length ≤ 20 ∧ (Ln.text L).length ≤ 1020 ∧ (Ln.line L).length ≤ 1020 := by
  rw [isShort, Bool.and_eq_true, decide_eq_true_eq] at h
  have h1 := text_len L 50 (fun x hx => by simpa using List.all_eq_true.1 h.2 x hx)
  have h2 := line_len L
  have : (50 + 1) * L.length ≤ 1020 := by omega
  exact ⟨h.1, by omega, by omega⟩
theorem short_of (A : Option Addr) (c : Nat) (L : List (List UInt8)) (w : World) (h : Strs w A L) (hl : L.length ≤ maxLen) (hx : ∀ x ∈ L, x.length ≤ maxLen) (b : Bool) (hb : isShort L = b) :
    Calls Tryd.prog 7 #[.slice A L.length c] w fun e w' => e = .returned (.bool b) ∧ w = w' := by
  subst hb; exact short_any A c L w h hl hx
theorem same_yes (A B : Option Addr) (c d : Nat) (L : List (List UInt8)) (w : World) (hA : Strs w A L) (hB : Strs w B L) (hl : L.length ≤ 1000000) :
    Calls Tryd.prog 13 #[.slice A L.length c, .slice B L.length d] w fun e w' => e = .returned (.bool true) ∧ Below w.heap.size w w' := by
  have := same_any A B c d L L w hA hB (by unfold maxLen; omega) (by unfold maxLen; omega)
  rwa [decide_eq_true (rfl : L = L)] at this
theorem split_len (l : List UInt8) : (Ln.split l).length ≤ l.length + 1 := by
  have := Ln.st_len 10 l
  rw [Ln.split, Ln.cut]
  split
  · omega
  · simp; omega
theorem words_len (l : List UInt8) : (Ln.words l).length ≤ l.length + 1 := by
  have := Ln.st_len 32 l
  rw [Ln.words, Ln.cut]
  split
  · simp; omega
  · simp

set_option maxHeartbeats 4000000 in
set_option maxRecDepth 100000 in
theorem linesTells_walk (s : ByteArray) (A : Option Addr) (c n : Nat) (L : List (List UInt8)) (W : World) (ws : s.size ≤ maxLen) (hn : L.length = n) (hL : Strs W A L) (hcap : n ≤ c) (hl : n ≤ maxLen) (hx : ∀ x ∈ L, x.length ≤ maxLen) (hM : MaxOk W) :
    Calls Tryd.prog 3 #[.string s, .slice A n c] W fun e w' => e = .returned (.bool true) ∧ Below W.heap.size W w' := by
  subst hn
  unfold maxLen at ws
  have S := Lib.hid (short_of A c L W hL hl hx)
  unfold maxLen at hl
  clear hx
  have AW := Lib.hid awake_any
  have HM := Lib.hid hM
  have HL := Lib.hid hL
  have hcap' := Lib.hid hcap
  clear hM hL hcap
  by_cases hlong : 500 < s.size
  · have h1 : decide (500 < (s.size : Int)) = true := dec_t (by omega)
    clear hlong
    go_enter Tryd.func3, Tryd.ntmps3
    go_wp2_with fail
    refine (AW.out _ HM.out).mono ?_; rintro e w1 ⟨rfl, hb1⟩
    go_wp2
    go_ret
    exact ⟨rfl, hb1⟩
  · have h1 : decide (500 < (s.size : Int)) = false := dec_f (by omega)
    cases hsh : isShort L
    · have S1 := Lib.hid (S.out false hsh)
      clear hsh S
      go_enter Tryd.func3, Tryd.ntmps3
      go_wp2_with fail
      refine S1.out.mono ?_; rintro e w1 ⟨rfl, rfl⟩
      go_wp2_with fail
      refine (AW.out _ HM.out).mono ?_; rintro e w1 ⟨rfl, hb1⟩
      go_wp2
      go_ret
      exact ⟨rfl, hb1⟩
    · have S1 := Lib.hid (S.out true hsh)
      obtain ⟨b1, b2, b3⟩ := short_bd hsh
      have l1 := split_len s.data.toList
      have l2 := words_len s.data.toList
      have l3 : s.data.toList.length = s.size := by simp
      have K1 := Lib.hid (fun w h => split_any s w h (by omega))
      have K2 := Lib.hid (fun w => rsplit_any s w (by omega))
      have K3 := Lib.hid (fun w h => words_any s w h (by omega))
      have K4 := Lib.hid (fun w => rwords_any s w (by omega))
      obtain ⟨P, hP⟩ : ∃ P, Ln.split s.data.toList = P := ⟨_, rfl⟩
      obtain ⟨Q, hQ⟩ : ∃ Q, Ln.words s.data.toList = Q := ⟨_, rfl⟩
      rw [hP] at K1 K2 l1
      rw [hQ] at K3 K4 l2
      have hp : P.length ≤ 1000000 := by omega
      have hq : Q.length ≤ 1000000 := by omega
      have T1 := Lib.hid (fun w (h : Strs w A L) => text_any A c L w h (by omega) (by omega))
      have T2 := Lib.hid (fun w (h : Strs w A L) => rtext_any A c L w h (by omega) (by omega))
      have T3 := Lib.hid (fun w (h : Strs w A L) => line_any A c L w h hcap'.out (by omega) (by omega))
      have T4 := Lib.hid (fun w (h : Strs w A L) => rline_any A c L w h (by omega) (by omega))
      clear hsh S hP hQ l1 l2 l3 b2 b3 hlong
      go_enter Tryd.func3, Tryd.ntmps3
      go_wp2_with fail
      refine S1.out.mono ?_; rintro e w1 ⟨rfl, rfl⟩
      go_wp2_with fail
      refine (K1.out _ HM.out).mono ?_; rintro e w1 ⟨A1, c1, _, rfl, hs1, hb1⟩
      have HM1 := Lib.hid (HM.out.below rfl hb1)
      go_wp2_with fail
      refine (K2.out _).mono ?_; rintro e w2 ⟨A2, c2, _, rfl, hs2, hb2⟩
      have HM2 := Lib.hid (HM1.out.below rfl hb2)
      have B2 := Lib.hid (hb1.trans (hb2.mono hb1.size))
      have S1' := Lib.hid (hs1.below rfl hb2)
      go_wp2_with fail
      refine (K3.out _ HM2.out).mono ?_; rintro e w3 ⟨A3, c3, _, rfl, hs3, hb3⟩
      have HM3 := Lib.hid (HM2.out.below rfl hb3)
      have B3 := Lib.hid (B2.out.trans (hb3.mono B2.out.size))
      go_wp2_with fail
      refine (K4.out _).mono ?_; rintro e w4 ⟨A4, c4, _, rfl, hs4, hb4⟩
      have HM4 := Lib.hid (HM3.out.below rfl hb4)
      have B4 := Lib.hid (B3.out.trans (hb4.mono B3.out.size))
      go_wp2_with fail
      refine (AW.out _ HM4.out).mono ?_; rintro e w5 ⟨rfl, hb5⟩
      have B5 := Lib.hid (B4.out.trans (hb5.mono B4.out.size))
      have X1 := Lib.hid (((S1'.out.below rfl hb3).below rfl hb4).below rfl hb5)
      have X2 := Lib.hid (((hs2.below rfl hb3).below rfl hb4).below rfl hb5)
      have X3 := Lib.hid ((hs3.below rfl hb4).below rfl hb5)
      have X4 := Lib.hid (hs4.below rfl hb5)
      clear hs1 hs2 hs3 hs4 hb1 hb2 hb3 hb4 hb5 HM HM1 HM2 HM3 HM4 B2 B3 B4 S1' K1 K2 K3 K4 S1
      go_wp2_with fail
      refine (same_yes A1 A2 c1 c2 P w5 X1.out X2.out hp).mono ?_; rintro e w6 ⟨rfl, hb6⟩
      have B6 := Lib.hid (B5.out.trans (hb6.mono B5.out.size))
      have X3 := Lib.hid (X3.out.below rfl hb6)
      have X4 := Lib.hid (X4.out.below rfl hb6)
      clear hb6
      go_wp2_with fail
      refine (same_yes A3 A4 c3 c4 Q w6 X3.out X4.out hq).mono ?_; rintro e w7 ⟨rfl, hb7⟩
      have B7 := Lib.hid (B6.out.trans (hb7.mono B6.out.size))
      clear hb7
      go_wp2_with fail
      refine (T1.out _ (HL.out.below rfl B7.out)).mono ?_; rintro e w8 ⟨rfl, hb8⟩
      have B8 := Lib.hid (B7.out.trans (hb8.mono B7.out.size))
      clear hb8
      go_wp2_with fail
      refine (T2.out _ (HL.out.below rfl B8.out)).mono ?_; rintro e w9 ⟨rfl, rfl⟩
      go_wp2_with fail
      refine (T3.out _ (HL.out.below rfl B8.out)).mono ?_; rintro e w9 ⟨rfl, hb9⟩
      have B9 := Lib.hid (B8.out.trans (hb9.mono B8.out.size))
      clear hb9
      go_wp2_with fail
      refine (T4.out _ (HL.out.below rfl B9.out)).mono ?_; rintro e w10 ⟨rfl, rfl⟩
      go_wp2
      go_ret
      exact ⟨rfl, B9.out⟩
end Go.Proofs.YthkijjlhecpecaaDoor
