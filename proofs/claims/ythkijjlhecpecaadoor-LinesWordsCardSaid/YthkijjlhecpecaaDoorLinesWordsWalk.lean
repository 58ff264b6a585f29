/-
  The walk of the law LinesWords: it returns true.
-/
import Derived.Test.YthkijjlhecpecaaDoorLinesTellsWalk
namespace Go.Proofs.YthkijjlhecpecaaDoor
open Go.RowKit

def gw (x : List UInt8) : Bool := !x.isEmpty && x.all Ln.okw
theorem gw_all {L : List (List UInt8)} (h : L.all gw = true) : ∀ x ∈ L, x ≠ [] ∧ ∀ b ∈ x, Ln.okw b = true := fun x hx => by
  have := List.all_eq_true.1 h x hx
  rw [gw, Bool.and_eq_true] at this
  exact ⟨by intro e; subst e; simp at this, fun b hb => List.all_eq_true.1 this.2 b hb⟩
theorem okw_take (u : ByteArray) (k : Nat) (hk : k < u.size) : (u.data.toList.take (k + 1)).all Ln.okw = ((u.data.toList.take k).all Ln.okw && Ln.okw u[k]) := by
  rw [take_snoc u k hk, List.all_append]; simp
theorem gw_take (L : List (List UInt8)) (j : Nat) (hj : j < L.length) : (L.take (j + 1)).all gw = ((L.take j).all gw && gw L[j]) := by
  rw [List.take_succ_eq_append_getElem hj, List.all_append]; simp
theorem okw_cases (c : UInt8) : (Ln.okw c = true ∧ 33 ≤ (c.toNat : Int) ∧ (c.toNat : Int) ≤ 126) ∨ (Ln.okw c = false ∧ (c.toNat : Int) < 33) ∨ (Ln.okw c = false ∧ 33 ≤ (c.toNat : Int) ∧ decide ((c.toNat : Int) ≤ 126) = false) := by
  unfold Ln.okw
  by_cases h1 : 33 ≤ (c.toNat : Int) <;> by_cases h2 : (c.toNat : Int) ≤ 126 <;> simp [h1, h2] <;> omega
theorem empty_cases (u : ByteArray) : (u.toList.isEmpty = true ∧ (!u.toList.isEmpty) = false ∧ gw u.data.toList = false) ∨ (u.toList.isEmpty = false ∧ (!u.toList.isEmpty) = true ∧ gw u.data.toList = u.data.toList.all Ln.okw) := by
  rw [ByteArray.toList_eq, gw]
  cases h : u.data.toList.isEmpty <;> simp

set_option maxHeartbeats 8000000 in
set_option maxRecDepth 100000 in
theorem linesWords_walk (A : Option Addr) (c n : Nat) (L : List (List UInt8)) (s : ByteArray) (W : World) (hn : L.length = n) (hL : Strs W A L) (hcap : n ≤ c) (hl : n ≤ maxLen) (hx : ∀ x ∈ L, x.length ≤ maxLen) (ws : s.size ≤ maxLen) (hM : MaxOk W) :
    Calls Tryd.prog 5 #[.slice A n c, .string s] W fun e w' => e = .returned (.bool true) ∧ Below W.heap.size W w' := by
  subst hn
  unfold maxLen at ws
  have S := Lib.hid (short_of A c L W hL hl hx)
  unfold maxLen at hl
  have AW := Lib.hid awake_any
  have HM := Lib.hid hM
  have HL := Lib.hid hL
  have HC := Lib.hid hcap
  clear hM hcap
  by_cases hlong : 500 < s.size
  · have h1 : decide (500 < (s.size : Int)) = true := dec_t (by omega)
    clear hlong hx hL
    go_enter Tryd.func5, Tryd.ntmps5
    go_wp2_with fail
    refine (AW.out _ HM.out).mono ?_; rintro e w1 ⟨rfl, hb1⟩
    go_wp2
    go_ret
    exact ⟨rfl, hb1⟩
  · have h1 : decide (500 < (s.size : Int)) = false := dec_f (by omega)
    cases hsh : isShort L
    · have S1 := Lib.hid (S.out false hsh)
      clear hsh S hx hL
      go_enter Tryd.func5, Tryd.ntmps5
      go_wp2_with fail
      refine S1.out.mono ?_; rintro e w1 ⟨rfl, rfl⟩
      go_wp2_with fail
      refine (AW.out _ HM.out).mono ?_; rintro e w1 ⟨rfl, hb1⟩
      go_wp2
      go_ret
      exact ⟨rfl, hb1⟩
    · have S1 := Lib.hid (S.out true hsh)
      obtain ⟨b1, b2, b3⟩ := short_bd hsh
      have l1 := words_len s.data.toList
      have l3 : s.data.toList.length = s.size := by simp
      have LW := Ln.line_words s.data.toList
      have T0 := Lib.hid (fun w (h : Strs w A L) => line_any A c L w h HC.out (by omega) (by omega))
      have K1 := Lib.hid (fun w h => words_any (txt (Ln.line L)) w h (by rw [txt_size]; omega))
      rw [txt_toList] at K1
      have K2 := Lib.hid (fun w h => words_any s w h (by omega))
      obtain ⟨Q, hQ⟩ : ∃ Q, Ln.words s.data.toList = Q := ⟨_, rfl⟩
      obtain ⟨q, hq⟩ : ∃ q, Ln.ws true s.data.toList = q := ⟨_, rfl⟩
      rw [hQ, hq] at K2 LW
      rw [hQ] at l1
      have hqq : Q.length ≤ 1000000 := by omega
      have ST := Lib.hid (fun (h : L.all gw = true) (hp : 0 < L.length) => Ln.words_line L (by intro e; subst e; simp at hp) (gw_all h))
      obtain ⟨R, hR⟩ : ∃ R, Ln.words (Ln.line L) = R := ⟨_, rfl⟩
      obtain ⟨p, hp⟩ : ∃ p, Ln.ws true (Ln.line L) = p := ⟨_, rfl⟩
      rw [hR, hp] at K1 ST
      have HLW := Lib.hid LW
      have hs5 : s.size ≤ 500 := by omega
      have HX := Lib.hid (fun j (hj : j < L.length) => hx _ (List.getElem_mem hj))
      obtain ⟨z, hz⟩ : ∃ z, ((0 < L.length ∧ z = true) ∨ (¬ 0 < L.length ∧ z = false)) := by
        by_cases h : 0 < L.length
        · exact ⟨true, Or.inl ⟨h, rfl⟩⟩
        · exact ⟨false, Or.inr ⟨h, rfl⟩⟩
      have HZ := Lib.hid hz
      clear hsh S hQ hq l1 l3 b2 b3 hlong hR hp LW hx hL
      rcases hz with ⟨hz1, rfl⟩ | ⟨hz1, rfl⟩
      · go_enter Tryd.func5, Tryd.ntmps5
        go_wp2_with fail
        refine S1.out.mono ?_; rintro e w1 ⟨rfl, rfl⟩
        go_wp2_with fail
        go_loop [5, 6] (fun g i => ∃ (j : Nat) (b : Bool), j ≤ L.length ∧ i = .int .i64 j ∧ g = .bool b ∧ (true && (L.take j).all gw) = b) (fun _ i => L.length - (intOf i).toNat)
        case atStart => exact ⟨0, true, Nat.zero_le _, rfl, rfl, rfl⟩
        case round =>
          obtain ⟨j, b, hj, rfl, rfl, hb⟩ := hrel
          have HB := Lib.hid hb
          clear hb
          by_cases hlt : j < L.length
          · have hat := gw_take L j hlt
            obtain ⟨a, rfl, _, hc⟩ := HL.out.cell hlt
            have hsz := HX.out j hlt
            unfold maxLen at hsz
            obtain ⟨u, hu⟩ : ∃ u, txt L[j] = u := ⟨_, rfl⟩
            have hus : u.size = L[j].length := by rw [← hu, txt_size]
            have hud : L[j] = u.data.toList := by rw [← hu, txt_toList]
            rw [str, hu] at hc
            rw [hud] at hat
            have hus2 : u.size ≤ 9223372036854775807 := by omega
            obtain ⟨y, hy⟩ : ∃ y, (!u.toList.isEmpty) = y := ⟨_, rfl⟩
            have HY : Hid ((b && y && u.data.toList.all Ln.okw) = (b && gw u.data.toList)) := by
              rw [gw, Bool.and_assoc, ← hy, ByteArray.toList_eq]; exact Lib.hid rfl
            have hy2 : u.toList.isEmpty = !y := by rw [← hy, Bool.not_not]
            have HAT := Lib.hid hat
            clear hat hus hud hu hsz
            have loop : ∀ b3 : Bool, b3 = (b && y) → True := fun _ _ => trivial
            clear loop
            cases b
            · go_wp2
              go_loop [5, 7] (fun g i => ∃ (k : Nat), k ≤ u.size ∧ i = .int .i64 k ∧ g = .bool false) (fun _ i => u.size - (intOf i).toNat)
              case atStart => exact ⟨0, Nat.zero_le _, rfl, rfl⟩
              case round =>
                obtain ⟨k, hk, rfl, rfl⟩ := hrel
                by_cases hlt2 : k < u.size
                · go_wp2
                  go_round
                  case rel => exact ⟨k + 1, by omega, by go_num, rfl⟩
                  case measure => simp [intOf]; omega
                · go_wp2
                  go_round
                  case rel => exact ⟨j + 1, false, by omega, by go_num, rfl, by rw [HAT.out, ← Bool.and_assoc, HB.out]; rfl⟩
                  case measure => simp [intOf]; omega
            · cases y
              all_goals
                go_wp2
                go_loop [5, 7] (fun g i => ∃ (k : Nat) (b2 : Bool), k ≤ u.size ∧ i = .int .i64 k ∧ g = .bool b2 ∧ (!u.toList.isEmpty && (u.data.toList.take k).all Ln.okw) = b2) (fun _ i => u.size - (intOf i).toNat)
                case atStart => exact ⟨0, _, Nat.zero_le _, rfl, rfl, by simp only [List.take_zero, List.all_nil, Bool.and_true]; exact hy⟩
                case round =>
                  obtain ⟨k, b2, hk, rfl, rfl, hb2⟩ := hrel
                  have HB2 := Lib.hid hb2
                  clear hb2
                  by_cases hlt2 : k < u.size
                  · have hn := okw_take u k hlt2
                    have HN := Lib.hid hn
                    clear hn
                    cases b2
                    · go_wp2
                      go_round
                      case rel => exact ⟨k + 1, false, by omega, by go_num, rfl, by rw [HN.out, ← Bool.and_assoc, HB2.out]; rfl⟩
                      case measure => simp [intOf]; omega
                    · rcases okw_cases u[k] with ⟨ho, h2, h3⟩ | ⟨ho, h2⟩ | ⟨ho, h2, h3⟩
                      all_goals
                        have HO := Lib.hid ho
                        clear ho
                        go_wp2
                        go_round
                        case rel => exact ⟨k + 1, _, by omega, by go_num, rfl, by rw [HN.out, ← Bool.and_assoc, HB2.out, HO.out]; rfl⟩
                        case measure => simp [intOf]; omega
                  · go_wp2
                    go_round
                    case rel => exact ⟨j + 1, b2, by omega, by go_num, rfl, by rw [HAT.out, ← Bool.and_assoc, HB.out, ← HB2.out, List.take_of_length_le (by simp; omega), Bool.true_and, gw, ByteArray.toList_eq]⟩
                    case measure => simp [intOf]; omega
          · have HB2 : Hid ((true && L.all gw) = b) := by
              have := HB.out
              rw [List.take_of_length_le (by omega)] at this
              exact Lib.hid this
            clear HB
            go_wp2_with fail
            refine (T0.out _ HL.out).mono ?_; rintro e w1 ⟨rfl, hb1⟩
            have HM1 := Lib.hid (HM.out.below rfl hb1)
            go_wp2_with fail
            refine (K1.out _ HM1.out).mono ?_; rintro e w2 ⟨A2, c2, _, rfl, hs2, hb2⟩
            have HM2 := Lib.hid (HM1.out.below rfl hb2)
            have B2 := Lib.hid (hb1.trans (hb2.mono hb1.size))
            go_wp2_with fail
            refine (K2.out _ HM2.out).mono ?_; rintro e w3 ⟨A3, c3, h3c, rfl, hs3, hb3⟩
            have HM3 := Lib.hid (HM2.out.below rfl hb3)
            have B3 := Lib.hid (B2.out.trans (hb3.mono B2.out.size))
            go_wp2_with fail
            refine (AW.out _ HM3.out).mono ?_; rintro e w4 ⟨rfl, hb4⟩
            have B4 := Lib.hid (B3.out.trans (hb4.mono B3.out.size))
            have X2 := Lib.hid ((hs2.below rfl hb3).below rfl hb4)
            have X3 := Lib.hid (hs3.below rfl hb4)
            have H3C := Lib.hid h3c
            clear hs2 hs3 hb1 hb2 hb3 hb4 HM HM1 HM2 HM3 B2 B3 K1 K2 T0 S1 h3c
            have QT := Lib.hid (fun w (h : Strs w (A3) Q) (hq : q = true) => (show Calls Tryd.prog 16 #[.slice (A3) Q.length c3] w fun e w' => e = .returned (.string s) ∧ Below w.heap.size w w' from by
              have e := (HLW.out hq).1
              have hsl : s.data.toList.length = s.size := by simp
              have := line_any (A3) c3 Q w h H3C.out hqq (by rw [e, hsl]; omega)
              rwa [e, txt_of] at this))
            have QP := Lib.hid (fun (hq : q = true) => (show 0 < Q.length from List.length_pos_iff.mpr (HLW.out hq).2))
            cases b
            · cases q
              · go_wp2
                go_ret
                exact ⟨rfl, B4.out⟩
              · have hq0 := QP.out (by trivial)
                go_wp2_with fail
                refine (QT.out _ X3.out (by trivial)).mono ?_; rintro e w5 ⟨rfl, hb5⟩
                go_wp2
                go_ret
                exact ⟨rfl, B4.out.trans (hb5.mono B4.out.size)⟩
            · obtain ⟨rfl, rfl⟩ := ST.out (by simpa using HB2.out) hz1
              have hrl : R.length ≤ 1000000 := by omega
              go_wp2_with fail
              refine (same_yes A2 A c2 c R w4 X2.out (HL.out.below rfl B4.out) hrl).mono ?_; rintro e w5 ⟨rfl, hb5⟩
              have B5 := Lib.hid (B4.out.trans (hb5.mono B4.out.size))
              have X3b := Lib.hid (X3.out.below rfl hb5)
              clear hb5
              cases q
              · go_wp2
                go_ret
                exact ⟨rfl, B5.out⟩
              · have hq0 := QP.out (by trivial)
                go_wp2_with fail
                refine (QT.out _ X3b.out (by trivial)).mono ?_; rintro e w6 ⟨rfl, hb6⟩
                go_wp2
                go_ret
                exact ⟨rfl, B5.out.trans (hb6.mono B5.out.size)⟩
      · go_enter Tryd.func5, Tryd.ntmps5
        go_wp2_with fail
        refine S1.out.mono ?_; rintro e w1 ⟨rfl, rfl⟩
        go_wp2_with fail
        refine wp_loop_rounds 1 ?_
        rw [rounds_succ]
        go_wp2_with fail
        refine (T0.out _ HL.out).mono ?_; rintro e w1 ⟨rfl, hb1⟩
        have HM1 := Lib.hid (HM.out.below rfl hb1)
        go_wp2_with fail
        refine (K1.out _ HM1.out).mono ?_; rintro e w2 ⟨A2, c2, _, rfl, hs2, hb2⟩
        have HM2 := Lib.hid (HM1.out.below rfl hb2)
        have B2 := Lib.hid (hb1.trans (hb2.mono hb1.size))
        go_wp2_with fail
        refine (K2.out _ HM2.out).mono ?_; rintro e w3 ⟨A3, c3, h3c, rfl, hs3, hb3⟩
        have HM3 := Lib.hid (HM2.out.below rfl hb3)
        have B3 := Lib.hid (B2.out.trans (hb3.mono B2.out.size))
        go_wp2_with fail
        refine (AW.out _ HM3.out).mono ?_; rintro e w4 ⟨rfl, hb4⟩
        have B4 := Lib.hid (B3.out.trans (hb4.mono B3.out.size))
        have X2 := Lib.hid ((hs2.below rfl hb3).below rfl hb4)
        have X3 := Lib.hid (hs3.below rfl hb4)
        have H3C := Lib.hid h3c
        clear hs2 hs3 hb1 hb2 hb3 hb4 HM HM1 HM2 HM3 B2 B3 K1 K2 T0 S1 h3c
        have QT := Lib.hid (fun w (h : Strs w (A3) Q) (hq : q = true) => (show Calls Tryd.prog 16 #[.slice (A3) Q.length c3] w fun e w' => e = .returned (.string s) ∧ Below w.heap.size w w' from by
          have e := (HLW.out hq).1
          have hsl : s.data.toList.length = s.size := by simp
          have := line_any (A3) c3 Q w h H3C.out hqq (by rw [e, hsl]; omega)
          rwa [e, txt_of] at this))
        have QP := Lib.hid (fun (hq : q = true) => (show 0 < Q.length from List.length_pos_iff.mpr (HLW.out hq).2))
        cases q
        · go_wp2
          go_ret
          exact ⟨rfl, B4.out⟩
        · have hq0 := QP.out (by trivial)
          go_wp2_with fail
          refine (QT.out _ X3.out (by trivial)).mono ?_; rintro e w5 ⟨rfl, hb5⟩
          go_wp2
          go_ret
          exact ⟨rfl, B4.out.trans (hb5.mono B4.out.size)⟩
end Go.Proofs.YthkijjlhecpecaaDoor
