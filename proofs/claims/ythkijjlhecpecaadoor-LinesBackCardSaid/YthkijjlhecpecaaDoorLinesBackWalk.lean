/-
  The walk of the law LinesBack: it returns true.
-/
import Derived.Test.YthkijjlhecpecaaDoorLinesTellsWalk
namespace Go.Proofs.YthkijjlhecpecaaDoor
open Go.RowKit

def no10 (x : List UInt8) : Bool := x.all fun b => decide (b ≠ 10)
theorem no10_mem {x : List UInt8} (h : no10 x = true) : (10 : UInt8) ∉ x := fun hm => by
  have := List.all_eq_true.1 h 10 hm
  simp at this
theorem all_no10 {L : List (List UInt8)} (h : L.all no10 = true) : ∀ x ∈ L, (10 : UInt8) ∉ x := fun x hx => no10_mem (List.all_eq_true.1 h x hx)
theorem no10_take (u : ByteArray) (k : Nat) (hk : k < u.size) : no10 (u.data.toList.take (k + 1)) = (no10 (u.data.toList.take k) && decide (u[k] ≠ 10)) := by
  rw [take_snoc u k hk, no10, List.all_append, no10]; simp
theorem all_take (L : List (List UInt8)) (j : Nat) (hj : j < L.length) : (L.take (j + 1)).all no10 = ((L.take j).all no10 && no10 L[j]) := by
  rw [List.take_succ_eq_append_getElem hj, List.all_append]; simp
theorem ne10 (c : UInt8) : ((c.toNat : Int) != 10) = decide (c ≠ 10) := by
  by_cases h : c = 10
  · subst h; rfl
  · rw [decide_eq_true h, bne_iff_ne]
    exact fun e => h (UInt8.toNat_inj.mp (by simpa using Int.ofNat.inj e))
theorem text_same (s : ByteArray) : ((txt (Ln.text (Ln.split s.data.toList))).toList == s.toList) = Ln.whole s.data.toList := by
  rw [← Ln.text_split, ByteArray.toList_eq, ByteArray.toList_eq, txt_toList, Bool.eq_iff_iff, beq_iff_eq, decide_eq_true_iff]
theorem text_split_len (l : List UInt8) : (Ln.text (Ln.split l)).length ≤ l.length + 1 := by
  have hj := congrArg List.length (Ln.st_join 10 l)
  rw [List.length_append] at hj
  rw [Ln.split]
  split
  · show (List.map (· ++ [10]) _).flatten.length ≤ _
    omega
  · rw [Ln.cut, Ln.text, List.map_append, List.flatten_append, List.length_append]
    simp only [List.map_cons, List.map_nil, List.flatten_cons, List.flatten_nil, List.append_nil, List.length_append, List.length_cons, List.length_nil]
    omega

set_option maxHeartbeats 4000000 in
set_option maxRecDepth 100000 in
theorem linesBack_walk (A : Option Addr) (c n : Nat) (L : List (List UInt8)) (s : ByteArray) (W : World) (hn : L.length = n) (hL : Strs W A L) (hcap : n ≤ c) (hl : n ≤ maxLen) (hx : ∀ x ∈ L, x.length ≤ maxLen) (ws : s.size ≤ maxLen) (hM : MaxOk W) :
    Calls Tryd.prog 4 #[.slice A n c, .string s] W fun e w' => e = .returned (.bool true) ∧ Below W.heap.size W w' := by
  subst hn
  unfold maxLen at ws
  have S := Lib.hid (short_of A c L W hL hl hx)
  unfold maxLen at hl
  have AW := Lib.hid awake_any
  have HM := Lib.hid hM
  have HL := Lib.hid hL
  clear hM hcap
  by_cases hlong : 500 < s.size
  · have h1 : decide (500 < (s.size : Int)) = true := dec_t (by omega)
    clear hlong hx hL
    go_enter Tryd.func4, Tryd.ntmps4
    go_wp2_with fail
    refine (AW.out _ HM.out).mono ?_; rintro e w1 ⟨rfl, hb1⟩
    go_wp2
    go_ret
    exact ⟨rfl, hb1⟩
  · have h1 : decide (500 < (s.size : Int)) = false := dec_f (by omega)
    cases hsh : isShort L
    · have S1 := Lib.hid (S.out false hsh)
      clear hsh S hx hL
      go_enter Tryd.func4, Tryd.ntmps4
      go_wp2_with fail
      refine S1.out.mono ?_; rintro e w1 ⟨rfl, rfl⟩
      go_wp2_with fail
      refine (AW.out _ HM.out).mono ?_; rintro e w1 ⟨rfl, hb1⟩
      go_wp2
      go_ret
      exact ⟨rfl, hb1⟩
    · have S1 := Lib.hid (S.out true hsh)
      obtain ⟨b1, b2, b3⟩ := short_bd hsh
      have l1 := split_len s.data.toList
      have l2 := text_split_len s.data.toList
      have l3 : s.data.toList.length = s.size := by simp
      have TS := text_same s
      have T0 := Lib.hid (fun w (h : Strs w A L) => text_any A c L w h (by omega) (by omega))
      have K1 := Lib.hid (fun w h => split_any (txt (Ln.text L)) w h (by rw [txt_size]; omega))
      rw [txt_toList, Ln.whole_text] at K1
      have K2 := Lib.hid (fun w h => split_any s w h (by omega))
      obtain ⟨P, hP⟩ : ∃ P, Ln.split s.data.toList = P := ⟨_, rfl⟩
      obtain ⟨q, hq⟩ : ∃ q, Ln.whole s.data.toList = q := ⟨_, rfl⟩
      rw [hP, hq] at K2 TS
      rw [hP] at l1 l2
      have hp : P.length ≤ 1000000 := by omega
      have hp2 : (Ln.text P).length ≤ 1000000 := by omega
      have ST := Lib.hid (fun (h : L.all no10 = true) => Ln.split_text L (all_no10 h))
      obtain ⟨R, hR⟩ : ∃ R, Ln.split (Ln.text L) = R := ⟨_, rfl⟩
      rw [hR] at K1 ST
      have HTS := Lib.hid TS
      have HX := Lib.hid (fun j (hj : j < L.length) => hx _ (List.getElem_mem hj))
      clear hsh S hP hq l1 l2 l3 b2 b3 hlong hR TS hx hL
      go_enter Tryd.func4, Tryd.ntmps4
      go_wp2_with fail
      refine S1.out.mono ?_; rintro e w1 ⟨rfl, rfl⟩
      go_wp2_with fail
      go_loop [5, 6] (fun g i => ∃ (j : Nat) (b : Bool), j ≤ L.length ∧ i = .int .i64 j ∧ g = .bool b ∧ (L.take j).all no10 = b) (fun _ i => L.length - (intOf i).toNat)
      case atStart => exact ⟨0, true, Nat.zero_le _, rfl, rfl, rfl⟩
      case round =>
        obtain ⟨j, b, hj, rfl, rfl, hb⟩ := hrel
        have HB := Lib.hid hb
        clear hb
        by_cases hlt : j < L.length
        · have hat := all_take L j hlt
          obtain ⟨a, rfl, _, hc⟩ := HL.out.cell hlt
          have hsz := HX.out j hlt
          unfold maxLen at hsz
          obtain ⟨u, hu⟩ : ∃ u, txt L[j] = u := ⟨_, rfl⟩
          have hus : u.size = L[j].length := by rw [← hu, txt_size]
          have hud : L[j] = u.data.toList := by rw [← hu, txt_toList]
          rw [str, hu] at hc
          rw [hud] at hat
          have hus2 : u.size ≤ 9223372036854775807 := by omega
          have HAT := Lib.hid hat
          clear hat hus hud hu hsz
          go_wp2
          go_loop [5, 7] (fun g i => ∃ (k : Nat) (b2 : Bool), k ≤ u.size ∧ i = .int .i64 k ∧ g = .bool b2 ∧ (b && no10 (u.data.toList.take k)) = b2) (fun _ i => u.size - (intOf i).toNat)
          case atStart => exact ⟨0, b, Nat.zero_le _, rfl, rfl, by simp [no10]⟩
          case round =>
            obtain ⟨k, b2, hk, rfl, rfl, hb2⟩ := hrel
            have HB2 := Lib.hid hb2
            clear hb2
            by_cases hlt2 : k < u.size
            · have hn := no10_take u k hlt2
              have he := ne10 u[k]
              obtain ⟨z, hz⟩ : ∃ z, decide (u[k] ≠ 10) = z := ⟨_, rfl⟩
              rw [hz] at hn he
              have HN := Lib.hid hn
              clear hn hz
              cases b2
              · go_wp2
                go_round
                case rel => exact ⟨k + 1, false, by omega, by go_num, rfl, by rw [HN.out, ← Bool.and_assoc, HB2.out]; rfl⟩
                case measure => simp [intOf]; omega
              · cases z
                all_goals
                  go_wp2
                  go_round
                  case rel => exact ⟨k + 1, _, by omega, by go_num, rfl, by rw [HN.out, ← Bool.and_assoc, HB2.out]; rfl⟩
                  case measure => simp [intOf]; omega
            · go_wp2
              go_round
              case rel => exact ⟨j + 1, b2, by omega, by go_num, rfl, by rw [HAT.out, HB.out, ← HB2.out, List.take_of_length_le (by simp; omega)]⟩
              case measure => simp [intOf]; omega
        · have HB2 : Hid (L.all no10 = b) := by
            have := HB.out
            rw [List.take_of_length_le (by omega)] at this
            exact Lib.hid this
          clear HB
          go_wp2_with fail
          refine (T0.out _ HL.out).mono ?_; rintro e w1 ⟨rfl, hb1⟩
          have HM1 := Lib.hid (HM.out.below rfl hb1)
          go_wp2_with fail
          refine (K1.out _ HM1.out).mono ?_; rintro e w2 ⟨A2, c2, _, rfl, hs2, hb2⟩
          have HM2 := Lib.hid (HM1.out.below rfl hb2)
          have B2 := Lib.hid (hb1.trans (hb2.mono hb1.size))
          go_wp2_with fail
          refine (K2.out _ HM2.out).mono ?_; rintro e w3 ⟨A3, c3, _, rfl, hs3, hb3⟩
          have HM3 := Lib.hid (HM2.out.below rfl hb3)
          have B3 := Lib.hid (B2.out.trans (hb3.mono B2.out.size))
          go_wp2_with fail
          refine (AW.out _ HM3.out).mono ?_; rintro e w4 ⟨rfl, hb4⟩
          have B4 := Lib.hid (B3.out.trans (hb4.mono B3.out.size))
          have X2 := Lib.hid ((hs2.below rfl hb3).below rfl hb4)
          have X3 := Lib.hid (hs3.below rfl hb4)
          have TP := Lib.hid (fun w h => text_any A3 c3 P w h hp (by omega))
          clear hs2 hs3 hb1 hb2 hb3 hb4 HM HM1 HM2 HM3 B2 B3 K1 K2 T0 S1
          cases b
          · go_wp2_with fail
            refine (TP.out _ X3.out).mono ?_; rintro e w5 ⟨rfl, hb5⟩
            have hts := HTS.out
            cases q
            all_goals
              go_wp2
              go_ret
              exact ⟨rfl, B4.out.trans (hb5.mono B4.out.size)⟩
          · have hRL := ST.out HB2.out
            subst hRL
            have hlr : R.length ≤ 1000000 := by omega
            go_wp2_with fail
            refine (same_yes A2 A c2 c R w4 X2.out (HL.out.below rfl B4.out) hlr).mono ?_; rintro e w5 ⟨rfl, hb5⟩
            have B5 := Lib.hid (B4.out.trans (hb5.mono B4.out.size))
            have X3b := Lib.hid (X3.out.below rfl hb5)
            clear hb5
            go_wp2_with fail
            refine (TP.out _ X3b.out).mono ?_; rintro e w6 ⟨rfl, hb6⟩
            have hts := HTS.out
            cases q
            all_goals
              go_wp2
              go_ret
              exact ⟨rfl, B5.out.trans (hb6.mono B5.out.size)⟩
end Go.Proofs.YthkijjlhecpecaaDoor
