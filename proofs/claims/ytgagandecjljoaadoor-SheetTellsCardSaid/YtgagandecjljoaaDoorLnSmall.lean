/-
  The walks of the small functions of layer 2 and of its laws' helpers: seen, worded, short, same.
-/
import Derived.Test.YtgagandecjljoaaDoorAppK
import Derived.Test.YtgagandecjljoaaDoorLnMem
namespace Go.Proofs.YtgagandecjljoaaDoor
open Go.RowKit

set_option maxHeartbeats 400000 in
theorem seen_any (c : UInt8) (w : World) :
    Calls Tryd.prog 57 #[.int .u8 c.toNat] w fun e w' => e = .returned (.bool (Ln.okw c)) ∧ w' = w := by
  go_enter Tryd.func57, Tryd.ntmps57
  go_wp2
  all_goals (go_ret; refine ⟨retB ?_, rfl⟩; rw [Bool.eq_iff_iff]; simp [Ln.okw]; try omega)

theorem byte32 {c : UInt8} : ((c.toNat : Int) == 32) = true ↔ c = 32 := by
  rw [beq_iff_eq]
  constructor
  · intro h; exact UInt8.toNat_inj.mp (by simpa using Int.ofNat.inj h)
  · rintro rfl; rfl
/-- The three ways of a byte, as the walk spells the tests. -/
theorem byte_cases (c : UInt8) : (((c.toNat : Int) == (((⟨#[32]⟩ : ByteArray)[0]'(by decide)).toNat : Int)) = true ∧ ((c.toNat : Int) != (((⟨#[32]⟩ : ByteArray)[0]'(by decide)).toNat : Int)) = false ∧ c = 32) ∨
    (((c.toNat : Int) == (((⟨#[32]⟩ : ByteArray)[0]'(by decide)).toNat : Int)) = false ∧ ((c.toNat : Int) != (((⟨#[32]⟩ : ByteArray)[0]'(by decide)).toNat : Int)) = true ∧ Ln.okw c = true ∧ c ≠ 32) ∨
    (((c.toNat : Int) == (((⟨#[32]⟩ : ByteArray)[0]'(by decide)).toNat : Int)) = false ∧ ((c.toNat : Int) != (((⟨#[32]⟩ : ByteArray)[0]'(by decide)).toNat : Int)) = true ∧ Ln.okw c = false ∧ c ≠ 32) := by
  by_cases h : c = 32
  · subst h; exact Or.inl ⟨by decide, by decide, rfl⟩
  · have h1 : ((c.toNat : Int) == (((⟨#[32]⟩ : ByteArray)[0]'(by decide)).toNat : Int)) = false := by
      rw [Bool.eq_false_iff]; exact fun e => h (byte32.mp e)
    have h2 : ((c.toNat : Int) != (((⟨#[32]⟩ : ByteArray)[0]'(by decide)).toNat : Int)) = true := by rw [bne, h1]; rfl
    cases ho : Ln.okw c
    · exact Or.inr (Or.inr ⟨h1, h2, rfl, h⟩)
    · exact Or.inr (Or.inl ⟨h1, h2, rfl, h⟩)
theorem seen_of (c : UInt8) (b : Bool) (h : Ln.okw c = b) (w : World) : Calls Tryd.prog 57 #[.int .u8 c.toNat] w fun e w' => e = .returned (.bool b) ∧ w' = w := by
  subst h; exact seen_any c w
theorem ws_blank (s : ByteArray) (k : Nat) (hk : k < s.size) (h : s[k] = 32) (p : Bool) : Ln.ws p (s.data.toList.drop k) = if p then false else Ln.ws true (s.data.toList.drop (k + 1)) := by
  rw [drop_cons s k hk, Ln.ws_cons, if_pos h]
theorem ws_word (s : ByteArray) (k : Nat) (hk : k < s.size) (h : s[k] ≠ 32) (p : Bool) : Ln.ws p (s.data.toList.drop k) = if Ln.okw s[k] then Ln.ws false (s.data.toList.drop (k + 1)) else false := by
  rw [drop_cons s k hk, Ln.ws_cons, if_neg h]
theorem toList_inj {x y : List UInt8} (h : (txt x).toList = (txt y).toList) : x = y := by
  rw [ByteArray.toList_eq, ByteArray.toList_eq, txt_toList, txt_toList] at h
  exact h
def isShort (L : List (List UInt8)) : Bool := decide (L.length ≤ 20) && L.all fun x => decide (x.length ≤ 50)

set_option maxHeartbeats 1000000 in
theorem worded_any (s : ByteArray) (w : World) (hs : s.size ≤ maxLen) :
    Calls Tryd.prog 46 #[.string s] w fun e w' => e = .returned (.bool (Ln.ws true s.data.toList)) ∧ Below w.heap.size w w' := by
  unfold maxLen at hs
  go_enter Tryd.func46, Tryd.ntmps46
  go_wp2
  go_loopw [3, 7] (fun p i wr => ∃ (k : Nat) (b : Bool), k ≤ s.size ∧ i = .int .i64 k ∧ p = .bool b ∧ Ln.ws b (s.data.toList.drop k) = Ln.ws true s.data.toList ∧ Below w.heap.size w wr) (fun _ i _ => s.size - (intOf i).toNat)
  case atStart => exact ⟨0, true, Nat.zero_le _, rfl, rfl, by simp, Below.refl _ _⟩
  case round =>
    obtain ⟨k, b, hk, rfl, rfl, hws, hbel⟩ := hrel
    have HW := Lib.hid hws
    clear hws
    by_cases hlt : k < s.size
    · rcases byte_cases s[k] with ⟨h1, h2, h3⟩ | ⟨h1, h2, h3, h4⟩ | ⟨h1, h2, h3, h4⟩
      · have C := Lib.hid (seen_of 32 false rfl)
        have HE := Lib.hid (ws_blank s k hlt h3 b)
        clear h3
        cases b
        · go_wp2
          go_quiet ((go_at_call 57; exact Calls.quiet_of_same (C.out _)))
          go_wp2
          go_quiet ((go_at_call 57; exact Calls.quiet_of_same (C.out _)))
          go_wp2
          go_quiet ((go_at_call 57; exact Calls.quiet_of_same (C.out _)))
          go_wp2
          go_roundw
          case rel => exact ⟨k + 1, true, by omega, by go_num, rfl, by rw [← HW.out, HE.out]; rfl, below_drewN hbel _⟩
          case measure => simp [intOf]; omega
        · go_wp2
          go_quiet ((go_at_call 57; exact Calls.quiet_of_same (C.out _)))
          go_wp2
          go_quiet ((go_at_call 57; exact Calls.quiet_of_same (C.out _)))
          go_wp2
          go_ret
          exact ⟨retB (by rw [← HW.out, HE.out]; rfl), below_of_drewN hbel _ _ 0⟩
      · have C := Lib.hid (seen_of s[k] true h3)
        have HE := Lib.hid (ws_word s k hlt h4 b)
        have H3 := Lib.hid h3
        clear h3 h4
        go_wp2
        go_quiet ((go_at_call 57; exact Calls.quiet_of_same (C.out _)))
        go_wp2
        go_quiet ((go_at_call 57; exact Calls.quiet_of_same (C.out _)))
        go_wp2
        go_quiet ((go_at_call 57; exact Calls.quiet_of_same (C.out _)))
        go_wp2
        go_roundw
        case rel => exact ⟨k + 1, false, by omega, by go_num, rfl, by rw [← HW.out, HE.out, H3.out]; rfl, below_drewN hbel _⟩
        case measure => simp [intOf]; omega
      · have C := Lib.hid (seen_of s[k] false h3)
        have HE := Lib.hid (ws_word s k hlt h4 b)
        have H3 := Lib.hid h3
        clear h3 h4
        go_wp2
        go_quiet ((go_at_call 57; exact Calls.quiet_of_same (C.out _)))
        go_wp2
        go_ret
        exact ⟨retB (by rw [← HW.out, HE.out, H3.out]; rfl), below_of_drewN hbel _ 0 0⟩
    · go_wp2
      go_ret
      refine ⟨retB ?_, hbel⟩
      rw [← HW.out, List.drop_of_length_le (by simp; omega)]; rfl

end Go.Proofs.YtgagandecjljoaaDoor

