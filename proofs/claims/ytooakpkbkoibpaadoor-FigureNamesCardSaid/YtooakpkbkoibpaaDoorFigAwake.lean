/-
  The document's examples of layer 1, as the statements ask them, hold.
-/
import Derived.Test.YtooakpkbkoibpaaDoorFigNames
import Derived.Test.YtooakpkbkoibpaaDoorFigPrint
namespace Go.Proofs.YtooakpkbkoibpaaDoor
open Go.RowKit

theorem parse_c (s : ByteArray) (n : Int) (b : Bool) (hs : s.size ≤ maxLen) (hn : Fig.parseN s.data.toList 5000 = n) (hb : Fig.parseB s.data.toList 5000 = b) (w : World) :
    Calls Tryd.prog 8 #[.string s, .int .i64 5000] w fun e w' => e = .returned (.tuple #[.int .i64 n, .bool b]) ∧ w = w' := by
  subst hn hb; exact parse_any s 5000 w hs
theorem print_c (n : Int) (s : ByteArray) (h0 : 0 ≤ n) (h1 : n ≤ 9223372036854775807) (hs : (⟨(Lib.decDigits n.toNat).toArray⟩ : ByteArray) = s) (w : World) (htab : Lib.TabIs Tryd.prog w "internal/strconv.uint64pow10" .u64 Lib.pow10Tab) :
    Calls Tryd.prog 10 #[.int .i64 n] w fun e w' => e = .returned (.string s) ∧ Below w.heap.size w w' := by
  subst hs; exact print_any n w h0 h1 htab
theorem digit_c (c : UInt8) (b : Bool) (hb : Fig.dig c = b) (w : World) :
    Calls Tryd.prog 12 #[.int .u8 c.toNat] w fun e w' => e = .returned (.bool b) ∧ w = w' := by
  subst hb; exact digit_any c w
theorem name_c (s : ByteArray) (b : Bool) (hs : s.size ≤ maxLen) (hb : Fig.nameB s.data.toList = b) (w : World) :
    Calls Tryd.prog 14 #[.string s] w fun e w' => e = .returned (.bool b) ∧ w = w' := by
  subst hb; exact name_any s w hs

theorem print4070 : (⟨(Lib.decDigits (4070 : Int).toNat).toArray⟩ : ByteArray) = ⟨#[52, 48, 55, 48]⟩ := by
  rw [show (4070 : Int).toNat = 4070 from rfl]
  simp [Lib.decDigits]
theorem print0 : (⟨(Lib.decDigits (0 : Int).toNat).toArray⟩ : ByteArray) = ⟨#[48]⟩ := by
  rw [show (0 : Int).toNat = 0 from rfl]
  simp [Lib.decDigits]

set_option maxHeartbeats 400000 in
theorem awake_any (w : World) (htab : Lib.TabIs Tryd.prog w "internal/strconv.uint64pow10" .u64 Lib.pow10Tab) :
    Calls Tryd.prog 7 #[] w fun e w' => e = .returned (.bool true) ∧ Below w.heap.size w w' := by
  have p1 := Lib.hid (parse_c ⟨#[49, 50, 48, 48]⟩ 1200 true (by decide) (by decide) (by decide))
  have p2 := Lib.hid (parse_c ⟨#[48, 49, 50, 48]⟩ 0 false (by decide) (by decide) (by decide))
  have p3 := Lib.hid (parse_c ⟨#[53, 48, 48, 49]⟩ 0 false (by decide) (by decide) (by decide))
  have p4 := Lib.hid (parse_c ⟨#[]⟩ 0 false (by decide) (by decide) (by decide))
  have H := Lib.hid htab
  clear htab
  go_enter Tryd.func7, Tryd.ntmps7
  go_wp2_with fail
  refine (p1.out _).mono ?_; rintro e w' ⟨rfl, rfl⟩
  go_wp2_with fail
  refine (p2.out _).mono ?_; rintro e w' ⟨rfl, rfl⟩
  go_wp2_with fail
  refine (p3.out _).mono ?_; rintro e w' ⟨rfl, rfl⟩
  go_wp2_with fail
  refine (p4.out _).mono ?_; rintro e w' ⟨rfl, rfl⟩
  go_wp2_with fail
  refine (print_c 0 ⟨#[48]⟩ (by omega) (by omega) print0 _ H.out).mono ?_; rintro e w1 ⟨rfl, hb1⟩
  have H1 := Lib.hid (Lib.tabBelow_of_tabIs H.out _ hb1)
  go_wp2_with fail
  refine (print_c 4070 ⟨#[52, 48, 55, 48]⟩ (by omega) (by omega) print4070 _ H1.out).mono ?_; rintro e w2 ⟨rfl, hb2⟩
  go_wp2_with fail
  refine (digit_c 55 true (by decide) _).mono ?_; rintro e w' ⟨rfl, rfl⟩
  go_wp2_with fail
  refine (digit_c 120 false (by decide) _).mono ?_; rintro e w' ⟨rfl, rfl⟩
  go_wp2_with fail
  refine (name_c ⟨#[87, 49]⟩ true (by decide) (by decide) _).mono ?_; rintro e w' ⟨rfl, rfl⟩
  go_wp2_with fail
  refine (name_c ⟨#[87, 46, 49]⟩ false (by decide) (by decide) _).mono ?_; rintro e w' ⟨rfl, rfl⟩
  go_wp2_with fail
  refine (name_c ⟨#[]⟩ false (by decide) (by decide) _).mono ?_; rintro e w' ⟨rfl, rfl⟩
  go_wp2_with fail
  refine (name_c ⟨#[97, 98, 99, 100, 101, 102, 103, 104, 105]⟩ false (by decide) (by decide) _).mono ?_; rintro e w' ⟨rfl, rfl⟩
  go_wp2_with fail
  go_ret
  exact ⟨rfl, hb1.trans (hb2.mono hb1.size)⟩
end Go.Proofs.YtooakpkbkoibpaaDoor
