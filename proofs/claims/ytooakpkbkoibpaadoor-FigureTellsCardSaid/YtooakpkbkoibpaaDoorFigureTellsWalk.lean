/-
  The walk of the law FigureTells: it returns true.
-/
import Derived.Test.YtooakpkbkoibpaaDoorFigureBackWalk
namespace Go.Proofs.YtooakpkbkoibpaaDoor
open Go.RowKit

theorem u8_wrap (n : Int) : IntKind.u8.wrap n = ((UInt8.ofNat (n % 256).toNat).toNat : Int) := by
  have e : IntKind.u8.wrap n = n % 256 := by
    unfold IntKind.wrap; simp [IntKind.bits, IntKind.signed]
  rw [e, UInt8.toNat_ofNat']
  omega
theorem rparse_of (s : ByteArray) (most n : Int) (b : Bool) (hs : s.size ≤ maxLen) (hn : Fig.parseN s.data.toList most = n) (hb : Fig.parseB s.data.toList most = b) (w : World) :
    Calls Tryd.prog 9 #[.string s, .int .i64 most] w fun e w' => e = .returned (.tuple #[.int .i64 n, .bool b]) ∧ w = w' := by
  subst hn hb; exact rparse_any s most w hs
theorem rname_c (s : ByteArray) (b : Bool) (hs : s.size ≤ maxLen) (hb : Fig.nameB s.data.toList = b) (w : World) :
    Calls Tryd.prog 15 #[.string s] w fun e w' => e = .returned (.bool b) ∧ w = w' := by
  subst hb; exact rname_any s w hs
theorem digit_w (n : Int) (b : Bool) (hb : Fig.dig (UInt8.ofNat (n % 256).toNat) = b) (w : World) :
    Calls Tryd.prog 12 #[.int .u8 (IntKind.u8.wrap n)] w fun e w' => e = .returned (.bool b) ∧ w = w' := by
  subst hb; rw [u8_wrap]; exact digit_any _ w
theorem rdigit_w (n : Int) (b : Bool) (hb : Fig.dig (UInt8.ofNat (n % 256).toNat) = b) (w : World) :
    Calls Tryd.prog 13 #[.int .u8 (IntKind.u8.wrap n)] w fun e w' => e = .returned (.bool b) ∧ w = w' := by
  subst hb; rw [u8_wrap]; exact rdigit_any _ w

set_option maxHeartbeats 1000000 in
theorem figureTells_walk (n : Int) (s : ByteArray) (m : Int) (W : World) (wn : (Lit.int .i64 n).wf = true) (ws : s.size ≤ maxLen) (_wm : (Lit.int .i64 m).wf = true)
    (htab : Lib.TabIs Tryd.prog W "internal/strconv.uint64pow10" .u64 Lib.pow10Tab) :
    Calls Tryd.prog 3 #[.int .i64 n, .string s, .int .i64 m] W fun e w' => e = .returned (.bool true) ∧ Below W.heap.size W w' := by
  have bn := wf_i64 wn
  have hs' := ws
  unfold maxLen at ws
  have A := Lib.hid (awake_any W htab)
  have T := Lib.hid htab
  clear htab wn _wm
  by_cases hl : 300 < s.size
  · have h1 : decide (300 < (s.size : Int)) = true := dec_t (by omega)
    clear hl hs' bn
    go_enter Tryd.func3, Tryd.ntmps3
    go_wp2_with (go_at_call 7; refine A.out.mono ?_; rintro e w' ⟨rfl, hb⟩)
    go_ret
    exact ⟨rfl, hb⟩
  · have h1 : decide (300 < (s.size : Int)) = false := dec_f (by omega)
    obtain ⟨k, b, d, x, hk, hb, hd, hx⟩ : ∃ (k : Int) (b d x : Bool), Fig.parseN s.data.toList m = k ∧ Fig.parseB s.data.toList m = b ∧ Fig.dig (UInt8.ofNat (n % 256).toNat) = d ∧ Fig.nameB s.data.toList = x := ⟨_, _, _, _, rfl, rfl, rfl, rfl⟩
    have C1 := Lib.hid (parse_of s m k b hs' hk hb)
    have C2 := Lib.hid (rparse_of s m k b hs' hk hb)
    have C3 := Lib.hid (digit_w n d hd)
    have C4 := Lib.hid (rdigit_w n d hd)
    have C5 := Lib.hid (name_c s x hs' hx)
    have C6 := Lib.hid (rname_c s x hs' hx)
    clear hk hb hd hx hs' hl
    by_cases hn : n < 0
    · have hn' : decide (n < 0) = true := dec_t hn
      clear hn
      go_enter Tryd.func3, Tryd.ntmps3
      go_wp2_with fail
      refine (C1.out _).mono ?_; rintro e w' ⟨rfl, rfl⟩
      go_wp2_with fail
      refine (C2.out _).mono ?_; rintro e w' ⟨rfl, rfl⟩
      go_wp2_with fail
      refine A.out.mono ?_; rintro e w1 ⟨rfl, hb1⟩
      go_wp2_with fail
      refine (C3.out _).mono ?_; rintro e w' ⟨rfl, rfl⟩
      go_wp2_with fail
      refine (C4.out _).mono ?_; rintro e w' ⟨rfl, rfl⟩
      go_wp2_with fail
      refine (C5.out _).mono ?_; rintro e w' ⟨rfl, rfl⟩
      go_wp2_with fail
      refine (C6.out _).mono ?_; rintro e w' ⟨rfl, rfl⟩
      go_wp2_with fail
      go_ret
      exact ⟨rfl, hb1⟩
    · have hn' : decide (n < 0) = false := dec_f hn
      go_enter Tryd.func3, Tryd.ntmps3
      go_wp2_with fail
      refine (C1.out _).mono ?_; rintro e w' ⟨rfl, rfl⟩
      go_wp2_with fail
      refine (C2.out _).mono ?_; rintro e w' ⟨rfl, rfl⟩
      go_wp2_with fail
      refine A.out.mono ?_; rintro e w1 ⟨rfl, hb1⟩
      have T1 := Lib.hid (Lib.tabBelow_of_tabIs T.out _ hb1)
      go_wp2_with fail
      refine (print_any n _ (by omega) (by omega) T1.out).mono ?_; rintro e w2 ⟨rfl, hb2⟩
      go_wp2_with fail
      refine (rprint_any n.toNat n _ (by omega) (by omega) (by omega)).mono ?_; rintro e w3 ⟨rfl, hb3⟩
      have hb := (hb1.trans (hb2.mono hb1.size)).trans (hb3.mono (Nat.le_trans hb1.size hb2.size))
      clear hb1 hb2 hb3
      go_wp2_with fail
      refine (C3.out _).mono ?_; rintro e w' ⟨rfl, rfl⟩
      go_wp2_with fail
      refine (C4.out _).mono ?_; rintro e w' ⟨rfl, rfl⟩
      go_wp2_with fail
      refine (C5.out _).mono ?_; rintro e w' ⟨rfl, rfl⟩
      go_wp2_with fail
      refine (C6.out _).mono ?_; rintro e w' ⟨rfl, rfl⟩
      go_wp2_with fail
      go_ret
      exact ⟨rfl, hb⟩
end Go.Proofs.YtooakpkbkoibpaaDoor
