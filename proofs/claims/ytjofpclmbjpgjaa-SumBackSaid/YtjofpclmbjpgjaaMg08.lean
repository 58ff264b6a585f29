/-
  Texts of this claim, merged: SumBackWalk.
-/
import Derived.Test.YtjofpclmbjpgjaaMg06
/-
  The walk of the law SumBack: it returns true.
-/
namespace Go.Proofs.Ytjofpclmbjpgjaa
open Go.RowKit

set_option maxHeartbeats 16000000 in
set_option maxRecDepth 100000 in
theorem sumBack_walk (A : Option Addr) (c n : Nat) (L : List Nat) (W : World)
    (hn : L.length = n) (hL : LBt.Row W A L) (_hc : n ≤ c) (_hl : n ≤ maxLen) (hb : Sm.Bytes L) :
    Calls Try.prog 4 #[.slice A n c] W fun e w' => e = .returned (.bool true) ∧ Below W.heap.size W w' := by
  --[
  subst hn
  have HL := Lib.hid hL
  have AW := Lib.hid (fun W => smAwake_any W)
  by_cases g1 : 300 < L.length
  · have D1 : decide (300 < (L.length : Int)) = true := dec_t (by omega)
    go_enter Try.func4, Try.ntmps4
    go_wp2_with fail
    refine (AW.out _).mono ?_; rintro e w8 ⟨rfl, hb8⟩
    go_wp2_with fail
    go_ret
    exact ⟨rfl, hb8⟩
  have D1 : decide (300 < (L.length : Int)) = false := dec_f (by omega)
  have C1 := Lib.hid (spSeal_any A c L W hL hb (by omega))
  have e1 := Sm.sealed_len L
  have C2 := Lib.hid (fun B d W' h (hd : (Sm.sealed L).length ≤ d) => spOpen_any B d (Sm.sealed L) W' h (Sm.sealed_bytes hb) (by rw [e1]; omega) hd)
  rw [Sm.opened_sealed, Sm.good_sealed] at C2
  have q1 : IntKind.i64.wrap ((L.length : Int) + 4) = (L.length : Int) + 4 := IntWalk.i64_in _ (by omega)
  generalize Sm.sealed L = K at C1 C2 e1
  have D2 := Lib.hid (show ((K.length : Int) == (L.length : Int) + 4) = true from by rw [beq_iff_eq, e1]; rfl)
  clear g1 hb hL e1
  go_enter Try.func4, Try.ntmps4
  go_wp2_with fail
  refine C1.out.mono ?_; rintro e w1 ⟨v, rfl, ho, hb1⟩
  obtain ⟨-, B, d, rfl, hd, hR⟩ := Lies.Row.of_own (E := LBt) ho
  have X1 := Lib.hid hb1
  have C3 := Lib.hid (C2.out B d w1 hR hd)
  clear ho hb1 hd hR C1 C2
  go_wp2_with fail
  refine C3.out.mono ?_; rintro e w2 ⟨B2, d2, rfl, hr2, -, hb2⟩
  have X2 := Lib.hid (X1.out.trans (hb2.mono X1.out.size))
  have R2 := Lib.hid hr2
  clear hb2 hr2 C3 X1
  go_wp2_with fail
  refine (AW.out _).mono ?_; rintro e w3 ⟨rfl, hb3⟩
  have t1 := run_text (R2.out.below rfl hb3) d2
  have X3 := Lib.hid (X2.out.trans (hb3.mono X2.out.size))
  have t2 := run_text (HL.out.below rfl X3.out) c
  clear hb3
  go_wp2_with fail
  go_ret
  exact ⟨by
    show Ending.returned (.bool ((K.length : Int) == (L.length : Int) + 4)) = _
    rw [D2.out], X3.out⟩
  --]
end Go.Proofs.Ytjofpclmbjpgjaa
