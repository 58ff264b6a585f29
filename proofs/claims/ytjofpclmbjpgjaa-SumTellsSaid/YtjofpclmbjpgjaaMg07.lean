/-
  Texts of this claim, merged: SumTellsWalk.
-/
import Derived.Test.YtjofpclmbjpgjaaMg06
/-
  The walk of the law SumTells: it returns true.
-/
namespace Go.Proofs.Ytjofpclmbjpgjaa
open Go.RowKit

theorem put_defers (a : Act) (d : Option Tmp) (v : Value) : (a.put d v).defers = a.defers := by cases d <;> rfl
theorem put_size (a : Act) (d : Option Tmp) (v : Value) : (a.put d v).tmps.size = a.tmps.size := by cases d <;> simp [Act.put]
/-- A return behind a region whose last act lays the result. -/
theorem post_put {P : Program} {fn : Func} {R : Ending → World → Prop} {a : Act} {d : Option Tmp} {v : Value} {t : Tmp} {w : World} (hr : fn.results = #[.tmp t]) (hd : d = some t) (hs : t < a.tmps.size) (hf : a.defers = []) (hR : R (.returned v) w) :
    bodyPost P fn R .ret (a.put d v) w := by
  subst hd
  refine bodyPost_ret (results_tmp hr _ _ _) (by rw [put_defers]; exact hf) ?_
  have e : (a.put (some t) v).tmps.getD t undef = v := by simp [Act.put, hs]
  rw [e]
  exact hR
set_option maxHeartbeats 16000000 in
set_option maxRecDepth 100000 in
theorem sumTells_walk (A : Option Addr) (c n : Nat) (L : List Nat) (W : World)
    (hn : L.length = n) (hL : LBt.Row W A L) (hc : n ≤ c) (_hl : n ≤ maxLen) (hb : Sm.Bytes L) :
    Calls Try.prog 3 #[.slice A n c] W fun e w' => e = .returned (.bool true) ∧ Below W.heap.size W w' := by
  --[
  subst hn
  have HL := Lib.hid hL
  have AW := Lib.hid (fun W => smAwake_any W)
  have X0 := Lib.hid (Below.refl W.heap.size W)
  clear hL
  by_cases g1 : 300 < L.length
  · have D1 : decide (300 < (L.length : Int)) = true := dec_t (by omega)
    go_enter Try.func3, Try.ntmps3
    go_wp2_with fail
    refine (AW.out _).mono ?_; rintro e w8 ⟨rfl, hb8⟩
    go_wp2_with fail
    go_ret
    exact ⟨rfl, hb8⟩
  have D1 : decide (300 < (L.length : Int)) = false := dec_f (by omega)
  have C1 := Lib.hid (fun W' (h : Below W.heap.size W W') => spOpen_any A c L W' (HL.out.below rfl h) hb (by omega) hc)
  have C2 := Lib.hid (fun W' (h : Below W.heap.size W W') => srOpen_any A c L W' (HL.out.below rfl h) hb (by omega) hc)
  have C3 := Lib.hid (fun W' (h : Below W.heap.size W W') => spOf_any A c L W' (HL.out.below rfl h) hb (by omega))
  have C4 := Lib.hid (fun W' (h : Below W.heap.size W W') => srOf_any A c L W' (HL.out.below rfl h) hb (by omega))
  have C5 := Lib.hid (fun W' (h : Below W.heap.size W W') => spSeal_any A c L W' (HL.out.below rfl h) hb (by omega))
  have C6 := Lib.hid (fun W' (h : Below W.heap.size W W') => srSeal_any A c L W' (HL.out.below rfl h) hb (by omega))
  clear g1 hb hc _hl
  generalize Sm.of L = s at C3 C4
  generalize Sm.good L = z at C1 C2
  generalize Sm.opened L = M at C1 C2
  generalize Sm.sealed L = K at C5 C6
  go_enter Try.func3, Try.ntmps3
  go_wp2_with fail
  refine (C1.out _ X0.out).mono ?_; rintro e w1 ⟨B1, d1, rfl, hr1, -, hb1⟩
  have X1 := Lib.hid (show Below W.heap.size W w1 from hb1)
  have R1 := Lib.hid hr1
  clear hb1 hr1
  go_wp2_with fail
  refine (C2.out _ X1.out).mono ?_; rintro e w2 ⟨B2, d2, rfl, hr2, -, hb2⟩
  have X2 := Lib.hid (X1.out.trans (hb2.mono X1.out.size))
  have R2 := Lib.hid hr2
  have R1' := Lib.hid (R1.out.below rfl hb2)
  clear hb2 hr2 R1 X1 C1 C2
  have U2 := Lib.hid (Below.refl w2.heap.size w2)
  go_upto_region 5 with fail
  go_region_with (first
    | (go_at_call 7
       (with_reducible refine (AW.out _).mono ?_)
       rintro e0 z0 ⟨rfl, hb0⟩
       have h0 := Lib.hid (show Below w2.heap.size w2 z0 from U2.out.drew.trans hb0)
       clear hb0)
    | (go_at_call 10; (with_reducible refine (C3.out _ (X2.out.trans (h0.out.mono X2.out.size))).mono ?_); rintro e1 z1 ⟨rfl, rfl⟩)
    | (go_at_call 11; (with_reducible refine (C4.out _ (X2.out.trans (h0.out.mono X2.out.size))).mono ?_); rintro e1 z1 ⟨rfl, rfl⟩)
    | (go_at_call 12
       (with_reducible refine (C5.out _ (X2.out.trans (h6.out.mono X2.out.size))).mono ?_)
       rintro e5 z5 ⟨v5, rfl, ho5, hb5⟩
       obtain ⟨-, B5, d5, rfl, -, hR5⟩ := Lies.Row.of_own (E := LBt) ho5
       have HR5 := Lib.hid hR5
       have h5 := Lib.hid (h6.out.trans (hb5.mono h6.out.size))
       have t5 := run_text hR5 d5
       have t65 := run_text (HR6.out.below rfl hb5) d6
       have tx5 := run_text (R1'.out.below rfl h5.out) d1
       have ty5 := run_text (R2.out.below rfl h5.out) d2
       clear ho5 hb5 hR5)
    | (go_at_call 12
       (with_reducible refine (C5.out _ (X2.out.trans (h0.out.mono X2.out.size))).mono ?_)
       rintro e5 z5 ⟨v5, rfl, ho5, hb5⟩
       obtain ⟨-, B5, d5, rfl, -, hR5⟩ := Lies.Row.of_own (E := LBt) ho5
       have HR5 := Lib.hid hR5
       have h5 := Lib.hid (h0.out.trans (hb5.mono h0.out.size))
       have t5 := run_text hR5 d5
       have tx5 := run_text (R1'.out.below rfl h5.out) d1
       have ty5 := run_text (R2.out.below rfl h5.out) d2
       clear ho5 hb5 hR5)
    | (go_at_call 13
       (with_reducible refine (C6.out _ (X2.out.trans (h5.out.mono X2.out.size))).mono ?_)
       rintro e6 z6 ⟨v6, rfl, ho6, hb6⟩
       obtain ⟨-, B6, d6, rfl, -, hR6⟩ := Lies.Row.of_own (E := LBt) ho6
       have HR6 := Lib.hid hR6
       have h6 := Lib.hid (h5.out.trans (hb6.mono h5.out.size))
       have t6 := run_text hR6 d6
       have t56 := run_text (HR5.out.below rfl hb6) d5
       have tx6 := run_text (R1'.out.below rfl h6.out) d1
       have ty6 := run_text (R2.out.below rfl h6.out) d2
       clear ho6 hb6 hR6)
    | (go_at_call 13
       (with_reducible refine (C6.out _ (X2.out.trans (h0.out.mono X2.out.size))).mono ?_)
       rintro e6 z6 ⟨v6, rfl, ho6, hb6⟩
       obtain ⟨-, B6, d6, rfl, -, hR6⟩ := Lies.Row.of_own (E := LBt) ho6
       have HR6 := Lib.hid hR6
       have h6 := Lib.hid (h0.out.trans (hb6.mono h0.out.size))
       have t6 := run_text hR6 d6
       have tx6 := run_text (R1'.out.below rfl h6.out) d1
       have ty6 := run_text (R2.out.below rfl h6.out) d2
       clear ho6 hb6 hR6))
  all_goals rename_i KK kk
  all_goals (refine kk _ _ ?_)
  all_goals go_wp2_with fail
  all_goals first
    | exact post_put rfl rfl (by simp only [put_size]; exact Nat.le_of_ble_eq_true rfl) (by simp only [put_defers]) ⟨rfl, X2.out.trans (h6.out.mono X2.out.size)⟩
    | exact post_put rfl rfl (by simp only [put_size]; exact Nat.le_of_ble_eq_true rfl) (by simp only [put_defers]) ⟨rfl, X2.out.trans (h5.out.mono X2.out.size)⟩
  --]
end Go.Proofs.Ytjofpclmbjpgjaa
