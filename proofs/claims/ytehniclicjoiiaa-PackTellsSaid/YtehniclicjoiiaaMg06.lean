/-
  Texts of this claim, merged: PkAwake.
-/
import Derived.Test.YtehniclicjoiiaaMg05
/-
  The document's examples, as layer 17's laws call them.
-/
namespace Go.Proofs.Ytehniclicjoiiaa
open Go.RowKit

theorem row_block {w : World} {A : Option Addr} {L : List Nat} (h : LBt.Row w A L) (hn : 0 < L.length) : ∀ a, A = some a → a.block < w.heap.size := fun a ha => by
  obtain ⟨b, o, h1, h2, -⟩ := bt_at h hn
  rw [ha] at h1
  cases h1
  exact h2
/-- A cursor that is new. -/
theorem cur_new (w : World) (t : TypeId) (A : Option Addr) (n c : Nat) (p : Int) (bad : Bool) : (w.alloc (curO t A n c p bad)).heap[w.heap.size]? = some (curO t A n c p bad) := heap_alloc_new w _
def exB : List Nat := [0, 1, 2, 2, 97, 98]
theorem ex1 : Pk.put [] 258 3 = [0, 1, 2] := by kernel_rfl
theorem ex2 : Pk.name [0, 1, 2] (sbytes ⟨#[97, 98]⟩) = exB := by kernel_rfl
theorem ex3 : Pk.num exB 0 false 3 = 258 ∧ Pk.numAt exB 0 false 3 = 3 ∧ Pk.fits exB 0 false 3 = true := ⟨by kernel_rfl, by kernel_rfl, by kernel_rfl⟩
theorem ex4 : Pk.text exB 3 false = [97, 98] ∧ Pk.textAt exB 3 false = 6 ∧ Pk.fitsT exB 3 false = true := ⟨by kernel_rfl, by kernel_rfl, by kernel_rfl⟩
theorem ex5 : Pk.num exB 6 false 1 = 0 ∧ Pk.numAt exB 6 false 1 = 6 ∧ Pk.fits exB 6 false 1 = false := ⟨by kernel_rfl, by kernel_rfl, by kernel_rfl⟩
theorem ex6 : (btext exB).toList = [0, 1, 2, 2, 97, 98] := by rw [ByteArray.toList_eq]; rfl
theorem ex7 : (btext [97, 98]).toList = [97, 98] := by rw [ByteArray.toList_eq]; rfl
theorem ex8 : Sm.Bytes exB := fun x hx => by
  have : (exB.all fun x => decide (x < 256)) = true := by kernel_rfl
  exact of_decide_eq_true (List.all_eq_true.1 this x hx)
set_option maxHeartbeats 8000000 in
set_option maxRecDepth 100000 in
theorem pkAwake_any (w : World) : Calls Try.prog 6 #[] w (OneIs (.bool true) w) := by
  --[
  have C1 := Lib.hid (show Calls Try.prog 11 #[.slice none 0 0, .int .u64 258, .int .i64 3] w (BtOwn [0, 1, 2] w) from by
    have := pkPut_any none 0 [] 258 3 w (.inl rfl) (by decide) (by decide)
    rwa [ex1] at this)
  have C9 := Lib.hid (fun W => show Calls Try.prog 11 #[.slice none 0 0, .int .u64 7, .int .i64 0] W (BtOwn [] W) from
    pkPut_any none 0 [] 7 0 W (.inl rfl) (by decide) (by decide))
  go_enter Try.func6, Try.ntmps6
  go_wp2_with fail
  refine C1.out.mono ?_; rintro e w1 ⟨v1, rfl, ho1, hb1⟩
  obtain ⟨-, B1, d1, rfl, -, hR1⟩ := Lies.Row.of_own (E := LBt) ho1
  have C2 := Lib.hid (show Calls Try.prog 13 #[.slice B1 3 d1, .string ⟨#[97, 98]⟩] w1 (BtOwn exB w1) from by
    have := pkPutName_any B1 d1 [0, 1, 2] ⟨#[97, 98]⟩ w1 hR1 (by decide) (by decide)
    rwa [ex2] at this)
  have X1 := Lib.hid hb1
  clear ho1 hb1 hR1 C1
  go_wp2_with fail
  refine C2.out.mono ?_; rintro e w2 ⟨v2, rfl, ho2, hb2⟩
  obtain ⟨-, B2, d2, rfl, hd2, hR2⟩ := Lies.Row.of_own (E := LBt) ho2
  have X2 := Lib.hid (X1.out.trans (hb2.mono X1.out.size))
  have K2 := Lib.hid (row_block hR2 (by decide))
  have R2 := Lib.hid hR2
  have D2 := Lib.hid (show 6 ≤ d2 from hd2)
  clear ho2 hb2 hR2 hd2 C2 X1
  have X3 := Lib.hid (X2.out.alloc X2.out.size (curO 26 B2 6 d2 0 false))
  have R3 := Lib.hid (R2.out.below rfl ((Below.refl w2.heap.size w2).alloc (Nat.le_refl _) (curO 26 B2 6 d2 0 false)))
  have G3 := Lib.hid (cur_new w2 26 B2 6 d2 0 false)
  have A3 := Lib.hid (fun a ha (_ : exB ≠ []) => Nat.ne_of_lt (K2.out a ha))
  have GW := Lib.hid (show w.heap.size ≤ w2.heap.size from X2.out.size)
  have C3 := Lib.hid (show Calls Try.prog 9 #[.pointer (some ⟨w2.heap.size, 0, none⟩), .int .i64 3] (w2.alloc (curO 26 B2 6 d2 0 false)) (CurIs w2.heap.size (curO 26 B2 6 d2 3 false) (.int .u64 258) (w2.alloc (curO 26 B2 6 d2 0 false))) from by
    have := pkTake_any B2 d2 exB (w2.alloc (curO 26 B2 6 d2 0 false)) w2.heap.size 0 false 3 R3.out ex8 (by decide) D2.out (by omega) (by decide) G3.out
    rwa [ex3.1, ex3.2.1, ex3.2.2] at this)
  clear R2 K2
  go_wp2_with fail
  refine C3.out.mono ?_; rintro e w4 ⟨rfl, hg4, hk4⟩
  have R4 := Lib.hid (hk4.row A3.out R3.out)
  have X4 := Lib.hid (hk4.below GW.out X3.out)
  have C4 := Lib.hid (show Calls Try.prog 7 #[.pointer (some ⟨w2.heap.size, 0, none⟩)] w4 (CurIs w2.heap.size (curO 26 B2 6 d2 6 false) (.string (btext [97, 98])) w4) from by
    have := pkName_any B2 d2 exB w4 w2.heap.size 3 false R4.out ex8 (by decide) D2.out (by omega) hg4
    rwa [ex4.1, ex4.2.1, ex4.2.2] at this)
  clear hg4 hk4 C3 R3 X3 G3
  go_wp2_with fail
  refine C4.out.mono ?_; rintro e w5 ⟨rfl, hg5, hk5⟩
  have R5 := Lib.hid (hk5.row A3.out R4.out)
  have X5 := Lib.hid (hk5.below GW.out X4.out)
  have C5 := Lib.hid (show Calls Try.prog 9 #[.pointer (some ⟨w2.heap.size, 0, none⟩), .int .i64 1] w5 (CurIs w2.heap.size (curO 26 B2 6 d2 6 true) (.int .u64 0) w5) from by
    have := pkTake_any B2 d2 exB w5 w2.heap.size 6 false 1 R5.out ex8 (by decide) D2.out (by omega) (by decide) hg5
    rwa [ex5.1, ex5.2.1, ex5.2.2] at this)
  obtain ⟨-, c1, -⟩ := cur_cells hg5
  clear hg5 hk5 C4 R4 X4
  go_wp2_with fail
  refine C5.out.mono ?_; rintro e w6 ⟨rfl, hg6, hk6⟩
  have R6 := Lib.hid (hk6.row A3.out R5.out)
  have X6 := Lib.hid (hk6.below GW.out X5.out)
  obtain ⟨-, k1, k2⟩ := cur_cells hg6
  have t1 := run_text R6.out d2
  have t2 := ex6
  have t3 := ex7
  clear hg6 hk6 C5 R5 X5 c1
  go_wp2_with fail
  refine (C9.out _).mono ?_; rintro e w7 ⟨v7, rfl, ho7, hb7⟩
  obtain ⟨-, B7, d7, rfl, -, -⟩ := Lies.Row.of_own (E := LBt) ho7
  have X7 := Lib.hid (X6.out.trans (hb7.mono X6.out.size))
  clear ho7 hb7
  go_wp2_with fail
  go_ret
  exact ⟨rfl, X7.out⟩
  --]
end Go.Proofs.Ytehniclicjoiiaa
