/-
  Texts of this claim, merged: SmAwake.
-/
import Derived.Test.YtjofpclmbjpgjaaMg05
import Derived.Lib.SlBytesConst
/-
  The document's examples, as layer 16's laws call them.
-/
namespace Go.Proofs.Ytjofpclmbjpgjaa
open Go.RowKit

theorem smLit (w : World) (L : List Nat) (fr : Nat × Nat) : LBt.Row (w.alloc (.cells (LBt.all L).toArray 5 fr)) (some ⟨w.heap.size, 0, none⟩) L := by
  refine .inr ⟨w.heap.size, 0, rfl, by simp, fun k y hk j v hv => ?_⟩
  have hj : j < LBt.m := by
    have := (List.getElem?_eq_some_iff.1 hv).1
    rwa [LBt.len] at this
  rw [World.cell?_alloc_mark, List.getElem?_toArray, Nat.zero_add, LBt.all_at L k j y hk hj]
  exact hv
theorem Sm.bytes_lit {L : List Nat} (h : (L.all fun x => decide (x < 256)) = true) : Sm.Bytes L := fun x hx => of_decide_eq_true (List.all_eq_true.1 h x hx)
theorem good_abcd : Sm.good [97, 98, 99, 100] = false := by kernel_rfl
theorem good_abc : Sm.good [97, 98, 99] = false := by kernel_rfl
theorem of_digits : Sm.of [49, 50, 51, 52, 53, 54, 55, 56, 57] = 3421780262 := by kernel_rfl
theorem of_none : Sm.of [] = 0 := by kernel_rfl
theorem text_ab : (btext [97, 98]).toList = [97, 98] := by rw [ByteArray.toList_eq]; rfl
set_option maxHeartbeats 8000000 in
set_option maxRecDepth 100000 in
theorem smAwake_any (w : World) : Calls Try.prog 7 #[] w (OneIs (.bool true) w) := by
  --[
  have kc := fun (w : World) (C : Array Value) (n c : Nat) => Lib.run_convert_bytes_const (P := Try.prog) w 22 5 C n c Try.underlying22 Try.underlying5
  have W1 := Lib.hid ((Below.refl w.heap.size w).alloc (Nat.le_refl _) (.cells #[.int .u8 97, .int .u8 98] 5 (2, 3)))
  have C1 := Lib.hid (show Calls Try.prog 12 #[.slice (some ⟨w.heap.size, 0, none⟩) 2 2] (w.alloc (.cells #[.int .u8 97, .int .u8 98] 5 (2, 3))) (BtOwn (Sm.sealed [97, 98]) (w.alloc (.cells #[.int .u8 97, .int .u8 98] 5 (2, 3)))) from
    spSeal_any _ 2 [97, 98] _ (smLit w [97, 98] (2, 3)) (Sm.bytes_lit rfl) (by decide))
  go_enter Try.func7, Try.ntmps7
  go_wp2_with fail
  refine C1.out.mono ?_; rintro e w1 ⟨v, rfl, ho, hb⟩
  obtain ⟨-, B, d, rfl, hd, hR⟩ := Lies.Row.of_own (E := LBt) ho
  have W2 := Lib.hid (W1.out.trans (hb.mono W1.out.size))
  have C2 := Lib.hid (spOpen_any B d (Sm.sealed [97, 98]) w1 hR (Sm.sealed_bytes (Sm.bytes_lit rfl)) (by decide) hd)
  rw [Sm.opened_sealed, Sm.good_sealed] at C2
  clear ho hb hR hd C1 W1
  go_wp2_with fail
  refine C2.out.mono ?_; rintro e w2 ⟨B2, d2, rfl, hR, hd, hb⟩
  have W3 := Lib.hid (W2.out.trans (hb.mono W2.out.size))
  have T1 := Lib.hid (fun W (hW : Below w2.heap.size w2 W) => run_text (hR.below rfl hW) d2)
  have V1 := Lib.hid (Below.refl w2.heap.size w2)
  clear hb hR hd C2 W2
  have W4 := Lib.hid (W3.out.alloc W3.out.size (.cells #[.int .u8 97, .int .u8 98, .int .u8 99, .int .u8 100] 5 (4, 5)))
  have V4 := Lib.hid (V1.out.alloc V1.out.size (.cells #[.int .u8 97, .int .u8 98, .int .u8 99, .int .u8 100] 5 (4, 5)))
  have C4 := Lib.hid (show Calls Try.prog 8 #[.slice (some ⟨w2.heap.size, 0, none⟩) 4 4] (w2.alloc (.cells #[.int .u8 97, .int .u8 98, .int .u8 99, .int .u8 100] 5 (4, 5))) (BtOk [] false (w2.alloc (.cells #[.int .u8 97, .int .u8 98, .int .u8 99, .int .u8 100] 5 (4, 5)))) from by
    have := spOpen_any _ 4 [97, 98, 99, 100] _ (smLit w2 [97, 98, 99, 100] (4, 5)) (Sm.bytes_lit rfl) (by decide) (Nat.le_refl _)
    rwa [show Sm.opened [97, 98, 99, 100] = [] from by unfold Sm.opened; rw [good_abcd]; rfl, good_abcd] at this)
  go_wp2_with fail
  refine C4.out.mono ?_; rintro e w3 ⟨B4, d4, rfl, -, -, hb⟩
  have W5 := Lib.hid (W4.out.trans (hb.mono W4.out.size))
  have V5 := Lib.hid (V4.out.trans (hb.mono V4.out.size))
  clear hb C4 W4 V4 W3 V1
  have W6 := Lib.hid (W5.out.alloc W5.out.size (.cells #[.int .u8 97, .int .u8 98, .int .u8 99] 5 (3, 4)))
  have V6 := Lib.hid (V5.out.alloc V5.out.size (.cells #[.int .u8 97, .int .u8 98, .int .u8 99] 5 (3, 4)))
  have C6 := Lib.hid (show Calls Try.prog 8 #[.slice (some ⟨w3.heap.size, 0, none⟩) 3 3] (w3.alloc (.cells #[.int .u8 97, .int .u8 98, .int .u8 99] 5 (3, 4))) (BtOk [] false (w3.alloc (.cells #[.int .u8 97, .int .u8 98, .int .u8 99] 5 (3, 4)))) from by
    have := spOpen_any _ 3 [97, 98, 99] _ (smLit w3 [97, 98, 99] (3, 4)) (Sm.bytes_lit rfl) (by decide) (Nat.le_refl _)
    rwa [show Sm.opened [97, 98, 99] = [] from by unfold Sm.opened; rw [good_abc]; rfl, good_abc] at this)
  go_wp2_with fail
  refine C6.out.mono ?_; rintro e w4 ⟨B6, d6, rfl, -, -, hb⟩
  have W7 := Lib.hid (W6.out.trans (hb.mono W6.out.size))
  have V7 := Lib.hid (V6.out.trans (hb.mono V6.out.size))
  clear hb C6 W6 V6 W5 V5
  have C8 := Lib.hid (show Calls Try.prog 12 #[.slice none 0 0] w4 (BtOwn (Sm.sealed []) w4) from spSeal_any none 0 [] w4 (.inl rfl) (Sm.bytes_lit rfl) (by decide))
  go_wp2_with fail
  refine C8.out.mono ?_; rintro e w5 ⟨v, rfl, ho, hb⟩
  obtain ⟨-, B8, d8, rfl, hd, hR⟩ := Lies.Row.of_own (E := LBt) ho
  have W8 := Lib.hid (W7.out.trans (hb.mono W7.out.size))
  have V8 := Lib.hid (V7.out.trans (hb.mono V7.out.size))
  have C9 := Lib.hid (spOpen_any B8 d8 (Sm.sealed []) w5 hR (Sm.sealed_bytes (Sm.bytes_lit rfl)) (by decide) hd)
  rw [Sm.opened_sealed, Sm.good_sealed] at C9
  clear ho hb hR hd C8 W7 V7
  go_wp2_with fail
  refine C9.out.mono ?_; rintro e w6 ⟨B9, d9, rfl, -, -, hb⟩
  have W9 := Lib.hid (W8.out.trans (hb.mono W8.out.size))
  have V9 := Lib.hid (V8.out.trans (hb.mono V8.out.size))
  have W10 := Lib.hid (W9.out.alloc W9.out.size (.cells #[.int .u8 49, .int .u8 50, .int .u8 51, .int .u8 52, .int .u8 53, .int .u8 54, .int .u8 55, .int .u8 56, .int .u8 57] 5 (9, 10)))
  have V10 := Lib.hid (V9.out.alloc V9.out.size (.cells #[.int .u8 49, .int .u8 50, .int .u8 51, .int .u8 52, .int .u8 53, .int .u8 54, .int .u8 55, .int .u8 56, .int .u8 57] 5 (9, 10)))
  have C10 := Lib.hid (show Calls Try.prog 10 #[.slice (some ⟨w6.heap.size, 0, none⟩) 9 9] (w6.alloc (.cells #[.int .u8 49, .int .u8 50, .int .u8 51, .int .u8 52, .int .u8 53, .int .u8 54, .int .u8 55, .int .u8 56, .int .u8 57] 5 (9, 10))) (fun e w' => e = .returned (.int .u32 3421780262) ∧ w' = (w6.alloc (.cells #[.int .u8 49, .int .u8 50, .int .u8 51, .int .u8 52, .int .u8 53, .int .u8 54, .int .u8 55, .int .u8 56, .int .u8 57] 5 (9, 10)))) from by
    have := spOf_any _ 9 [49, 50, 51, 52, 53, 54, 55, 56, 57] _ (smLit w6 [49, 50, 51, 52, 53, 54, 55, 56, 57] (9, 10)) (Sm.bytes_lit rfl) (by decide)
    rwa [of_digits] at this)
  have C11 := Lib.hid (fun W => show Calls Try.prog 10 #[.slice none 0 0] W (fun e w' => e = .returned (.int .u32 0) ∧ w' = W) from by
    have := spOf_any none 0 [] W (.inl rfl) (Sm.bytes_lit rfl) (by decide)
    rwa [of_none] at this)
  have t1 : (convert 22 9 (.slice B2 2 d2)).run Try.prog (w6.alloc (.cells #[.int .u8 49, .int .u8 50, .int .u8 51, .int .u8 52, .int .u8 53, .int .u8 54, .int .u8 55, .int .u8 56, .int .u8 57] 5 (9, 10))) = .ok (.string (btext [97, 98])) (w6.alloc (.cells #[.int .u8 49, .int .u8 50, .int .u8 51, .int .u8 52, .int .u8 53, .int .u8 54, .int .u8 55, .int .u8 56, .int .u8 57] 5 (9, 10))) := T1.out _ V10.out
  have t2 := text_ab
  clear hb C9 W8 V8 W9 V9 V10 T1
  go_wp2_with fail
  refine C10.out.mono ?_; rintro e w7 ⟨rfl, rfl⟩
  go_wp2_with fail
  refine (C11.out _).mono ?_; rintro e w7 ⟨rfl, rfl⟩
  go_wp2_with fail
  go_ret
  exact ⟨rfl, W10.out⟩
  --]
end Go.Proofs.Ytjofpclmbjpgjaa
