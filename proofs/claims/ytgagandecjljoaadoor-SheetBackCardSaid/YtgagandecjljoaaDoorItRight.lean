/-
  The walks of layer 3's Right, of the document's answer to it, and of the laws' short.
-/
import Derived.Test.YtgagandecjljoaaDoorItEq
namespace Go.Proofs.YtgagandecjljoaaDoor
open Go.RowKit

theorem print_le (k : Int) (nm : ByteArray) (n : Int) (a : ByteArray) (ac : UInt8) (b : ByteArray) (bc : UInt8) (h0 : 0 ≤ n) (h1 : n ≤ 9223372036854775807) (hn : nm.size ≤ 1000) (ha : a.size ≤ 1000) (hb : b.size ≤ 1000) : (It.print (ofV k nm n a ac b bc)).length ≤ 1000000 := by
  have hw := word_le k
  have hd := dec_l20 h0 h1
  by_cases e1 : It.isNum k = true
  · rw [print_num e1]; simp [Ln.line, Lib.join]; omega
  by_cases e2 : It.isLen k = true
  · rw [print_len (len_num e2) e2]; simp [Ln.line, Lib.join]; omega
  by_cases e3 : k = 7
  · subst e3; rw [print_7]; simp [Ln.line, Lib.join, It.tipT]; omega
  by_cases e4 : k = 8
  · subst e4; rw [print_8]; simp [Ln.line, Lib.join, It.tipT]; omega
  by_cases e5 : k = 9
  · subst e5; rw [print_9]; simp [Ln.line, Lib.join, It.tipT]; omega
  · rw [ofV_k _ _ _ _ _ _ _ (by simp [It.isNum] at e1; simp [It.isLen] at e2; omega)]; simp
set_option maxHeartbeats 4000000 in
set_option maxRecDepth 100000 in
theorem riright_any (k : Int) (nm : ByteArray) (n : Int) (a : ByteArray) (ac : UInt8) (b : ByteArray) (bc : UInt8) (w : World) (h1 : n ≤ 9223372036854775807) (hn : nm.size ≤ 1000) (ha : a.size ≤ 1000) (hb : b.size ≤ 1000) :
    Calls Tryd.prog 14 #[.agg #[.int .i64 k, .string nm, .int .i64 n, .string a, .int .u8 ac.toNat, .string b, .int .u8 bc.toNat]] w fun e w' => e = .returned (.bool (It.right (ofV k nm n a ac b bc))) ∧ Below w.heap.size w w' := by
  have hb0 := Lib.hid ((Below.refl w.heap.size w).alloc (Nat.le_refl _) (.cells #[.int .i64 k, .string nm, .int .i64 n, .string a, .int .u8 ac.toNat, .string b, .int .u8 bc.toNat] 38))
  have R0 := Lib.hid (show (w.alloc (.cells #[.int .i64 k, .string nm, .int .i64 n, .string a, .int .u8 ac.toNat, .string b, .int .u8 bc.toNat] 38)).heap[w.heap.size]? = some (.cells #[.int .i64 k, .string nm, .int .i64 n, .string a, .int .u8 ac.toNat, .string b, .int .u8 bc.toNat] 38 (0, 0)) from heap_alloc_new _ _)
  by_cases h0 : n < 0
  · have P := Lib.hid (show It.right (ofV k nm n a ac b bc) = false by
      rw [It.right, dec_f (show ¬ 0 ≤ (ofV k nm n a ac b bc).n by show ¬ 0 ≤ n; omega)]; rfl)
    have h0' : decide (n < 0) = true := dec_t h0
    clear h1 hn ha hb h0
    go_enter Tryd.func14, Tryd.ntmps14
    go_wp2_with fail
    go_ret
    exact ⟨retB P.out.symm, hb0.out⟩
  · have h0' : decide (n < 0) = false := dec_f h0
    have hle := print_le k nm n a ac b bc (by omega) h1 hn ha hb
    have C := Lib.hid (riprint_any k nm n a ac b bc (w.alloc (.cells #[.int .i64 k, .string nm, .int .i64 n, .string a, .int .u8 ac.toNat, .string b, .int .u8 bc.toNat] 38)) (by omega) h1 hn ha hb)
    have PC := Lib.hid (fun w => riparse_any (txt (It.print (ofV k nm n a ac b bc))) w (by rw [txt_size]; exact hle))
    have HN := Lib.hid (show decide (0 ≤ (ofV k nm n a ac b bc).n) = true from dec_t (show 0 ≤ n by omega))
    clear h1 hn ha hb h0 hle
    go_enter Tryd.func14, Tryd.ntmps14
    go_wp2_with fail
    refine C.out.mono ?_; rintro e w1 ⟨rfl, hb1⟩
    have r0 := (hb1.block _ (show w.heap.size < (w.alloc (.cells #[.int .i64 k, .string nm, .int .i64 n, .string a, .int .u8 ac.toNat, .string b, .int .u8 bc.toNat] 38)).heap.size by simp)).trans R0.out
    have hy0 := (row7 r0).2.2
    have Q0 := Lib.hid r0
    have hbW := Lib.hid (hb0.out.trans (hb1.mono (by simp)))
    clear r0 hb1
    go_wp2_with fail
    refine (PC.out _).mono ?_; rintro e w2 ⟨y, rfl, hyy, hb2⟩
    rw [txt_toList] at hyy ⊢
    have r0 := (hb2.block _ hy0).trans Q0.out
    obtain ⟨⟨a0, a1, a2, a3, a4, a5, a6⟩, ⟨f0, f1, f2, f3, f4, f5, f6⟩, hy1⟩ := row7 r0
    have n0 := World.new_ne _ _ a0
    have hbX := Lib.hid (hbW.out.trans (hb2.mono hbW.out.size))
    clear r0 hb2
    cases hpk : It.parse (It.print (ofV k nm n a ac b bc)) with
    | none =>
      have P := Lib.hid (show It.right (ofV k nm n a ac b bc) = false by rw [It.right, HN.out, hpk]; rfl)
      clear hpk hyy
      rw [Option.isSome_none]
      go_wp2_with fail
      go_ret
      exact ⟨retB P.out.symm, hbX.out.alloc (by omega) _⟩
    | some z =>
      rw [hpk] at hyy
      obtain rfl : y = z := hyy
      have P := Lib.hid (show It.right (ofV k nm n a ac b bc) = decide (y = ofV k nm n a ac b bc) by rw [It.right, HN.out, hpk, Bool.true_and]; simp)
      clear hpk
      rw [Option.isSome_some]
      have Q := fun W => bin_item' W y k nm n a ac b bc
      go_wp2_with fail
      go_ret
      exact ⟨retB P.out.symm, hbX.out.alloc (by omega) _⟩
/-- Have an item's texts at most fifty bytes each? -/
def shortB (nm a b : ByteArray) : Bool := decide (nm.size ≤ 50) && (decide (a.size ≤ 50) && decide (b.size ≤ 50))
end Go.Proofs.YtgagandecjljoaaDoor

