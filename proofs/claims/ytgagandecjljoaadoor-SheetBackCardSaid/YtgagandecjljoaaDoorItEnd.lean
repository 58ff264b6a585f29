/-
  The walks of layer 3's end and line, and of the document's text.
-/
import Derived.Test.YtgagandecjljoaaDoorItTip
import Derived.Test.YtgagandecjljoaaDoorFigPrint
import Derived.Test.YtgagandecjljoaaDoorLnRef
import Derived.Test.YtgagandecjljoaaDoorAppK
namespace Go.Proofs.YtgagandecjljoaaDoor
open Go.RowKit

theorem tipT_txt (nm : ByteArray) (c : UInt8) : (nm ++ (⟨#[46]⟩ : ByteArray)) ++ (⟨#[c]⟩ : ByteArray) = txt (It.tipT ⟨nm.data.toList, c⟩) := by
  rw [It.tipT, ← txt_add, ← txt_add, txt_of]; rfl
set_option maxHeartbeats 1000000 in
theorem end_any (nm : ByteArray) (c : UInt8) (w : World) (hs : nm.size ≤ 1000000) :
    Calls Tryd.prog 36 #[.agg #[.string nm, .int .u8 c.toNat]] w fun e w' => e = .returned (.string (txt (It.tipT ⟨nm.data.toList, c⟩))) ∧ Below w.heap.size w w' := by
  have hA := one_byte ((w.alloc (.cells #[.string nm, .int .u8 c.toNat] 35)).alloc (.cells #[.int .u8 c.toNat] 5)) (w.heap.size + 1) (c.toNat : Int) (by go_simp)
  have H := Lib.hid (tipT_txt nm c)
  go_enter Tryd.func36, Tryd.ntmps36
  go_wp2_with fail
  go_ret
  exact ⟨retSS H.out, ((Below.refl _ _).alloc (Nat.le_refl _) _).alloc (by simp) _⟩
set_option maxHeartbeats 1000000 in
theorem rend_any (nm : ByteArray) (c : UInt8) (w : World) (hs : nm.size ≤ 1000000) :
    Calls Tryd.prog 41 #[.agg #[.string nm, .int .u8 c.toNat]] w fun e w' => e = .returned (.string (txt (It.tipT ⟨nm.data.toList, c⟩))) ∧ Below w.heap.size w w' := by
  have hA := one_byte ((w.alloc (.cells #[.string nm, .int .u8 c.toNat] 35)).alloc (.cells #[.int .u8 c.toNat] 5)) (w.heap.size + 1) (c.toNat : Int) (by go_simp)
  have H := Lib.hid (tipT_txt nm c)
  go_enter Tryd.func41, Tryd.ntmps41
  go_wp2_with fail
  go_ret
  exact ⟨retSS H.out, ((Below.refl _ _).alloc (Nat.le_refl _) _).alloc (by simp) _⟩


/-- A kind's line: its word, and the words behind it. -/
theorem iline_any (k : Int) (a : Addr) (c : Nat) (L : List (List UInt8)) (w : World) (h : Strs w (some a) L) (hl2 : L.length ≤ 2) (hx : (Ln.line (It.word k :: L)).length ≤ 10000000) :
    Calls Tryd.prog 34 #[.int .i64 k, .slice (some a) L.length c] w fun e w' => e = .returned (.string (txt (Ln.line (It.word k :: L)))) ∧ Below w.heap.size w w' := by
  have C := Lib.hid (word_any k w)
  obtain ⟨i0, hi, hz0, hz1, hz2⟩ := info_parts infoStr
  have O0 := Lib.hid (World.ownsRow_lit (base := w.heap.size) (e := 9) (size := 1) w #[str (It.word k)] 1 (Nat.le_refl _) (by unfold maxLen; omega) rfl)
  have hB0 := Lib.hid ((Below.refl w.heap.size w).alloc (Nat.le_refl _) (.cells #[str (It.word k)] 9))
  have X1 := Lib.hid (h.below rfl hB0.out)
  clear h
  go_enter Tryd.func34, Tryd.ntmps34
  go_wp2_with fail
  refine C.out.mono ?_; rintro e w' ⟨rfl, rfl⟩
  go_wp2_with (at_builtin; refine wpList_append_own _ rfl (.tmp 7) (.tmp 8) 39 rfl w.heap.size 9 i0 (.string ByteArray.empty) 1 16 Tryd.underlying39 hi hz0 hz1 hz2 rfl (by decide) _ _ _ rfl O0.out a L.length c (L.map str) rfl (by simp) X1.out.news (str_one L) (by unfold maxLen; omega) (by omega) (by simp) ?_; intro v1 w1 hown1 hg1 _)
  have hb1 := Lib.hid (hB0.out.grown hg1 (by simp) (fun g hg => (O0.out.lt g hg).1))
  have e3 : #[str (It.word k)].toList ++ L.map str = (It.word k :: L).map str := by simp
  rw [e3] at hown1
  obtain ⟨hn2, A4, c4, rfl, hcap2, hs2⟩ := Strs.of_own hown1
  have LL := Lib.hid (line_any A4 c4 (It.word k :: L) w1 hs2 (by rw [← hn2]; exact hcap2) (by simp; omega) hx)
  have hlen : (It.word k :: L).length = 1 + L.length := hn2.symm
  rw [hlen] at LL
  clear hown1 hg1 hn2 hs2 hlen O0 hB0 X1 e3
  go_wp2_with fail
  refine LL.out.mono ?_; rintro e w2 ⟨rfl, hb2⟩
  go_wp2_with fail
  go_ret
  exact ⟨rfl, hb1.out.trans (hb2.mono hb1.out.size)⟩
end Go.Proofs.YtgagandecjljoaaDoor

