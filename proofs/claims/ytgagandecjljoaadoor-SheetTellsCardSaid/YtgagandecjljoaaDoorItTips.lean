/-
  The walk of layer 3's tips: one or two words read as ends.
-/
import Derived.Test.YtgagandecjljoaaDoorItRPrint
namespace Go.Proofs.YtgagandecjljoaaDoor
open Go.RowKit

/-- What tips leaves: two ends, and whether all words named one. -/
def TipsGive (T : List (List UInt8)) (w : World) (e : Ending) (w' : World) : Prop :=
  ∃ e0 e1 : It.Tp, e = .returned (.tuple #[.agg #[.string (txt e0.n), .int .u8 e0.c.toNat, .string (txt e1.n), .int .u8 e1.c.toNat], .bool (T.all It.tipOk)]) ∧
    (T.all It.tipOk = true → e0 = It.tip (T.getD 0 []) ∧ e1 = if T.length = 2 then It.tip (T.getD 1 []) else It.Tp.zero) ∧ Below w.heap.size w w'
/-- How far tips has come. -/
def TipsTo (T : List (List UInt8)) (k : Nat) (e0 e1 : It.Tp) : Prop :=
  (T.take k).all It.tipOk = true ∧ (0 < k → e0 = It.tip (T.getD 0 [])) ∧ (1 < k → e1 = It.tip (T.getD 1 [])) ∧ (k ≤ 1 → e1 = It.Tp.zero)
/-- The cells of two ends. -/
def endCells (e0 e1 : It.Tp) : Array Value := #[.string (txt e0.n), .int .u8 e0.c.toNat, .string (txt e1.n), .int .u8 e1.c.toNat]
def TipsRel (T : List (List UInt8)) (w : World) (i : Value) (wr : World) : Prop :=
  ∃ (k : Nat) (e0 e1 : It.Tp), k ≤ T.length ∧ i = .int .i64 k ∧ TipsTo T k e0 e1 ∧
    wr.heap[w.heap.size]? = some (.cells #[.string ⟨#[]⟩, .int .u8 0, .string ⟨#[]⟩, .int .u8 0] 36 (0, 0)) ∧
    wr.heap[w.heap.size + 1]? = some (.cells (endCells e0 e1) 36 (0, 0)) ∧ Below w.heap.size w wr
theorem row4 {w : World} {g : Nat} {a b c d : Value} {t : TypeId} (h : w.heap[g]? = some (.cells #[a, b, c, d] t (0, 0))) :
    (w.cell? ⟨g, 0, none⟩ = some a ∧ w.cell? ⟨g, 1, none⟩ = some b ∧ w.cell? ⟨g, 2, none⟩ = some c ∧ w.cell? ⟨g, 3, none⟩ = some d) ∧
    (w.frozen? ⟨g, 0, none⟩ = false ∧ w.frozen? ⟨g, 1, none⟩ = false ∧ w.frozen? ⟨g, 2, none⟩ = false ∧ w.frozen? ⟨g, 3, none⟩ = false) ∧ g < w.heap.size :=
  ⟨⟨cell_of_row w g 0 _ t _ h, cell_of_row w g 1 _ t _ h, cell_of_row w g 2 _ t _ h, cell_of_row w g 3 _ t _ h⟩, ⟨frozen_of_row w g 0 _ t h, frozen_of_row w g 1 _ t h, frozen_of_row w g 2 _ t h, frozen_of_row w g 3 _ t h⟩, (Array.getElem?_eq_some_iff.1 h).1⟩
theorem row_alloc {w : World} {g : Nat} (h : g < w.heap.size) (o : Obj) : (w.alloc o).heap[g]? = w.heap[g]? := Below.heap_alloc w o g h
theorem tip_t (x : List UInt8) (w : World) (hs : x.length ≤ 1000000) (h : It.tipOk x = true) :
    Calls Tryd.prog 61 #[.string (txt x)] w fun e w' => e = .returned (.tuple #[.agg #[.string (txt (It.tip x).n), .int .u8 (It.tip x).c.toNat], .bool true]) ∧ Below w.heap.size w w' := by
  have := tip_any (txt x) w (by rw [txt_size]; unfold maxLen; omega)
  rwa [txt_toList, h] at this
theorem tip_f (x : List UInt8) (w : World) (hs : x.length ≤ 1000000) (h : It.tipOk x = false) :
    Calls Tryd.prog 61 #[.string (txt x)] w fun e w' => e = .returned (.tuple #[.agg #[.string ⟨#[]⟩, .int .u8 0], .bool false]) ∧ Below w.heap.size w w' := by
  have := tip_any (txt x) w (by rw [txt_size]; unfold maxLen; omega)
  rw [txt_toList, h, tip_no h] at this
  exact this
theorem tipsTo_0 {T : List (List UInt8)} {e0 e1 : It.Tp} (h : 0 < T.length) (ho : It.tipOk T[0] = true) (t : TipsTo T 0 e0 e1) : TipsTo T (0 + 1) (It.tip T[0]) e1 := by
  refine ⟨?_, fun _ => ?_, fun h => absurd h (by omega), fun _ => t.2.2.2 (by omega)⟩
  · rw [List.take_succ_eq_append_getElem h, List.all_append]; simp [ho]
  · rw [List.getD_eq_getElem?_getD, List.getElem?_eq_getElem h]; rfl
theorem tipsTo_1 {T : List (List UInt8)} {e0 e1 : It.Tp} (h : 1 < T.length) (ho : It.tipOk T[1] = true) (t : TipsTo T 1 e0 e1) : TipsTo T (1 + 1) e0 (It.tip T[1]) := by
  refine ⟨?_, fun _ => t.2.1 (by omega), fun _ => ?_, fun h => absurd h (by omega)⟩
  · rw [List.take_succ_eq_append_getElem h, List.all_append, t.1]; simp [ho]
  · rw [List.getD_eq_getElem?_getD, List.getElem?_eq_getElem h]; rfl
set_option maxHeartbeats 4000000 in
theorem tips_any (bk o c : Nat) (T : List (List UInt8)) (w : World) (h : Strs w (some ⟨bk, o, none⟩) T) (hl : T.length = 1 ∨ T.length = 2) (hx : ∀ x ∈ T, x.length ≤ 1000000) :
    Calls Tryd.prog 50 #[.slice (some ⟨bk, o, none⟩) T.length c] w (TipsGive T w) := by
  have HS := Lib.hid h
  have HX := Lib.hid hx
  have hl1 : 1 ≤ T.length := by omega
  have hl2 : T.length ≤ 2 := by omega
  clear h hx hl
  go_enter Tryd.func50, Tryd.ntmps50
  go_wp2_with fail
  go_loopw [11] (fun i wr => TipsRel T w i wr) (fun i _ => T.length - (intOf i).toNat)
  case atStart =>
    refine ⟨0, It.Tp.zero, It.Tp.zero, Nat.zero_le _, rfl, ⟨by simp, fun h => absurd h (by omega), fun h => absurd h (by omega), fun _ => rfl⟩, ?_, ?_, ((Below.refl _ _).alloc (Nat.le_refl _) _).alloc (by simp) _⟩
    · exact (row_alloc (by simp) _).trans (heap_alloc_new _ _)
    · have := heap_alloc_new (w.alloc (.cells #[.string ⟨#[]⟩, .int .u8 0, .string ⟨#[]⟩, .int .u8 0] 36)) (.cells #[.string ⟨#[]⟩, .int .u8 0, .string ⟨#[]⟩, .int .u8 0] 36)
      rw [show (w.alloc (.cells #[.string ⟨#[]⟩, .int .u8 0, .string ⟨#[]⟩, .int .u8 0] 36)).heap.size = w.heap.size + 1 by simp] at this
      exact this
  case round =>
    obtain ⟨k, e0, e1, hk, rfl, hto, hr0, hr1, hbel⟩ := hrel
    have hz0 := (row4 hr0).2.2
    have hz1 := (row4 hr1).2.2
    have TO := Lib.hid hto
    have R0 := Lib.hid hr0
    have R1 := Lib.hid hr1
    clear hto hr0 hr1
    by_cases hlt : k < T.length
    · obtain ⟨a', ha, hb, hc⟩ := (HS.out.below rfl hbel).cell hlt
      cases ha
      rw [Go.WideShapes.add_plain, str] at hc
      have hxk := HX.out _ (List.getElem_mem hlt)
      cases hok : It.tipOk T[k]
      · have TF := Lib.hid (fun w => tip_f T[k] w hxk hok)
        have HOK := Lib.hid hok
        clear hok
        go_wp2_with fail
        refine (TF.out _).mono ?_; rintro e w1 ⟨rfl, hb1⟩
        have hz2 := hb1.size
        have r0 := (hb1.block _ hz0).trans R0.out
        have r1 := (hb1.block _ hz1).trans R1.out
        rw [endCells] at r1
        obtain ⟨⟨a0, a1, a2, a3⟩, ⟨f0, f1, f2, f3⟩, hy0⟩ := row4 r0
        obtain ⟨⟨b0, b1, b2, b3⟩, ⟨g0, g1, g2, g3⟩, hy1⟩ := row4 r1
        have n0 := World.new_ne _ _ a0
        have n1 := World.new_ne _ _ b0
        have Q0 := Lib.hid r0
        have Q1 := Lib.hid r1
        clear r0 r1 hc
        go_wp2_with fail
        refine bodyPost_ret (v := .tuple #[.agg #[.string (txt e0.n), .int .u8 e0.c.toNat, .string (txt e1.n), .int .u8 e1.c.toNat], .bool false]) ?_ rfl ⟨e0, e1, ?_, ?_, ?_⟩
        · simp [results, Tryd.results50, go_sem, *]
        · have : T.all It.tipOk = false := by
            rw [List.all_eq_false]; exact ⟨_, List.getElem_mem hlt, by simp [HOK.out]⟩
          rw [this]
        · intro hall
          have : T.all It.tipOk = false := by
            rw [List.all_eq_false]; exact ⟨_, List.getElem_mem hlt, by simp [HOK.out]⟩
          rw [this] at hall; cases hall
        · exact (((((hbel.trans (hb1.mono hbel.size)).setCell (Nat.le_refl _) _).setCell (Nat.le_refl _) _).setCell (Nat.le_refl _) _).setCell (Nat.le_refl _) _).alloc (by simp; omega) _
      · have TT := Lib.hid (fun w => tip_t T[k] w hxk hok)
        have HOK := Lib.hid hok
        have hk01 : k = 0 ∨ k = 1 := by omega
        clear hok
        rcases hk01 with rfl | rfl
        · rw [Nat.add_zero] at hc
          go_wp2_with fail
          refine (TT.out _).mono ?_; rintro e w1 ⟨rfl, hb1⟩
          have hz2 := hb1.size
          have r0 := (hb1.block _ hz0).trans R0.out
          have r1 := (hb1.block _ hz1).trans R1.out
          rw [endCells] at r1
          obtain ⟨⟨b0, b1, b2, b3⟩, ⟨g0, g1, g2, g3⟩, hy1⟩ := row4 r1
          have n1 := World.new_ne _ _ b0
          have Q0 := Lib.hid r0
          have Q1 := Lib.hid r1
          clear r0 r1 hc
          go_wp2_with fail
          go_roundw
          case rel =>
            refine ⟨0 + 1, It.tip T[0], e1, by omega, by go_num, tipsTo_0 hlt HOK.out TO.out, ?_, ?_, ?_⟩
            · exact (row_alloc (by simp; omega) _).trans ((heap_setCell_other _ _ _ _ (by simp)).trans ((heap_setCell_other _ _ _ _ (by simp)).trans Q0.out))
            · exact (row_alloc (by simp; omega) _).trans (heap_setCell_same _ _ _ _ _ _ (heap_setCell_same _ _ _ _ _ _ Q1.out))
            · exact (((hbel.trans (hb1.mono hbel.size)).setCell (Nat.le_succ _) _).setCell (Nat.le_succ _) _).alloc (by simp; omega) _
          case measure => simp [intOf]; omega
        · have hc1 : wr.cell? ⟨bk, o + 1, none⟩ = some (.string (txt T[1])) := hc
          go_wp2_with fail
          refine (TT.out _).mono ?_; rintro e w1 ⟨rfl, hb1⟩
          have hz2 := hb1.size
          have r0 := (hb1.block _ hz0).trans R0.out
          have r1 := (hb1.block _ hz1).trans R1.out
          rw [endCells] at r1
          obtain ⟨⟨b0, b1, b2, b3⟩, ⟨g0, g1, g2, g3⟩, hy1⟩ := row4 r1
          have n1 := World.new_ne _ _ b0
          have Q0 := Lib.hid r0
          have Q1 := Lib.hid r1
          clear r0 r1 hc hc1
          go_wp2_with fail
          go_roundw
          case rel =>
            refine ⟨1 + 1, e0, It.tip T[1], by omega, by go_num, tipsTo_1 hlt HOK.out TO.out, ?_, ?_, ?_⟩
            · exact (row_alloc (by simp; omega) _).trans ((heap_setCell_other _ _ _ _ (by simp)).trans ((heap_setCell_other _ _ _ _ (by simp)).trans Q0.out))
            · exact (row_alloc (by simp; omega) _).trans (heap_setCell_same _ _ _ _ _ _ (heap_setCell_same _ _ _ _ _ _ Q1.out))
            · exact (((hbel.trans (hb1.mono hbel.size)).setCell (Nat.le_succ _) _).setCell (Nat.le_succ _) _).alloc (by simp; omega) _
          case measure => simp [intOf]; omega
    · have hkT : k = T.length := by omega
      obtain ⟨⟨a0, a1, a2, a3⟩, ⟨f0, f1, f2, f3⟩, hy0⟩ := row4 R0.out
      have r1 := R1.out
      rw [endCells] at r1
      obtain ⟨⟨b0, b1, b2, b3⟩, ⟨g0, g1, g2, g3⟩, hy1⟩ := row4 r1
      have HK := Lib.hid hkT
      clear r1 hkT
      go_wp2_with fail
      refine bodyPost_ret (v := .tuple #[.agg #[.string (txt e0.n), .int .u8 e0.c.toNat, .string (txt e1.n), .int .u8 e1.c.toNat], .bool true]) (by simp [results, Tryd.results50, go_sem, *]) rfl ⟨e0, e1, ?_, fun _ => ?_, ?_⟩
      · have := TO.out.1
        rw [HK.out, List.take_of_length_le (Nat.le_refl _)] at this
        rw [this]
      · refine ⟨TO.out.2.1 (by have := HK.out; omega), ?_⟩
        have := HK.out
        split
        · exact TO.out.2.2.1 (by omega)
        · exact TO.out.2.2.2 (by omega)
      · exact (((hbel.setCell (Nat.le_refl _) _).setCell (Nat.le_refl _) _).setCell (Nat.le_refl _) _).setCell (Nat.le_refl _) _
end Go.Proofs.YtgagandecjljoaaDoor

