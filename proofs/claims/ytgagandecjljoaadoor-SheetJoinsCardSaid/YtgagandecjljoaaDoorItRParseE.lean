/-
  The walk of the document's answer to layer 3's Parse: ends' lines; and of whatever line.
-/
import Derived.Test.YtgagandecjljoaaDoorItRParseN
namespace Go.Proofs.YtgagandecjljoaaDoor
open Go.RowKit

theorem rtip_t (x : List UInt8) (w : World) (hs : x.length ≤ 1000000) (h : It.tipOk x = true) :
    Calls Tryd.prog 28 #[.string (txt x)] w fun e w' => e = .returned (.tuple #[.agg #[.string (txt (It.tip x).n), .int .u8 (It.tip x).c.toNat], .bool true]) ∧ Below w.heap.size w w' := by
  have := rtip_any (txt x) w (by rw [txt_size]; unfold maxLen; omega)
  rwa [txt_toList, h] at this
theorem rtip_f (x : List UInt8) (w : World) (hs : x.length ≤ 1000000) (h : It.tipOk x = false) :
    Calls Tryd.prog 28 #[.string (txt x)] w fun e w' => e = .returned (.tuple #[.agg #[.string ⟨#[]⟩, .int .u8 0], .bool false]) ∧ Below w.heap.size w w' := by
  have := rtip_any (txt x) w (by rw [txt_size]; unfold maxLen; omega)
  rw [txt_toList, h, tip_no h] at this
  exact this
/-- How far the loop over a line's ends has come: the item's block, all else as it was. -/
def EndsRel (T : List (List UInt8)) (k : Int) (nm : List UInt8) (w1 : World) (i : Value) (wr : World) : Prop :=
  ∃ (j : Nat) (e0 e1 : It.Tp), j ≤ T.length ∧ i = .int .i64 j ∧ TipsTo T j e0 e1 ∧
    wr.heap[w1.heap.size]? = some (.cells #[.int .i64 k, .string (txt nm), .int .i64 0, .string (txt e0.n), .int .u8 e0.c.toNat, .string (txt e1.n), .int .u8 e1.c.toNat] 38 (0, 0)) ∧ Below w1.heap.size w1 wr
theorem TipsTo.none {T : List (List UInt8)} : TipsTo T 0 It.Tp.zero It.Tp.zero := ⟨by simp, fun h => absurd h (by omega), fun h => absurd h (by omega), fun _ => rfl⟩
theorem parseK_7_yes {a b : List UInt8} {e0 e1 : It.Tp} (h : TipsTo [a, b] 2 e0 e1) : It.parseK 7 [a, b] = some ⟨7, [], 0, e0, e1⟩ := by
  have h1 : (It.tipOk a && It.tipOk b) = true := by simpa using h.1
  obtain rfl := h.2.1 (by omega)
  obtain rfl := h.2.2.1 (by omega)
  show (if (It.tipOk a && It.tipOk b) = true then _ else _) = _
  rw [if_pos h1]; rfl
theorem parseK_8_yes {a : List UInt8} {e0 e1 : It.Tp} (h : TipsTo [a] 1 e0 e1) : It.parseK 8 [a] = some ⟨8, [], 0, e0, e1⟩ := by
  have h1 : It.tipOk a = true := by simpa using h.1
  obtain rfl := h.2.1 (by omega)
  obtain rfl := h.2.2.2 (by omega)
  show (if It.tipOk a = true then _ else _) = _
  rw [if_pos h1]; rfl
theorem parseK_9_yes {m a : List UInt8} {e0 e1 : It.Tp} (hm : Fig.nameB m = true) (h : TipsTo [a] 1 e0 e1) : It.parseK 9 [m, a] = some ⟨9, m, 0, e0, e1⟩ := by
  have h1 : It.tipOk a = true := by simpa using h.1
  obtain rfl := h.2.1 (by omega)
  obtain rfl := h.2.2.2 (by omega)
  show (if (Fig.nameB m && It.tipOk a) = true then _ else _) = _
  rw [hm, h1]; rfl
theorem parseK_7_no {a b : List UInt8} (h : It.tipOk a = false ∨ It.tipOk b = false) : It.parseK 7 [a, b] = none := by
  show (if (It.tipOk a && It.tipOk b) = true then _ else _) = _
  rw [if_neg (by rcases h with h | h <;> simp [h])]
theorem parseK_8_no {a : List UInt8} (h : It.tipOk a = false) : It.parseK 8 [a] = none := by
  show (if It.tipOk a = true then _ else _) = _
  rw [h]; rfl
theorem parseK_9_no {m a : List UInt8} (h : It.tipOk a = false) : It.parseK 9 [m, a] = none := by
  show (if (Fig.nameB m && It.tipOk a) = true then _ else _) = _
  rw [h]; simp
theorem tipsTo_0' {T : List (List UInt8)} {a : List UInt8} {e0 e1 : It.Tp} (h : T[0]? = some a) (ho : It.tipOk a = true) (t : TipsTo T 0 e0 e1) : TipsTo T (0 + 1) (It.tip a) e1 := by
  obtain ⟨hl, rfl⟩ := List.getElem?_eq_some_iff.1 h
  exact tipsTo_0 hl ho t
theorem tipsTo_1' {T : List (List UInt8)} {a : List UInt8} {e0 e1 : It.Tp} (h : T[1]? = some a) (ho : It.tipOk a = true) (t : TipsTo T 1 e0 e1) : TipsTo T (1 + 1) e0 (It.tip a) := by
  obtain ⟨hl, rfl⟩ := List.getElem?_eq_some_iff.1 h
  exact tipsTo_1 hl ho t
set_option maxHeartbeats 4000000 in
set_option maxRecDepth 100000 in
theorem rp_7_one (s : ByteArray) (x : List UInt8) (a b : List UInt8) (ha : a.length ≤ 1000000) (hb : b.length ≤ 1000000) (w : World) (W : HasWords s x [a, b] w) (hk : It.kind x = 7) (hx : x.length ≤ 1000000) :
    Calls Tryd.prog 16 #[.string s] w (ParseGives (It.parseK 7 [a, b]) w) := by
  have hb0 := Lib.hid ((Below.refl w.heap.size w).alloc (Nat.le_refl _) (.cells #[.int .i64 0, .string ⟨#[]⟩, .int .i64 0, .string ⟨#[]⟩, .int .u8 0, .string ⟨#[]⟩, .int .u8 0] 38))
  have R0 := Lib.hid (show (w.alloc (.cells #[.int .i64 0, .string ⟨#[]⟩, .int .i64 0, .string ⟨#[]⟩, .int .u8 0, .string ⟨#[]⟩, .int .u8 0] 38)).heap[w.heap.size]? = some (.cells #[.int .i64 0, .string ⟨#[]⟩, .int .i64 0, .string ⟨#[]⟩, .int .u8 0, .string ⟨#[]⟩, .int .u8 0] 38 (0, 0)) from heap_alloc_new _ _)
  have C := Lib.hid W
  have KC := Lib.hid (fun w => rkind_t x w hx 7 hk)
  clear W hk
  go_enter Tryd.func16, Tryd.ntmps16
  go_wp2_with fail
  refine C.out.mono ?_; rintro e w1 ⟨A, c, hc, rfl, hs1, hb1⟩
  have r0 := (hb1.block _ (show w.heap.size < (w.alloc (.cells #[.int .i64 0, .string ⟨#[]⟩, .int .i64 0, .string ⟨#[]⟩, .int .u8 0, .string ⟨#[]⟩, .int .u8 0] 38)).heap.size by simp)).trans R0.out
  obtain ⟨⟨a0, a1, a2, a3, a4, a5, a6⟩, ⟨f0, f1, f2, f3, f4, f5, f6⟩, hy0⟩ := row7 r0
  have Q0 := Lib.hid r0
  have hbW := Lib.hid (hb0.out.trans (hb1.mono (by simp)))
  clear r0 hb1
  obtain ⟨bk, o, rfl⟩ := strs_addr hs1
  have hbk := (strs_at hs1 0 (by simp)).1
  have hc00 := at_words hs1
  have n0 := World.new_ne _ _ a0
  have n1 := World.new_ne _ _ hc00
  simp only [List.length_cons] at hc
  have hc01 := strs_2 hs1
  have hc02 := strs_3 hs1
  clear hs1
  go_wp2_with fail
  refine (KC.out _).mono ?_; rintro e w' ⟨rfl, rfl⟩
  go_wp2_with fail
  have HC0 := Lib.hid hc01
  have HC1 := Lib.hid hc02
  clear hc01 hc02 hc00 n1 a0 a1 a2 a3 a4 a5 a6 f0 f1 f2 f3 f4 f5 f6 n0
  go_loopw [13] (fun i wr => EndsRel [a, b] 7 [] w1 i wr) (fun i _ => 2 - (intOf i).toNat)
  case atStart =>
    refine ⟨0, It.Tp.zero, It.Tp.zero, Nat.zero_le _, rfl, TipsTo.none, ?_, ?_⟩
    · exact heap_alloc_new _ _
    · exact (Below.refl _ _).alloc (Nat.le_refl _) _
  case round =>
    obtain ⟨j, e0, e1, hj, rfl, hto, hr1, hbel⟩ := hrel
    have hz1 := (row7 hr1).2.2
    have TO := Lib.hid hto
    have R1 := Lib.hid hr1
    clear hto hr1
    simp only [List.length_cons, List.length_nil] at hj
    by_cases hlt : j < 2
    · have hj01 : j = 0 ∨ j = 1 := by omega
      rcases hj01 with rfl | rfl
      · have hca : wr.cell? ⟨bk, o + 1, none⟩ = some (.string (txt a)) := (hbel.cell (p := ⟨bk, o + 1, none⟩) hbk).trans HC0.out
        cases hok : It.tipOk a
        · have TF := Lib.hid (fun w => rtip_f a w ha hok)
          have P := Lib.hid (parseK_7_no (a := a) (b := b) (by first | exact Or.inl hok | exact Or.inr hok))
          clear hok
          go_wp2_with fail
          refine (TF.out _).mono ?_; rintro e w2 ⟨rfl, hb1⟩
          have hz2 := hb1.size
          have r1 := (hb1.block _ hz1).trans R1.out
          obtain ⟨⟨b0, b1, b2, b3, b4, b5, b6⟩, ⟨g0, g1, g2, g3, g4, g5, g6⟩, hy1⟩ := row7 r1
          have hbT := Lib.hid (hbel.trans (hb1.mono hbel.size))
          have r0 := (hbT.out.block _ hy0).trans Q0.out
          obtain ⟨⟨a0, a1, a2, a3, a4, a5, a6⟩, ⟨f0, f1, f2, f3, f4, f5, f6⟩, hy2⟩ := row7 r0
          have n2 := World.new_ne _ _ b0
          have n3 := World.new_ne _ _ a0
          have U1 := Lib.hid r1
          have hbX := Lib.hid (hbW.out.trans (hbT.out.mono hbW.out.size))
          clear r1 r0 hb1 hca
          go_wp2_with fail
          refine bodyPost_ret ?_ rfl (ParseGives.no P.out rfl ?_)
          · simp [results, Tryd.results16, go_sem, *]
          · (repeat (first | (with_reducible refine Below.setCell ?_ (by first | exact Nat.le_refl _ | (simp; done) | ((try simp); omega)) _) | (with_reducible refine Below.alloc ?_ (by first | (simp; done) | ((try simp); omega)) _) | with_reducible refine Below.drew ?_)); exact hbX.out
        · have TT := Lib.hid (fun w => rtip_t a w ha hok)
          have HOK := Lib.hid hok
          clear hok
          go_wp2_with fail
          refine (TT.out _).mono ?_; rintro e w2 ⟨rfl, hb1⟩
          have hz2 := hb1.size
          have r1 := (hb1.block _ hz1).trans R1.out
          obtain ⟨⟨b0, b1, b2, b3, b4, b5, b6⟩, ⟨g0, g1, g2, g3, g4, g5, g6⟩, hy1⟩ := row7 r1
          have hbT := Lib.hid (hbel.trans (hb1.mono hbel.size))
          have r0 := (hbT.out.block _ hy0).trans Q0.out
          obtain ⟨⟨a0, a1, a2, a3, a4, a5, a6⟩, ⟨f0, f1, f2, f3, f4, f5, f6⟩, hy2⟩ := row7 r0
          have n2 := World.new_ne _ _ b0
          have n3 := World.new_ne _ _ a0
          have U1 := Lib.hid r1
          have hbX := Lib.hid (hbW.out.trans (hbT.out.mono hbW.out.size))
          clear r1 r0 hb1 hca
          go_wp2_with fail
          go_roundw
          case rel =>
            refine ⟨0 + 1, (It.tip a), e1, by simp, by go_num, tipsTo_0' rfl HOK.out TO.out, ?_, ?_⟩
            · exact (row_alloc (by simp; omega) _).trans (heap_setCell_same _ _ _ _ _ _ (heap_setCell_same _ _ _ _ _ _ U1.out))
            · exact ((hbT.out.setCell (Nat.le_refl _) _).setCell (Nat.le_refl _) _).alloc (by simp; omega) _
          case measure => simp [intOf]
      · have hca : wr.cell? ⟨bk, o + 2, none⟩ = some (.string (txt b)) := (hbel.cell (p := ⟨bk, o + 2, none⟩) hbk).trans HC1.out
        cases hok : It.tipOk b
        · have TF := Lib.hid (fun w => rtip_f b w hb hok)
          have P := Lib.hid (parseK_7_no (a := a) (b := b) (by first | exact Or.inl hok | exact Or.inr hok))
          clear hok
          go_wp2_with fail
          refine (TF.out _).mono ?_; rintro e w2 ⟨rfl, hb1⟩
          have hz2 := hb1.size
          have r1 := (hb1.block _ hz1).trans R1.out
          obtain ⟨⟨b0, b1, b2, b3, b4, b5, b6⟩, ⟨g0, g1, g2, g3, g4, g5, g6⟩, hy1⟩ := row7 r1
          have hbT := Lib.hid (hbel.trans (hb1.mono hbel.size))
          have r0 := (hbT.out.block _ hy0).trans Q0.out
          obtain ⟨⟨a0, a1, a2, a3, a4, a5, a6⟩, ⟨f0, f1, f2, f3, f4, f5, f6⟩, hy2⟩ := row7 r0
          have n2 := World.new_ne _ _ b0
          have n3 := World.new_ne _ _ a0
          have U1 := Lib.hid r1
          have hbX := Lib.hid (hbW.out.trans (hbT.out.mono hbW.out.size))
          clear r1 r0 hb1 hca
          go_wp2_with fail
          refine bodyPost_ret ?_ rfl (ParseGives.no P.out rfl ?_)
          · simp [results, Tryd.results16, go_sem, *]
          · (repeat (first | (with_reducible refine Below.setCell ?_ (by first | exact Nat.le_refl _ | (simp; done) | ((try simp); omega)) _) | (with_reducible refine Below.alloc ?_ (by first | (simp; done) | ((try simp); omega)) _) | with_reducible refine Below.drew ?_)); exact hbX.out
        · have TT := Lib.hid (fun w => rtip_t b w hb hok)
          have HOK := Lib.hid hok
          clear hok
          go_wp2_with fail
          refine (TT.out _).mono ?_; rintro e w2 ⟨rfl, hb1⟩
          have hz2 := hb1.size
          have r1 := (hb1.block _ hz1).trans R1.out
          obtain ⟨⟨b0, b1, b2, b3, b4, b5, b6⟩, ⟨g0, g1, g2, g3, g4, g5, g6⟩, hy1⟩ := row7 r1
          have hbT := Lib.hid (hbel.trans (hb1.mono hbel.size))
          have r0 := (hbT.out.block _ hy0).trans Q0.out
          obtain ⟨⟨a0, a1, a2, a3, a4, a5, a6⟩, ⟨f0, f1, f2, f3, f4, f5, f6⟩, hy2⟩ := row7 r0
          have n2 := World.new_ne _ _ b0
          have n3 := World.new_ne _ _ a0
          have U1 := Lib.hid r1
          have hbX := Lib.hid (hbW.out.trans (hbT.out.mono hbW.out.size))
          clear r1 r0 hb1 hca
          go_wp2_with fail
          go_roundw
          case rel =>
            refine ⟨1 + 1, e0, (It.tip b), by simp, by go_num, tipsTo_1' rfl HOK.out TO.out, ?_, ?_⟩
            · exact (row_alloc (by simp; omega) _).trans (heap_setCell_same _ _ _ _ _ _ (heap_setCell_same _ _ _ _ _ _ U1.out))
            · exact ((hbT.out.setCell (Nat.le_refl _) _).setCell (Nat.le_refl _) _).alloc (by simp; omega) _
          case measure => simp [intOf]
    · obtain rfl : j = 2 := by omega
      have P := Lib.hid (parseK_7_yes TO.out)
      obtain ⟨⟨b0, b1, b2, b3, b4, b5, b6⟩, ⟨g0, g1, g2, g3, g4, g5, g6⟩, hy1⟩ := row7 R1.out
      have r0 := (hbel.block _ hy0).trans Q0.out
      obtain ⟨⟨a0, a1, a2, a3, a4, a5, a6⟩, ⟨f0, f1, f2, f3, f4, f5, f6⟩, hy2⟩ := row7 r0
      have hbX := Lib.hid (hbW.out.trans (hbel.mono hbW.out.size))
      clear r0
      go_wp2_with fail
      refine bodyPost_ret ?_ rfl (ParseGives.yes P.out rfl ?_)
      · simp [results, Tryd.results16, go_sem, *] <;> (repeat' (first | exact rfl | apply And.intro))
      · (repeat (first | (with_reducible refine Below.setCell ?_ (by first | exact Nat.le_refl _ | (simp; done) | ((try simp); omega)) _) | (with_reducible refine Below.alloc ?_ (by first | (simp; done) | ((try simp); omega)) _) | with_reducible refine Below.drew ?_)); exact hbX.out
set_option maxHeartbeats 4000000 in
set_option maxRecDepth 100000 in
theorem rp_8_one (s : ByteArray) (x : List UInt8) (a : List UInt8) (ha : a.length ≤ 1000000) (w : World) (W : HasWords s x [a] w) (hk : It.kind x = 8) (hx : x.length ≤ 1000000) :
    Calls Tryd.prog 16 #[.string s] w (ParseGives (It.parseK 8 [a]) w) := by
  have hb0 := Lib.hid ((Below.refl w.heap.size w).alloc (Nat.le_refl _) (.cells #[.int .i64 0, .string ⟨#[]⟩, .int .i64 0, .string ⟨#[]⟩, .int .u8 0, .string ⟨#[]⟩, .int .u8 0] 38))
  have R0 := Lib.hid (show (w.alloc (.cells #[.int .i64 0, .string ⟨#[]⟩, .int .i64 0, .string ⟨#[]⟩, .int .u8 0, .string ⟨#[]⟩, .int .u8 0] 38)).heap[w.heap.size]? = some (.cells #[.int .i64 0, .string ⟨#[]⟩, .int .i64 0, .string ⟨#[]⟩, .int .u8 0, .string ⟨#[]⟩, .int .u8 0] 38 (0, 0)) from heap_alloc_new _ _)
  have C := Lib.hid W
  have KC := Lib.hid (fun w => rkind_t x w hx 8 hk)
  clear W hk
  go_enter Tryd.func16, Tryd.ntmps16
  go_wp2_with fail
  refine C.out.mono ?_; rintro e w1 ⟨A, c, hc, rfl, hs1, hb1⟩
  have r0 := (hb1.block _ (show w.heap.size < (w.alloc (.cells #[.int .i64 0, .string ⟨#[]⟩, .int .i64 0, .string ⟨#[]⟩, .int .u8 0, .string ⟨#[]⟩, .int .u8 0] 38)).heap.size by simp)).trans R0.out
  obtain ⟨⟨a0, a1, a2, a3, a4, a5, a6⟩, ⟨f0, f1, f2, f3, f4, f5, f6⟩, hy0⟩ := row7 r0
  have Q0 := Lib.hid r0
  have hbW := Lib.hid (hb0.out.trans (hb1.mono (by simp)))
  clear r0 hb1
  obtain ⟨bk, o, rfl⟩ := strs_addr hs1
  have hbk := (strs_at hs1 0 (by simp)).1
  have hc00 := at_words hs1
  have n0 := World.new_ne _ _ a0
  have n1 := World.new_ne _ _ hc00
  simp only [List.length_cons] at hc
  have hc01 := strs_2 hs1
  clear hs1
  go_wp2_with fail
  refine (KC.out _).mono ?_; rintro e w' ⟨rfl, rfl⟩
  go_wp2_with fail
  have HC0 := Lib.hid hc01
  clear hc01 hc00 n1 a0 a1 a2 a3 a4 a5 a6 f0 f1 f2 f3 f4 f5 f6 n0
  go_loopw [13] (fun i wr => EndsRel [a] 8 [] w1 i wr) (fun i _ => 1 - (intOf i).toNat)
  case atStart =>
    refine ⟨0, It.Tp.zero, It.Tp.zero, Nat.zero_le _, rfl, TipsTo.none, ?_, ?_⟩
    · exact heap_alloc_new _ _
    · exact (Below.refl _ _).alloc (Nat.le_refl _) _
  case round =>
    obtain ⟨j, e0, e1, hj, rfl, hto, hr1, hbel⟩ := hrel
    have hz1 := (row7 hr1).2.2
    have TO := Lib.hid hto
    have R1 := Lib.hid hr1
    clear hto hr1
    simp only [List.length_cons, List.length_nil] at hj
    by_cases hlt : j < 1
    · obtain rfl : j = 0 := by omega
      
      have hca : wr.cell? ⟨bk, o + 1, none⟩ = some (.string (txt a)) := (hbel.cell (p := ⟨bk, o + 1, none⟩) hbk).trans HC0.out
      cases hok : It.tipOk a
      · have TF := Lib.hid (fun w => rtip_f a w ha hok)
        have P := Lib.hid (parseK_8_no hok)
        clear hok
        go_wp2_with fail
        refine (TF.out _).mono ?_; rintro e w2 ⟨rfl, hb1⟩
        have hz2 := hb1.size
        have r1 := (hb1.block _ hz1).trans R1.out
        obtain ⟨⟨b0, b1, b2, b3, b4, b5, b6⟩, ⟨g0, g1, g2, g3, g4, g5, g6⟩, hy1⟩ := row7 r1
        have hbT := Lib.hid (hbel.trans (hb1.mono hbel.size))
        have r0 := (hbT.out.block _ hy0).trans Q0.out
        obtain ⟨⟨a0, a1, a2, a3, a4, a5, a6⟩, ⟨f0, f1, f2, f3, f4, f5, f6⟩, hy2⟩ := row7 r0
        have n2 := World.new_ne _ _ b0
        have n3 := World.new_ne _ _ a0
        have U1 := Lib.hid r1
        have hbX := Lib.hid (hbW.out.trans (hbT.out.mono hbW.out.size))
        clear r1 r0 hb1 hca
        go_wp2_with fail
        refine bodyPost_ret ?_ rfl (ParseGives.no P.out rfl ?_)
        · simp [results, Tryd.results16, go_sem, *]
        · (repeat (first | (with_reducible refine Below.setCell ?_ (by first | exact Nat.le_refl _ | (simp; done) | ((try simp); omega)) _) | (with_reducible refine Below.alloc ?_ (by first | (simp; done) | ((try simp); omega)) _) | with_reducible refine Below.drew ?_)); exact hbX.out
      · have TT := Lib.hid (fun w => rtip_t a w ha hok)
        have HOK := Lib.hid hok
        clear hok
        go_wp2_with fail
        refine (TT.out _).mono ?_; rintro e w2 ⟨rfl, hb1⟩
        have hz2 := hb1.size
        have r1 := (hb1.block _ hz1).trans R1.out
        obtain ⟨⟨b0, b1, b2, b3, b4, b5, b6⟩, ⟨g0, g1, g2, g3, g4, g5, g6⟩, hy1⟩ := row7 r1
        have hbT := Lib.hid (hbel.trans (hb1.mono hbel.size))
        have r0 := (hbT.out.block _ hy0).trans Q0.out
        obtain ⟨⟨a0, a1, a2, a3, a4, a5, a6⟩, ⟨f0, f1, f2, f3, f4, f5, f6⟩, hy2⟩ := row7 r0
        have n2 := World.new_ne _ _ b0
        have n3 := World.new_ne _ _ a0
        have U1 := Lib.hid r1
        have hbX := Lib.hid (hbW.out.trans (hbT.out.mono hbW.out.size))
        clear r1 r0 hb1 hca
        go_wp2_with fail
        go_roundw
        case rel =>
          refine ⟨0 + 1, (It.tip a), e1, by simp, by go_num, tipsTo_0' rfl HOK.out TO.out, ?_, ?_⟩
          · exact (row_alloc (by simp; omega) _).trans (heap_setCell_same _ _ _ _ _ _ (heap_setCell_same _ _ _ _ _ _ U1.out))
          · exact ((hbT.out.setCell (Nat.le_refl _) _).setCell (Nat.le_refl _) _).alloc (by simp; omega) _
        case measure => simp [intOf]
    · obtain rfl : j = 1 := by omega
      have P := Lib.hid (parseK_8_yes TO.out)
      obtain ⟨⟨b0, b1, b2, b3, b4, b5, b6⟩, ⟨g0, g1, g2, g3, g4, g5, g6⟩, hy1⟩ := row7 R1.out
      have r0 := (hbel.block _ hy0).trans Q0.out
      obtain ⟨⟨a0, a1, a2, a3, a4, a5, a6⟩, ⟨f0, f1, f2, f3, f4, f5, f6⟩, hy2⟩ := row7 r0
      have hbX := Lib.hid (hbW.out.trans (hbel.mono hbW.out.size))
      clear r0
      go_wp2_with fail
      refine bodyPost_ret ?_ rfl (ParseGives.yes P.out rfl ?_)
      · simp [results, Tryd.results16, go_sem, *] <;> (repeat' (first | exact rfl | apply And.intro))
      · (repeat (first | (with_reducible refine Below.setCell ?_ (by first | exact Nat.le_refl _ | (simp; done) | ((try simp); omega)) _) | (with_reducible refine Below.alloc ?_ (by first | (simp; done) | ((try simp); omega)) _) | with_reducible refine Below.drew ?_)); exact hbX.out
set_option maxHeartbeats 4000000 in
set_option maxRecDepth 100000 in
theorem rp_9_one (s : ByteArray) (x : List UInt8) (m a : List UInt8) (hm : m.length ≤ 1000000) (ha : a.length ≤ 1000000) (hn : Fig.nameB m = true) (w : World) (W : HasWords s x [m, a] w) (hk : It.kind x = 9) (hx : x.length ≤ 1000000) :
    Calls Tryd.prog 16 #[.string s] w (ParseGives (It.parseK 9 [m, a]) w) := by
  have N := Lib.hid (fun w => rname_t m w hm _ hn)
  have HN := Lib.hid hn
  clear hn hm
  have hb0 := Lib.hid ((Below.refl w.heap.size w).alloc (Nat.le_refl _) (.cells #[.int .i64 0, .string ⟨#[]⟩, .int .i64 0, .string ⟨#[]⟩, .int .u8 0, .string ⟨#[]⟩, .int .u8 0] 38))
  have R0 := Lib.hid (show (w.alloc (.cells #[.int .i64 0, .string ⟨#[]⟩, .int .i64 0, .string ⟨#[]⟩, .int .u8 0, .string ⟨#[]⟩, .int .u8 0] 38)).heap[w.heap.size]? = some (.cells #[.int .i64 0, .string ⟨#[]⟩, .int .i64 0, .string ⟨#[]⟩, .int .u8 0, .string ⟨#[]⟩, .int .u8 0] 38 (0, 0)) from heap_alloc_new _ _)
  have C := Lib.hid W
  have KC := Lib.hid (fun w => rkind_t x w hx 9 hk)
  clear W hk
  go_enter Tryd.func16, Tryd.ntmps16
  go_wp2_with fail
  refine C.out.mono ?_; rintro e w1 ⟨A, c, hc, rfl, hs1, hb1⟩
  have r0 := (hb1.block _ (show w.heap.size < (w.alloc (.cells #[.int .i64 0, .string ⟨#[]⟩, .int .i64 0, .string ⟨#[]⟩, .int .u8 0, .string ⟨#[]⟩, .int .u8 0] 38)).heap.size by simp)).trans R0.out
  obtain ⟨⟨a0, a1, a2, a3, a4, a5, a6⟩, ⟨f0, f1, f2, f3, f4, f5, f6⟩, hy0⟩ := row7 r0
  have Q0 := Lib.hid r0
  have hbW := Lib.hid (hb0.out.trans (hb1.mono (by simp)))
  clear r0 hb1
  obtain ⟨bk, o, rfl⟩ := strs_addr hs1
  have hbk := (strs_at hs1 0 (by simp)).1
  have hc00 := at_words hs1
  have n0 := World.new_ne _ _ a0
  have n1 := World.new_ne _ _ hc00
  simp only [List.length_cons] at hc
  have hc01 := strs_2 hs1
  have hc02 := strs_3 hs1
  clear hs1
  go_wp2_with fail
  refine (KC.out _).mono ?_; rintro e w' ⟨rfl, rfl⟩
  go_wp2_with fail
  refine (N.out _).mono ?_; rintro e w' ⟨rfl, rfl⟩
  go_wp2_with fail
  go_region
  go_wp2_with fail
  have HC0 := Lib.hid hc02
  clear hc01 hc02 hc00 n1 a0 a1 a2 a3 a4 a5 a6 f0 f1 f2 f3 f4 f5 f6 n0
  go_loopw [13] (fun i wr => EndsRel [a] 9 m w1 i wr) (fun i _ => 1 - (intOf i).toNat)
  case atStart =>
    refine ⟨0, It.Tp.zero, It.Tp.zero, Nat.zero_le _, rfl, TipsTo.none, ?_, ?_⟩
    · exact heap_alloc_new _ _
    · exact ((Below.refl _ _).alloc (Nat.le_refl _) _).drew
  case round =>
    obtain ⟨j, e0, e1, hj, rfl, hto, hr1, hbel⟩ := hrel
    have hz1 := (row7 hr1).2.2
    have TO := Lib.hid hto
    have R1 := Lib.hid hr1
    clear hto hr1
    simp only [List.length_cons, List.length_nil] at hj
    by_cases hlt : j < 1
    · obtain rfl : j = 0 := by omega
      
      have hca : wr.cell? ⟨bk, o + 2, none⟩ = some (.string (txt a)) := (hbel.cell (p := ⟨bk, o + 2, none⟩) hbk).trans HC0.out
      cases hok : It.tipOk a
      · have TF := Lib.hid (fun w => rtip_f a w ha hok)
        have P := Lib.hid (parseK_9_no (m := m) hok)
        clear hok
        go_wp2_with fail
        refine (TF.out _).mono ?_; rintro e w2 ⟨rfl, hb1⟩
        have hz2 := hb1.size
        have r1 := (hb1.block _ hz1).trans R1.out
        obtain ⟨⟨b0, b1, b2, b3, b4, b5, b6⟩, ⟨g0, g1, g2, g3, g4, g5, g6⟩, hy1⟩ := row7 r1
        have hbT := Lib.hid (hbel.trans (hb1.mono hbel.size))
        have r0 := (hbT.out.block _ hy0).trans Q0.out
        obtain ⟨⟨a0, a1, a2, a3, a4, a5, a6⟩, ⟨f0, f1, f2, f3, f4, f5, f6⟩, hy2⟩ := row7 r0
        have n2 := World.new_ne _ _ b0
        have n3 := World.new_ne _ _ a0
        have U1 := Lib.hid r1
        have hbX := Lib.hid (hbW.out.trans (hbT.out.mono hbW.out.size))
        clear r1 r0 hb1 hca
        go_wp2_with fail
        refine bodyPost_ret ?_ rfl (ParseGives.no P.out rfl ?_)
        · simp [results, Tryd.results16, go_sem, *]
        · (repeat (first | (with_reducible refine Below.setCell ?_ (by first | exact Nat.le_refl _ | (simp; done) | ((try simp); omega)) _) | (with_reducible refine Below.alloc ?_ (by first | (simp; done) | ((try simp); omega)) _) | with_reducible refine Below.drew ?_)); exact hbX.out
      · have TT := Lib.hid (fun w => rtip_t a w ha hok)
        have HOK := Lib.hid hok
        clear hok
        go_wp2_with fail
        refine (TT.out _).mono ?_; rintro e w2 ⟨rfl, hb1⟩
        have hz2 := hb1.size
        have r1 := (hb1.block _ hz1).trans R1.out
        obtain ⟨⟨b0, b1, b2, b3, b4, b5, b6⟩, ⟨g0, g1, g2, g3, g4, g5, g6⟩, hy1⟩ := row7 r1
        have hbT := Lib.hid (hbel.trans (hb1.mono hbel.size))
        have r0 := (hbT.out.block _ hy0).trans Q0.out
        obtain ⟨⟨a0, a1, a2, a3, a4, a5, a6⟩, ⟨f0, f1, f2, f3, f4, f5, f6⟩, hy2⟩ := row7 r0
        have n2 := World.new_ne _ _ b0
        have n3 := World.new_ne _ _ a0
        have U1 := Lib.hid r1
        have hbX := Lib.hid (hbW.out.trans (hbT.out.mono hbW.out.size))
        clear r1 r0 hb1 hca
        go_wp2_with fail
        go_roundw
        case rel =>
          refine ⟨0 + 1, (It.tip a), e1, by simp, by go_num, tipsTo_0' rfl HOK.out TO.out, ?_, ?_⟩
          · exact (row_alloc (by simp; omega) _).trans (heap_setCell_same _ _ _ _ _ _ (heap_setCell_same _ _ _ _ _ _ U1.out))
          · exact ((hbT.out.setCell (Nat.le_refl _) _).setCell (Nat.le_refl _) _).alloc (by simp; omega) _
        case measure => simp [intOf]
    · obtain rfl : j = 1 := by omega
      have P := Lib.hid (parseK_9_yes HN.out TO.out)
      obtain ⟨⟨b0, b1, b2, b3, b4, b5, b6⟩, ⟨g0, g1, g2, g3, g4, g5, g6⟩, hy1⟩ := row7 R1.out
      have r0 := (hbel.block _ hy0).trans Q0.out
      obtain ⟨⟨a0, a1, a2, a3, a4, a5, a6⟩, ⟨f0, f1, f2, f3, f4, f5, f6⟩, hy2⟩ := row7 r0
      have hbX := Lib.hid (hbW.out.trans (hbel.mono hbW.out.size))
      clear r0
      go_wp2_with fail
      refine bodyPost_ret ?_ rfl (ParseGives.yes P.out rfl ?_)
      · simp [results, Tryd.results16, go_sem, *] <;> (repeat' (first | exact rfl | apply And.intro))
      · (repeat (first | (with_reducible refine Below.setCell ?_ (by first | exact Nat.le_refl _ | (simp; done) | ((try simp); omega)) _) | (with_reducible refine Below.alloc ?_ (by first | (simp; done) | ((try simp); omega)) _) | with_reducible refine Below.drew ?_)); exact hbX.out
end Go.Proofs.YtgagandecjljoaaDoor

