/-
  Texts of this claim, merged: ItRParseE, ItRParseA, ItEq, ItRight, ItAwake, FigBack, ItKit, ShSpec, ShMem.
-/
import Derived.Test.YtgajdfecajleiaaMg01
import Derived.Test.YtgajdfecajleiaaMg02
import Derived.Test.YtgajdfecajleiaaMg05
import Derived.ChangeKeysEq
import Derived.Deep.Slices
import Derived.Lib.ItoaNum
import Derived.OpenShut
/-
  The walk of the document's answer to layer 3's Parse: ends' lines; and of whatever line.
-/
namespace Go.Proofs.Ytgajdfecajleiaa
open Go.RowKit

theorem rtip_t (x : List UInt8) (w : World) (hs : x.length ≤ 1000000) (h : It.tipOk x = true) :
    Calls Try.prog 35 #[.string (txt x)] w fun e w' => e = .returned (.tuple #[.agg #[.string (txt (It.tip x).n), .int .u8 (It.tip x).c.toNat], .bool true]) ∧ Below w.heap.size w w' := by
  have := rtip_any (txt x) w (by rw [txt_size]; unfold maxLen; omega)
  rwa [txt_toList, h] at this
theorem rtip_f (x : List UInt8) (w : World) (hs : x.length ≤ 1000000) (h : It.tipOk x = false) :
    Calls Try.prog 35 #[.string (txt x)] w fun e w' => e = .returned (.tuple #[.agg #[.string ⟨#[]⟩, .int .u8 0], .bool false]) ∧ Below w.heap.size w w' := by
  have := rtip_any (txt x) w (by rw [txt_size]; unfold maxLen; omega)
  rw [txt_toList, h, tip_no h] at this
  exact this
/-- How far the loop over a line's ends has come: the item's block, all else as it was. -/
def EndsRel (T : List (List UInt8)) (k : Int) (nm : List UInt8) (w1 : World) (i : Value) (wr : World) : Prop :=
  ∃ (j : Nat) (e0 e1 : It.Tp), j ≤ T.length ∧ i = .int .i64 j ∧ TipsTo T j e0 e1 ∧
    wr.heap[w1.heap.size]? = some (.cells #[.int .i64 k, .string (txt nm), .int .i64 0, .string (txt e0.n), .int .u8 e0.c.toNat, .string (txt e1.n), .int .u8 e1.c.toNat] 76 (0, 0)) ∧ Below w1.heap.size w1 wr
theorem TipsTo.none {T : List (List UInt8)} : TipsTo T 0 It.Tp.zero It.Tp.zero := ⟨by simp, fun h => absurd h (by omega), fun h => absurd h (by omega), fun _ => rfl⟩
theorem parseK_7_yes {a b : List UInt8} {e0 e1 : It.Tp} (h : TipsTo [a, b] 2 e0 e1) : It.parseK 7 [a, b] = some ⟨7, [], 0, e0, e1⟩ := by
  have h1 : (It.tipOk a && It.tipOk b) = true := by simpa using h.1
  obtain rfl := h.2.1 (by omega)
  obtain rfl := h.2.2.1 (by omega)
  show (if (It.tipOk a && It.tipOk b) = true then _ else _) = _
  rw [if_pos h1]; rfl
theorem parseK_8_yes {a : List UInt8} {e0 e1 : It.Tp} (h : TipsTo [a] 1 e0 e1) : It.parseK 8 [a] = some ⟨8, [], 0, e0, e1⟩ := by
  have h1 : It.tipOk a = true := by simpa using h.1
  obtain rfl := h.2.1 (by omega)
  obtain rfl := h.2.2.2 (by omega)
  show (if It.tipOk a = true then _ else _) = _
  rw [if_pos h1]; rfl
theorem parseK_9_yes {m a : List UInt8} {e0 e1 : It.Tp} (hm : Fig.nameB m = true) (h : TipsTo [a] 1 e0 e1) : It.parseK 9 [m, a] = some ⟨9, m, 0, e0, e1⟩ := by
  have h1 : It.tipOk a = true := by simpa using h.1
  obtain rfl := h.2.1 (by omega)
  obtain rfl := h.2.2.2 (by omega)
  show (if (Fig.nameB m && It.tipOk a) = true then _ else _) = _
  rw [hm, h1]; rfl
theorem parseK_7_no {a b : List UInt8} (h : It.tipOk a = false ∨ It.tipOk b = false) : It.parseK 7 [a, b] = none := by
  show (if (It.tipOk a && It.tipOk b) = true then _ else _) = _
  rw [if_neg (by rcases h with h | h <;> simp [h])]
theorem parseK_8_no {a : List UInt8} (h : It.tipOk a = false) : It.parseK 8 [a] = none := by
  show (if It.tipOk a = true then _ else _) = _
  rw [h]; rfl
theorem parseK_9_no {m a : List UInt8} (h : It.tipOk a = false) : It.parseK 9 [m, a] = none := by
  show (if (Fig.nameB m && It.tipOk a) = true then _ else _) = _
  rw [h]; simp
theorem tipsTo_0' {T : List (List UInt8)} {a : List UInt8} {e0 e1 : It.Tp} (h : T[0]? = some a) (ho : It.tipOk a = true) (t : TipsTo T 0 e0 e1) : TipsTo T (0 + 1) (It.tip a) e1 := by
  obtain ⟨hl, rfl⟩ := List.getElem?_eq_some_iff.1 h
  exact tipsTo_0 hl ho t
theorem tipsTo_1' {T : List (List UInt8)} {a : List UInt8} {e0 e1 : It.Tp} (h : T[1]? = some a) (ho : It.tipOk a = true) (t : TipsTo T 1 e0 e1) : TipsTo T (1 + 1) e0 (It.tip a) := by
  obtain ⟨hl, rfl⟩ := List.getElem?_eq_some_iff.1 h
  exact tipsTo_1 hl ho t
set_option maxHeartbeats 4000000 in
set_option maxRecDepth 100000 in
theorem rp_7_one (s : ByteArray) (x : List UInt8) (a b : List UInt8) (ha : a.length ≤ 1000000) (hb : b.length ≤ 1000000) (w : World) (W : HasWords s x [a, b] w) (hk : It.kind x = 7) (hx : x.length ≤ 1000000) :
    Calls Try.prog 22 #[.string s] w (ParseGives (It.parseK 7 [a, b]) w) := by
  have hb0 := Lib.hid ((Below.refl w.heap.size w).alloc (Nat.le_refl _) (.cells #[.int .i64 0, .string ⟨#[]⟩, .int .i64 0, .string ⟨#[]⟩, .int .u8 0, .string ⟨#[]⟩, .int .u8 0] 76))
  have R0 := Lib.hid (show (w.alloc (.cells #[.int .i64 0, .string ⟨#[]⟩, .int .i64 0, .string ⟨#[]⟩, .int .u8 0, .string ⟨#[]⟩, .int .u8 0] 76)).heap[w.heap.size]? = some (.cells #[.int .i64 0, .string ⟨#[]⟩, .int .i64 0, .string ⟨#[]⟩, .int .u8 0, .string ⟨#[]⟩, .int .u8 0] 76 (0, 0)) from heap_alloc_new _ _)
  have C := Lib.hid W
  have KC := Lib.hid (fun w => rkind_t x w hx 7 hk)
  clear W hk
  go_enter Try.func22, Try.ntmps22
  go_wp2_with fail
  refine C.out.mono ?_; rintro e w1 ⟨A, c, hc, rfl, hs1, hb1⟩
  have r0 := (hb1.block _ (show w.heap.size < (w.alloc (.cells #[.int .i64 0, .string ⟨#[]⟩, .int .i64 0, .string ⟨#[]⟩, .int .u8 0, .string ⟨#[]⟩, .int .u8 0] 76)).heap.size by simp)).trans R0.out
  obtain ⟨⟨a0, a1, a2, a3, a4, a5, a6⟩, ⟨f0, f1, f2, f3, f4, f5, f6⟩, hy0⟩ := row7 r0
  have Q0 := Lib.hid r0
  have hbW := Lib.hid (hb0.out.trans (hb1.mono (by simp)))
  clear r0 hb1
  obtain ⟨bk, o, rfl⟩ := strs_addr hs1
  have hbk := (strs_at hs1 0 (by simp)).1
  have hc00 := at_words hs1
  have n0 := World.new_ne _ _ a0
  have n1 := World.new_ne _ _ hc00
  simp only [List.length_cons] at hc
  have hc01 := strs_2 hs1
  have hc02 := strs_3 hs1
  clear hs1
  go_wp2_with fail
  refine (KC.out _).mono ?_; rintro e w' ⟨rfl, rfl⟩
  go_wp2_with fail
  have HC0 := Lib.hid hc01
  have HC1 := Lib.hid hc02
  clear hc01 hc02 hc00 n1 a0 a1 a2 a3 a4 a5 a6 f0 f1 f2 f3 f4 f5 f6 n0
  go_loopw [13] (fun i wr => EndsRel [a, b] 7 [] w1 i wr) (fun i _ => 2 - (intOf i).toNat)
  case atStart =>
    refine ⟨0, It.Tp.zero, It.Tp.zero, Nat.zero_le _, rfl, TipsTo.none, ?_, ?_⟩
    · exact heap_alloc_new _ _
    · exact (Below.refl _ _).alloc (Nat.le_refl _) _
  case round =>
    obtain ⟨j, e0, e1, hj, rfl, hto, hr1, hbel⟩ := hrel
    have hz1 := (row7 hr1).2.2
    have TO := Lib.hid hto
    have R1 := Lib.hid hr1
    clear hto hr1
    simp only [List.length_cons, List.length_nil] at hj
    by_cases hlt : j < 2
    · have hj01 : j = 0 ∨ j = 1 := by omega
      rcases hj01 with rfl | rfl
      · have hca : wr.cell? ⟨bk, o + 1, none⟩ = some (.string (txt a)) := (hbel.cell (p := ⟨bk, o + 1, none⟩) hbk).trans HC0.out
        cases hok : It.tipOk a
        · have TF := Lib.hid (fun w => rtip_f a w ha hok)
          have P := Lib.hid (parseK_7_no (a := a) (b := b) (by first | exact Or.inl hok | exact Or.inr hok))
          clear hok
          go_wp2_with fail
          refine (TF.out _).mono ?_; rintro e w2 ⟨rfl, hb1⟩
          have hz2 := hb1.size
          have r1 := (hb1.block _ hz1).trans R1.out
          obtain ⟨⟨b0, b1, b2, b3, b4, b5, b6⟩, ⟨g0, g1, g2, g3, g4, g5, g6⟩, hy1⟩ := row7 r1
          have hbT := Lib.hid (hbel.trans (hb1.mono hbel.size))
          have r0 := (hbT.out.block _ hy0).trans Q0.out
          obtain ⟨⟨a0, a1, a2, a3, a4, a5, a6⟩, ⟨f0, f1, f2, f3, f4, f5, f6⟩, hy2⟩ := row7 r0
          have n2 := World.new_ne _ _ b0
          have n3 := World.new_ne _ _ a0
          have U1 := Lib.hid r1
          have hbX := Lib.hid (hbW.out.trans (hbT.out.mono hbW.out.size))
          clear r1 r0 hb1 hca
          go_wp2_with fail
          refine bodyPost_ret ?_ rfl (ParseGives.no P.out rfl ?_)
          · simp [results, Try.results22, go_sem, *]
          · (repeat (first | (with_reducible refine Below.setCell ?_ (by first | exact Nat.le_refl _ | (simp; done) | ((try simp); omega)) _) | (with_reducible refine Below.alloc ?_ (by first | (simp; done) | ((try simp); omega)) _) | with_reducible refine Below.drew ?_)); exact hbX.out
        · have TT := Lib.hid (fun w => rtip_t a w ha hok)
          have HOK := Lib.hid hok
          clear hok
          go_wp2_with fail
          refine (TT.out _).mono ?_; rintro e w2 ⟨rfl, hb1⟩
          have hz2 := hb1.size
          have r1 := (hb1.block _ hz1).trans R1.out
          obtain ⟨⟨b0, b1, b2, b3, b4, b5, b6⟩, ⟨g0, g1, g2, g3, g4, g5, g6⟩, hy1⟩ := row7 r1
          have hbT := Lib.hid (hbel.trans (hb1.mono hbel.size))
          have r0 := (hbT.out.block _ hy0).trans Q0.out
          obtain ⟨⟨a0, a1, a2, a3, a4, a5, a6⟩, ⟨f0, f1, f2, f3, f4, f5, f6⟩, hy2⟩ := row7 r0
          have n2 := World.new_ne _ _ b0
          have n3 := World.new_ne _ _ a0
          have U1 := Lib.hid r1
          have hbX := Lib.hid (hbW.out.trans (hbT.out.mono hbW.out.size))
          clear r1 r0 hb1 hca
          go_wp2_with fail
          go_roundw
          case rel =>
            refine ⟨0 + 1, (It.tip a), e1, by simp, by go_num, tipsTo_0' rfl HOK.out TO.out, ?_, ?_⟩
            · exact (row_alloc (by simp; omega) _).trans (heap_setCell_same _ _ _ _ _ _ (heap_setCell_same _ _ _ _ _ _ U1.out))
            · exact ((hbT.out.setCell (Nat.le_refl _) _).setCell (Nat.le_refl _) _).alloc (by simp; omega) _
          case measure => simp [intOf]
      · have hca : wr.cell? ⟨bk, o + 2, none⟩ = some (.string (txt b)) := (hbel.cell (p := ⟨bk, o + 2, none⟩) hbk).trans HC1.out
        cases hok : It.tipOk b
        · have TF := Lib.hid (fun w => rtip_f b w hb hok)
          have P := Lib.hid (parseK_7_no (a := a) (b := b) (by first | exact Or.inl hok | exact Or.inr hok))
          clear hok
          go_wp2_with fail
          refine (TF.out _).mono ?_; rintro e w2 ⟨rfl, hb1⟩
          have hz2 := hb1.size
          have r1 := (hb1.block _ hz1).trans R1.out
          obtain ⟨⟨b0, b1, b2, b3, b4, b5, b6⟩, ⟨g0, g1, g2, g3, g4, g5, g6⟩, hy1⟩ := row7 r1
          have hbT := Lib.hid (hbel.trans (hb1.mono hbel.size))
          have r0 := (hbT.out.block _ hy0).trans Q0.out
          obtain ⟨⟨a0, a1, a2, a3, a4, a5, a6⟩, ⟨f0, f1, f2, f3, f4, f5, f6⟩, hy2⟩ := row7 r0
          have n2 := World.new_ne _ _ b0
          have n3 := World.new_ne _ _ a0
          have U1 := Lib.hid r1
          have hbX := Lib.hid (hbW.out.trans (hbT.out.mono hbW.out.size))
          clear r1 r0 hb1 hca
          go_wp2_with fail
          refine bodyPost_ret ?_ rfl (ParseGives.no P.out rfl ?_)
          · simp [results, Try.results22, go_sem, *]
          · (repeat (first | (with_reducible refine Below.setCell ?_ (by first | exact Nat.le_refl _ | (simp; done) | ((try simp); omega)) _) | (with_reducible refine Below.alloc ?_ (by first | (simp; done) | ((try simp); omega)) _) | with_reducible refine Below.drew ?_)); exact hbX.out
        · have TT := Lib.hid (fun w => rtip_t b w hb hok)
          have HOK := Lib.hid hok
          clear hok
          go_wp2_with fail
          refine (TT.out _).mono ?_; rintro e w2 ⟨rfl, hb1⟩
          have hz2 := hb1.size
          have r1 := (hb1.block _ hz1).trans R1.out
          obtain ⟨⟨b0, b1, b2, b3, b4, b5, b6⟩, ⟨g0, g1, g2, g3, g4, g5, g6⟩, hy1⟩ := row7 r1
          have hbT := Lib.hid (hbel.trans (hb1.mono hbel.size))
          have r0 := (hbT.out.block _ hy0).trans Q0.out
          obtain ⟨⟨a0, a1, a2, a3, a4, a5, a6⟩, ⟨f0, f1, f2, f3, f4, f5, f6⟩, hy2⟩ := row7 r0
          have n2 := World.new_ne _ _ b0
          have n3 := World.new_ne _ _ a0
          have U1 := Lib.hid r1
          have hbX := Lib.hid (hbW.out.trans (hbT.out.mono hbW.out.size))
          clear r1 r0 hb1 hca
          go_wp2_with fail
          go_roundw
          case rel =>
            refine ⟨1 + 1, e0, (It.tip b), by simp, by go_num, tipsTo_1' rfl HOK.out TO.out, ?_, ?_⟩
            · exact (row_alloc (by simp; omega) _).trans (heap_setCell_same _ _ _ _ _ _ (heap_setCell_same _ _ _ _ _ _ U1.out))
            · exact ((hbT.out.setCell (Nat.le_refl _) _).setCell (Nat.le_refl _) _).alloc (by simp; omega) _
          case measure => simp [intOf]
    · obtain rfl : j = 2 := by omega
      have P := Lib.hid (parseK_7_yes TO.out)
      obtain ⟨⟨b0, b1, b2, b3, b4, b5, b6⟩, ⟨g0, g1, g2, g3, g4, g5, g6⟩, hy1⟩ := row7 R1.out
      have r0 := (hbel.block _ hy0).trans Q0.out
      obtain ⟨⟨a0, a1, a2, a3, a4, a5, a6⟩, ⟨f0, f1, f2, f3, f4, f5, f6⟩, hy2⟩ := row7 r0
      have hbX := Lib.hid (hbW.out.trans (hbel.mono hbW.out.size))
      clear r0
      go_wp2_with fail
      refine bodyPost_ret ?_ rfl (ParseGives.yes P.out rfl ?_)
      · simp [results, Try.results22, go_sem, *] <;> (repeat' (first | exact rfl | apply And.intro))
      · (repeat (first | (with_reducible refine Below.setCell ?_ (by first | exact Nat.le_refl _ | (simp; done) | ((try simp); omega)) _) | (with_reducible refine Below.alloc ?_ (by first | (simp; done) | ((try simp); omega)) _) | with_reducible refine Below.drew ?_)); exact hbX.out
set_option maxHeartbeats 4000000 in
set_option maxRecDepth 100000 in
theorem rp_8_one (s : ByteArray) (x : List UInt8) (a : List UInt8) (ha : a.length ≤ 1000000) (w : World) (W : HasWords s x [a] w) (hk : It.kind x = 8) (hx : x.length ≤ 1000000) :
    Calls Try.prog 22 #[.string s] w (ParseGives (It.parseK 8 [a]) w) := by
  have hb0 := Lib.hid ((Below.refl w.heap.size w).alloc (Nat.le_refl _) (.cells #[.int .i64 0, .string ⟨#[]⟩, .int .i64 0, .string ⟨#[]⟩, .int .u8 0, .string ⟨#[]⟩, .int .u8 0] 76))
  have R0 := Lib.hid (show (w.alloc (.cells #[.int .i64 0, .string ⟨#[]⟩, .int .i64 0, .string ⟨#[]⟩, .int .u8 0, .string ⟨#[]⟩, .int .u8 0] 76)).heap[w.heap.size]? = some (.cells #[.int .i64 0, .string ⟨#[]⟩, .int .i64 0, .string ⟨#[]⟩, .int .u8 0, .string ⟨#[]⟩, .int .u8 0] 76 (0, 0)) from heap_alloc_new _ _)
  have C := Lib.hid W
  have KC := Lib.hid (fun w => rkind_t x w hx 8 hk)
  clear W hk
  go_enter Try.func22, Try.ntmps22
  go_wp2_with fail
  refine C.out.mono ?_; rintro e w1 ⟨A, c, hc, rfl, hs1, hb1⟩
  have r0 := (hb1.block _ (show w.heap.size < (w.alloc (.cells #[.int .i64 0, .string ⟨#[]⟩, .int .i64 0, .string ⟨#[]⟩, .int .u8 0, .string ⟨#[]⟩, .int .u8 0] 76)).heap.size by simp)).trans R0.out
  obtain ⟨⟨a0, a1, a2, a3, a4, a5, a6⟩, ⟨f0, f1, f2, f3, f4, f5, f6⟩, hy0⟩ := row7 r0
  have Q0 := Lib.hid r0
  have hbW := Lib.hid (hb0.out.trans (hb1.mono (by simp)))
  clear r0 hb1
  obtain ⟨bk, o, rfl⟩ := strs_addr hs1
  have hbk := (strs_at hs1 0 (by simp)).1
  have hc00 := at_words hs1
  have n0 := World.new_ne _ _ a0
  have n1 := World.new_ne _ _ hc00
  simp only [List.length_cons] at hc
  have hc01 := strs_2 hs1
  clear hs1
  go_wp2_with fail
  refine (KC.out _).mono ?_; rintro e w' ⟨rfl, rfl⟩
  go_wp2_with fail
  have HC0 := Lib.hid hc01
  clear hc01 hc00 n1 a0 a1 a2 a3 a4 a5 a6 f0 f1 f2 f3 f4 f5 f6 n0
  go_loopw [13] (fun i wr => EndsRel [a] 8 [] w1 i wr) (fun i _ => 1 - (intOf i).toNat)
  case atStart =>
    refine ⟨0, It.Tp.zero, It.Tp.zero, Nat.zero_le _, rfl, TipsTo.none, ?_, ?_⟩
    · exact heap_alloc_new _ _
    · exact (Below.refl _ _).alloc (Nat.le_refl _) _
  case round =>
    obtain ⟨j, e0, e1, hj, rfl, hto, hr1, hbel⟩ := hrel
    have hz1 := (row7 hr1).2.2
    have TO := Lib.hid hto
    have R1 := Lib.hid hr1
    clear hto hr1
    simp only [List.length_cons, List.length_nil] at hj
    by_cases hlt : j < 1
    · obtain rfl : j = 0 := by omega
      
      have hca : wr.cell? ⟨bk, o + 1, none⟩ = some (.string (txt a)) := (hbel.cell (p := ⟨bk, o + 1, none⟩) hbk).trans HC0.out
      cases hok : It.tipOk a
      · have TF := Lib.hid (fun w => rtip_f a w ha hok)
        have P := Lib.hid (parseK_8_no hok)
        clear hok
        go_wp2_with fail
        refine (TF.out _).mono ?_; rintro e w2 ⟨rfl, hb1⟩
        have hz2 := hb1.size
        have r1 := (hb1.block _ hz1).trans R1.out
        obtain ⟨⟨b0, b1, b2, b3, b4, b5, b6⟩, ⟨g0, g1, g2, g3, g4, g5, g6⟩, hy1⟩ := row7 r1
        have hbT := Lib.hid (hbel.trans (hb1.mono hbel.size))
        have r0 := (hbT.out.block _ hy0).trans Q0.out
        obtain ⟨⟨a0, a1, a2, a3, a4, a5, a6⟩, ⟨f0, f1, f2, f3, f4, f5, f6⟩, hy2⟩ := row7 r0
        have n2 := World.new_ne _ _ b0
        have n3 := World.new_ne _ _ a0
        have U1 := Lib.hid r1
        have hbX := Lib.hid (hbW.out.trans (hbT.out.mono hbW.out.size))
        clear r1 r0 hb1 hca
        go_wp2_with fail
        refine bodyPost_ret ?_ rfl (ParseGives.no P.out rfl ?_)
        · simp [results, Try.results22, go_sem, *]
        · (repeat (first | (with_reducible refine Below.setCell ?_ (by first | exact Nat.le_refl _ | (simp; done) | ((try simp); omega)) _) | (with_reducible refine Below.alloc ?_ (by first | (simp; done) | ((try simp); omega)) _) | with_reducible refine Below.drew ?_)); exact hbX.out
      · have TT := Lib.hid (fun w => rtip_t a w ha hok)
        have HOK := Lib.hid hok
        clear hok
        go_wp2_with fail
        refine (TT.out _).mono ?_; rintro e w2 ⟨rfl, hb1⟩
        have hz2 := hb1.size
        have r1 := (hb1.block _ hz1).trans R1.out
        obtain ⟨⟨b0, b1, b2, b3, b4, b5, b6⟩, ⟨g0, g1, g2, g3, g4, g5, g6⟩, hy1⟩ := row7 r1
        have hbT := Lib.hid (hbel.trans (hb1.mono hbel.size))
        have r0 := (hbT.out.block _ hy0).trans Q0.out
        obtain ⟨⟨a0, a1, a2, a3, a4, a5, a6⟩, ⟨f0, f1, f2, f3, f4, f5, f6⟩, hy2⟩ := row7 r0
        have n2 := World.new_ne _ _ b0
        have n3 := World.new_ne _ _ a0
        have U1 := Lib.hid r1
        have hbX := Lib.hid (hbW.out.trans (hbT.out.mono hbW.out.size))
        clear r1 r0 hb1 hca
        go_wp2_with fail
        go_roundw
        case rel =>
          refine ⟨0 + 1, (It.tip a), e1, by simp, by go_num, tipsTo_0' rfl HOK.out TO.out, ?_, ?_⟩
          · exact (row_alloc (by simp; omega) _).trans (heap_setCell_same _ _ _ _ _ _ (heap_setCell_same _ _ _ _ _ _ U1.out))
          · exact ((hbT.out.setCell (Nat.le_refl _) _).setCell (Nat.le_refl _) _).alloc (by simp; omega) _
        case measure => simp [intOf]
    · obtain rfl : j = 1 := by omega
      have P := Lib.hid (parseK_8_yes TO.out)
      obtain ⟨⟨b0, b1, b2, b3, b4, b5, b6⟩, ⟨g0, g1, g2, g3, g4, g5, g6⟩, hy1⟩ := row7 R1.out
      have r0 := (hbel.block _ hy0).trans Q0.out
      obtain ⟨⟨a0, a1, a2, a3, a4, a5, a6⟩, ⟨f0, f1, f2, f3, f4, f5, f6⟩, hy2⟩ := row7 r0
      have hbX := Lib.hid (hbW.out.trans (hbel.mono hbW.out.size))
      clear r0
      go_wp2_with fail
      refine bodyPost_ret ?_ rfl (ParseGives.yes P.out rfl ?_)
      · simp [results, Try.results22, go_sem, *] <;> (repeat' (first | exact rfl | apply And.intro))
      · (repeat (first | (with_reducible refine Below.setCell ?_ (by first | exact Nat.le_refl _ | (simp; done) | ((try simp); omega)) _) | (with_reducible refine Below.alloc ?_ (by first | (simp; done) | ((try simp); omega)) _) | with_reducible refine Below.drew ?_)); exact hbX.out
set_option maxHeartbeats 4000000 in
set_option maxRecDepth 100000 in
theorem rp_9_one (s : ByteArray) (x : List UInt8) (m a : List UInt8) (hm : m.length ≤ 1000000) (ha : a.length ≤ 1000000) (hn : Fig.nameB m = true) (w : World) (W : HasWords s x [m, a] w) (hk : It.kind x = 9) (hx : x.length ≤ 1000000) :
    Calls Try.prog 22 #[.string s] w (ParseGives (It.parseK 9 [m, a]) w) := by
  have N := Lib.hid (fun w => rname_t m w hm _ hn)
  have HN := Lib.hid hn
  clear hn hm
  have hb0 := Lib.hid ((Below.refl w.heap.size w).alloc (Nat.le_refl _) (.cells #[.int .i64 0, .string ⟨#[]⟩, .int .i64 0, .string ⟨#[]⟩, .int .u8 0, .string ⟨#[]⟩, .int .u8 0] 76))
  have R0 := Lib.hid (show (w.alloc (.cells #[.int .i64 0, .string ⟨#[]⟩, .int .i64 0, .string ⟨#[]⟩, .int .u8 0, .string ⟨#[]⟩, .int .u8 0] 76)).heap[w.heap.size]? = some (.cells #[.int .i64 0, .string ⟨#[]⟩, .int .i64 0, .string ⟨#[]⟩, .int .u8 0, .string ⟨#[]⟩, .int .u8 0] 76 (0, 0)) from heap_alloc_new _ _)
  have C := Lib.hid W
  have KC := Lib.hid (fun w => rkind_t x w hx 9 hk)
  clear W hk
  go_enter Try.func22, Try.ntmps22
  go_wp2_with fail
  refine C.out.mono ?_; rintro e w1 ⟨A, c, hc, rfl, hs1, hb1⟩
  have r0 := (hb1.block _ (show w.heap.size < (w.alloc (.cells #[.int .i64 0, .string ⟨#[]⟩, .int .i64 0, .string ⟨#[]⟩, .int .u8 0, .string ⟨#[]⟩, .int .u8 0] 76)).heap.size by simp)).trans R0.out
  obtain ⟨⟨a0, a1, a2, a3, a4, a5, a6⟩, ⟨f0, f1, f2, f3, f4, f5, f6⟩, hy0⟩ := row7 r0
  have Q0 := Lib.hid r0
  have hbW := Lib.hid (hb0.out.trans (hb1.mono (by simp)))
  clear r0 hb1
  obtain ⟨bk, o, rfl⟩ := strs_addr hs1
  have hbk := (strs_at hs1 0 (by simp)).1
  have hc00 := at_words hs1
  have n0 := World.new_ne _ _ a0
  have n1 := World.new_ne _ _ hc00
  simp only [List.length_cons] at hc
  have hc01 := strs_2 hs1
  have hc02 := strs_3 hs1
  clear hs1
  go_wp2_with fail
  refine (KC.out _).mono ?_; rintro e w' ⟨rfl, rfl⟩
  go_wp2_with fail
  refine (N.out _).mono ?_; rintro e w' ⟨rfl, rfl⟩
  go_wp2_with fail
  go_region
  go_wp2_with fail
  have HC0 := Lib.hid hc02
  clear hc01 hc02 hc00 n1 a0 a1 a2 a3 a4 a5 a6 f0 f1 f2 f3 f4 f5 f6 n0
  go_loopw [13] (fun i wr => EndsRel [a] 9 m w1 i wr) (fun i _ => 1 - (intOf i).toNat)
  case atStart =>
    refine ⟨0, It.Tp.zero, It.Tp.zero, Nat.zero_le _, rfl, TipsTo.none, ?_, ?_⟩
    · exact heap_alloc_new _ _
    · exact ((Below.refl _ _).alloc (Nat.le_refl _) _).drew
  case round =>
    obtain ⟨j, e0, e1, hj, rfl, hto, hr1, hbel⟩ := hrel
    have hz1 := (row7 hr1).2.2
    have TO := Lib.hid hto
    have R1 := Lib.hid hr1
    clear hto hr1
    simp only [List.length_cons, List.length_nil] at hj
    by_cases hlt : j < 1
    · obtain rfl : j = 0 := by omega
      
      have hca : wr.cell? ⟨bk, o + 2, none⟩ = some (.string (txt a)) := (hbel.cell (p := ⟨bk, o + 2, none⟩) hbk).trans HC0.out
      cases hok : It.tipOk a
      · have TF := Lib.hid (fun w => rtip_f a w ha hok)
        have P := Lib.hid (parseK_9_no (m := m) hok)
        clear hok
        go_wp2_with fail
        refine (TF.out _).mono ?_; rintro e w2 ⟨rfl, hb1⟩
        have hz2 := hb1.size
        have r1 := (hb1.block _ hz1).trans R1.out
        obtain ⟨⟨b0, b1, b2, b3, b4, b5, b6⟩, ⟨g0, g1, g2, g3, g4, g5, g6⟩, hy1⟩ := row7 r1
        have hbT := Lib.hid (hbel.trans (hb1.mono hbel.size))
        have r0 := (hbT.out.block _ hy0).trans Q0.out
        obtain ⟨⟨a0, a1, a2, a3, a4, a5, a6⟩, ⟨f0, f1, f2, f3, f4, f5, f6⟩, hy2⟩ := row7 r0
        have n2 := World.new_ne _ _ b0
        have n3 := World.new_ne _ _ a0
        have U1 := Lib.hid r1
        have hbX := Lib.hid (hbW.out.trans (hbT.out.mono hbW.out.size))
        clear r1 r0 hb1 hca
        go_wp2_with fail
        refine bodyPost_ret ?_ rfl (ParseGives.no P.out rfl ?_)
        · simp [results, Try.results22, go_sem, *]
        · (repeat (first | (with_reducible refine Below.setCell ?_ (by first | exact Nat.le_refl _ | (simp; done) | ((try simp); omega)) _) | (with_reducible refine Below.alloc ?_ (by first | (simp; done) | ((try simp); omega)) _) | with_reducible refine Below.drew ?_)); exact hbX.out
      · have TT := Lib.hid (fun w => rtip_t a w ha hok)
        have HOK := Lib.hid hok
        clear hok
        go_wp2_with fail
        refine (TT.out _).mono ?_; rintro e w2 ⟨rfl, hb1⟩
        have hz2 := hb1.size
        have r1 := (hb1.block _ hz1).trans R1.out
        obtain ⟨⟨b0, b1, b2, b3, b4, b5, b6⟩, ⟨g0, g1, g2, g3, g4, g5, g6⟩, hy1⟩ := row7 r1
        have hbT := Lib.hid (hbel.trans (hb1.mono hbel.size))
        have r0 := (hbT.out.block _ hy0).trans Q0.out
        obtain ⟨⟨a0, a1, a2, a3, a4, a5, a6⟩, ⟨f0, f1, f2, f3, f4, f5, f6⟩, hy2⟩ := row7 r0
        have n2 := World.new_ne _ _ b0
        have n3 := World.new_ne _ _ a0
        have U1 := Lib.hid r1
        have hbX := Lib.hid (hbW.out.trans (hbT.out.mono hbW.out.size))
        clear r1 r0 hb1 hca
        go_wp2_with fail
        go_roundw
        case rel =>
          refine ⟨0 + 1, (It.tip a), e1, by simp, by go_num, tipsTo_0' rfl HOK.out TO.out, ?_, ?_⟩
          · exact (row_alloc (by simp; omega) _).trans (heap_setCell_same _ _ _ _ _ _ (heap_setCell_same _ _ _ _ _ _ U1.out))
          · exact ((hbT.out.setCell (Nat.le_refl _) _).setCell (Nat.le_refl _) _).alloc (by simp; omega) _
        case measure => simp [intOf]
    · obtain rfl : j = 1 := by omega
      have P := Lib.hid (parseK_9_yes HN.out TO.out)
      obtain ⟨⟨b0, b1, b2, b3, b4, b5, b6⟩, ⟨g0, g1, g2, g3, g4, g5, g6⟩, hy1⟩ := row7 R1.out
      have r0 := (hbel.block _ hy0).trans Q0.out
      obtain ⟨⟨a0, a1, a2, a3, a4, a5, a6⟩, ⟨f0, f1, f2, f3, f4, f5, f6⟩, hy2⟩ := row7 r0
      have hbX := Lib.hid (hbW.out.trans (hbel.mono hbW.out.size))
      clear r0
      go_wp2_with fail
      refine bodyPost_ret ?_ rfl (ParseGives.yes P.out rfl ?_)
      · simp [results, Try.results22, go_sem, *] <;> (repeat' (first | exact rfl | apply And.intro))
      · (repeat (first | (with_reducible refine Below.setCell ?_ (by first | exact Nat.le_refl _ | (simp; done) | ((try simp); omega)) _) | (with_reducible refine Below.alloc ?_ (by first | (simp; done) | ((try simp); omega)) _) | with_reducible refine Below.drew ?_)); exact hbX.out
end Go.Proofs.Ytgajdfecajleiaa
/-
  The document's answer to layer 3's Parse, of whatever text.
-/
namespace Go.Proofs.Ytgajdfecajleiaa
open Go.RowKit

theorem rp_all (k : Int) (s : ByteArray) (x : List UInt8) (T : List (List UInt8)) (w : World) (W : HasWords s x T w) (hk : It.kind x = k) (hx : x.length ≤ 1000000) (hT : ∀ y ∈ T, y.length ≤ 1000000) (hTl : T.length ≤ 1000000) (h0 : 0 ≤ k) (h9 : k ≤ 9) :
    Calls Try.prog 22 #[.string s] w (ParseGives (It.parseK k T) w) := by
  obtain rfl | rfl | rfl | rfl | rfl | rfl | rfl | rfl | rfl | rfl : k = 0 ∨ k = 1 ∨ k = 2 ∨ k = 3 ∨ k = 4 ∨ k = 5 ∨ k = 6 ∨ k = 7 ∨ k = 8 ∨ k = 9 := by omega
  · exact rp_0 s x T hTl w W hk hx
  · by_cases h : T.length = 1
    · obtain ⟨d, rfl⟩ := List.length_eq_one_iff.1 h
      exact rp_1_one s x d (hT d (by simp)) w W hk hx
    · exact rp_1_many s x T hTl h w W hk hx
  · by_cases h : T.length = 1
    · obtain ⟨d, rfl⟩ := List.length_eq_one_iff.1 h
      exact rp_2_one s x d (hT d (by simp)) w W hk hx
    · exact rp_2_many s x T hTl h w W hk hx
  · by_cases h : T.length = 1
    · obtain ⟨d, rfl⟩ := List.length_eq_one_iff.1 h
      exact rp_3_one s x d (hT d (by simp)) w W hk hx
    · exact rp_3_many s x T hTl h w W hk hx
  · by_cases h : T.length = 1
    · obtain ⟨d, rfl⟩ := List.length_eq_one_iff.1 h
      exact rp_4_one s x d (hT d (by simp)) w W hk hx
    · exact rp_4_many s x T hTl h w W hk hx
  · match T with
    | [] => exact rp_5_nil s x w W hk hx
    | m :: T =>
      have hm := hT m (by simp)
      have hTl' : T.length ≤ 1000000 := by simp at hTl; omega
      cases hn : Fig.nameB m
      · exact rp_5_bad s x m T hm hTl' hn w W hk hx
      · by_cases h : T.length = 1
        · obtain ⟨d, rfl⟩ := List.length_eq_one_iff.1 h
          exact rp_5_one s x m d hm (hT d (by simp)) hn w W hk hx
        · exact rp_5_many s x m T hm hTl' hn h w W hk hx
  · match T with
    | [] => exact rp_6_nil s x w W hk hx
    | m :: T =>
      have hm := hT m (by simp)
      have hTl' : T.length ≤ 1000000 := by simp at hTl; omega
      cases hn : Fig.nameB m
      · exact rp_6_bad s x m T hm hTl' hn w W hk hx
      · by_cases h : T.length = 1
        · obtain ⟨d, rfl⟩ := List.length_eq_one_iff.1 h
          exact rp_6_one s x m d hm (hT d (by simp)) hn w W hk hx
        · exact rp_6_many s x m T hm hTl' hn h w W hk hx
  · by_cases h : T.length = 2
    · obtain ⟨a, b, rfl⟩ : ∃ a b, T = [a, b] := by
        match T, h with
        | [a, b], _ => exact ⟨a, b, rfl⟩
      exact rp_7_one s x a b (hT a (by simp)) (hT b (by simp)) w W hk hx
    · exact rp_7_many s x T hTl h w W hk hx
  · by_cases h : T.length = 1
    · obtain ⟨a, rfl⟩ := List.length_eq_one_iff.1 h
      exact rp_8_one s x a (hT a (by simp)) w W hk hx
    · exact rp_8_many s x T hTl h w W hk hx
  · match T with
    | [] => exact rp_9_nil s x w W hk hx
    | m :: T =>
      have hm := hT m (by simp)
      have hTl' : T.length ≤ 1000000 := by simp at hTl; omega
      cases hn : Fig.nameB m
      · exact rp_9_bad s x m T hm hTl' hn w W hk hx
      · by_cases h : T.length = 1
        · obtain ⟨a, rfl⟩ := List.length_eq_one_iff.1 h
          exact rp_9_one s x m a hm (hT a (by simp)) hn w W hk hx
        · exact rp_9_many s x m T hm hTl' hn h w W hk hx

set_option maxHeartbeats 4000000 in
set_option maxRecDepth 100000 in
theorem riparse_any (s : ByteArray) (w : World) (hs : s.size ≤ 1000000) :
    Calls Try.prog 22 #[.string s] w (ParseGives (It.parse s.data.toList) w) := by
  have W := rwords_any s (w.alloc (.cells #[.int .i64 0, .string ⟨#[]⟩, .int .i64 0, .string ⟨#[]⟩, .int .u8 0, .string ⟨#[]⟩, .int .u8 0] 76)) hs
  cases hws : Ln.ws true s.data.toList
  · have hb0 := Lib.hid ((Below.refl w.heap.size w).alloc (Nat.le_refl _) (.cells #[.int .i64 0, .string ⟨#[]⟩, .int .i64 0, .string ⟨#[]⟩, .int .u8 0, .string ⟨#[]⟩, .int .u8 0] 76))
    have R0 := Lib.hid (show (w.alloc (.cells #[.int .i64 0, .string ⟨#[]⟩, .int .i64 0, .string ⟨#[]⟩, .int .u8 0, .string ⟨#[]⟩, .int .u8 0] 76)).heap[w.heap.size]? = some (.cells #[.int .i64 0, .string ⟨#[]⟩, .int .i64 0, .string ⟨#[]⟩, .int .u8 0, .string ⟨#[]⟩, .int .u8 0] 76 (0, 0)) from heap_alloc_new _ _)
    have P := Lib.hid (parse_none hws)
    rw [Ln.words, hws] at W
    have C := Lib.hid W
    clear W hws
    go_enter Try.func22, Try.ntmps22
    go_wp2_with fail
    refine C.out.mono ?_; rintro e w1 ⟨A, c, hc, rfl, hs1, hb1⟩
    have r0 := (hb1.block _ (show w.heap.size < (w.alloc (.cells #[.int .i64 0, .string ⟨#[]⟩, .int .i64 0, .string ⟨#[]⟩, .int .u8 0, .string ⟨#[]⟩, .int .u8 0] 76)).heap.size by simp)).trans R0.out
    obtain ⟨⟨a0, a1, a2, a3, a4, a5, a6⟩, ⟨f0, f1, f2, f3, f4, f5, f6⟩, hy0⟩ := row7 r0
    have Q0 := Lib.hid r0
    have hbW := Lib.hid (hb0.out.trans (hb1.mono (by simp)))
    clear r0 hb1
    go_wp2_with fail
    refine bodyPost_ret ?_ rfl (ParseGives.no P.out rfl ?_)
    · simp [results, Try.results22, go_sem, *]
    · (repeat (with_reducible refine Below.setCell ?_ (by first | exact Nat.le_refl _ | exact Nat.le_succ _) _)); exact hbW.out
  · obtain ⟨hl, hne⟩ := Ln.line_words _ hws
    have hle := words_le _ hws
    obtain ⟨x, T, hL⟩ : ∃ x T, Ln.words s.data.toList = x :: T := by
      cases hw : Ln.words s.data.toList with
      | nil => exact absurd hw hne
      | cons x T => exact ⟨x, T, rfl⟩
    rw [hL] at hle
    have hsz : s.data.toList.length = s.size := by simp
    have hTl : T.length ≤ 1000000 := by
      have := words_len s.data.toList
      rw [hL] at this; simp at this; omega
    have hkb := kind_bd x
    rw [parse_some hws hL rfl]
    rw [hL, hws] at W
    exact rp_all _ s x T w W rfl (by have := hle x (by simp); omega) (fun y hy => by have := hle y (by simp [hy]); omega) hTl hkb.1 hkb.2
end Go.Proofs.Ytgajdfecajleiaa
/-
  Two ends, and two items, held against each other by ==.
-/
namespace Go.Proofs.Ytgajdfecajleiaa
open Go.RowKit

theorem eq_tip_in (W : World) (d : Nat) (a b : ByteArray) (i j : Int) :
    Sem.run Try.prog (Op.equalIn (d + 2) 73 (.agg #[.string a, .int .u8 i]) (.agg #[.string b, .int .u8 j])) W = .ok (a.toList == b.toList && i == j) W := by
  cases h1 : a.toList == b.toList <;> cases h2 : i == j <;> go_simp
theorem ctip : Try.prog.cellsOf 73 = 2 := by kernel_rfl
theorem part_tip0 (W : World) (x y z u : Value) : Sem.run Try.prog (part 73 #[x, y, z, u] 0) W = .ok (.agg #[x, y]) W := by
  simp [part, isAgg, run_underlying Try.underlying73]
theorem part_tip2 (W : World) (x y z u : Value) : Sem.run Try.prog (part 73 #[x, y, z, u] 2) W = .ok (.agg #[z, u]) W := by
  simp [part, isAgg, run_underlying Try.underlying73]
/-- Two ends of one item and two of another. -/
def endsB (a b a' b' : ByteArray) (i j i' j' : Int) : Bool := (a.toList == b.toList && i == j) && (a'.toList == b'.toList && i' == j')
theorem eq_ends_in (W : World) (d : Nat) (a b a' b' : ByteArray) (i j i' j' : Int) :
    Sem.run Try.prog (Op.equalIn (d + 3) 74 (.agg #[.string a, .int .u8 i, .string a', .int .u8 i']) (.agg #[.string b, .int .u8 j, .string b', .int .u8 j'])) W = .ok (endsB a b a' b' i j i' j') W := by
  obtain ⟨inf, hi⟩ := info_of_underlying (P := Try.prog) Try.underlying73
  rw [run_equalIn_array W (d + 2) _ _ Try.underlying74 hi, ctip]
  have T1 := eq_tip_in W d a b i j
  have T2 := eq_tip_in W d a' b' i' j'
  unfold endsB
  generalize (a.toList == b.toList && i == j) = p at T1 ⊢
  generalize (a'.toList == b'.toList && i' == j') = q at T2 ⊢
  cases p <;> cases q <;> simp [Op.eqItems, List.range, List.range.loop, part_tip0, part_tip2, T1, T2]
def itemB (k k' : Int) (nm nm' : ByteArray) (n n' : Int) (e : Bool) : Bool := k == k' && (nm.toList == nm'.toList && (n == n' && e))
theorem eq_item_in (W : World) (d : Nat) (k k' : Int) (nm nm' : ByteArray) (n n' : Int) (a b a' b' : ByteArray) (i j i' j' : Int) :
    Sem.run Try.prog (Op.equalIn (d + 4) 76 (.agg #[.int .i64 k, .string nm, .int .i64 n, .string a, .int .u8 i, .string a', .int .u8 i']) (.agg #[.int .i64 k', .string nm', .int .i64 n', .string b, .int .u8 j, .string b', .int .u8 j'])) W = .ok (itemB k k' nm nm' n n' (endsB a b a' b' i j i' j')) W := by
  have E := eq_ends_in W d a b a' b' i j i' j'
  generalize endsB a b a' b' i j i' j' = p at E ⊢
  unfold itemB
  cases h1 : k == k' <;> cases h2 : nm.toList == nm'.toList <;> cases h3 : n == n' <;> cases p <;> go_simp
theorem eq_item (W : World) (k k' : Int) (nm nm' : ByteArray) (n n' : Int) (a b a' b' : ByteArray) (i j i' j' : Int) :
    Sem.run Try.prog (Op.equalIn 10000 76 (.agg #[.int .i64 k, .string nm, .int .i64 n, .string a, .int .u8 i, .string a', .int .u8 i']) (.agg #[.int .i64 k', .string nm', .int .i64 n', .string b, .int .u8 j, .string b', .int .u8 j'])) W = .ok (itemB k k' nm nm' n n' (endsB a b a' b' i j i' j')) W :=
  eq_item_in W 9996 k k' nm nm' n n' a b a' b' i j i' j'
theorem itemB_eq (y z : It.Itm) : itemB y.k z.k (txt y.name) (txt z.name) y.n z.n (endsB (txt y.e0.n) (txt z.e0.n) (txt y.e1.n) (txt z.e1.n) y.e0.c.toNat z.e0.c.toNat y.e1.c.toNat z.e1.c.toNat) = decide (y = z) := by
  rw [Bool.eq_iff_iff]
  obtain ⟨k, nm, n, ⟨a, ac⟩, ⟨b, bc⟩⟩ := y
  obtain ⟨k', nm', n', ⟨a', ac'⟩, ⟨b', bc'⟩⟩ := z
  have e : ∀ x y : UInt8, ((x.toNat : Int) = y.toNat ↔ x = y) := fun x y => ⟨fun h => UInt8.toNat_inj.mp (by omega), fun h => by rw [h]⟩
  simp [itemB, endsB, toList_txt, e, and_assoc]
theorem dec_comm (x y : It.Itm) : decide (x = y) = decide (y = x) := by
  rw [Bool.eq_iff_iff, decide_eq_true_iff, decide_eq_true_iff]
  exact ⟨Eq.symm, Eq.symm⟩
theorem bin_item' (W : World) (y : It.Itm) (k : Int) (nm : ByteArray) (n : Int) (a : ByteArray) (ac : UInt8) (b : ByteArray) (bc : UInt8) :
    Sem.run Try.prog (binOp .eql 76 (.agg #[.int .i64 k, .string nm, .int .i64 n, .string a, .int .u8 ac.toNat, .string b, .int .u8 bc.toNat]) (.agg #[.int .i64 y.k, .string (txt y.name), .int .i64 y.n, .string (txt y.e0.n), .int .u8 y.e0.c.toNat, .string (txt y.e1.n), .int .u8 y.e1.c.toNat])) W = .ok (.bool (decide (y = ofV k nm n a ac b bc))) W := by
  have h := eq_item W k y.k nm (txt y.name) n y.n a (txt y.e0.n) b (txt y.e1.n) ac.toNat y.e0.c.toNat bc.toNat y.e1.c.toNat
  have e := itemB_eq (ofV k nm n a ac b bc) y
  simp only [ofV, txt_of] at e
  rw [run_eql_struct, h, e, Result.andThen_ok]
  exact congrArg (fun b => Result.ok (Value.bool b) W) (dec_comm _ _)
end Go.Proofs.Ytgajdfecajleiaa
/-
  The walks of layer 3's Right, of the document's answer to it, and of the laws' short.
-/
namespace Go.Proofs.Ytgajdfecajleiaa
open Go.RowKit

theorem print_le (k : Int) (nm : ByteArray) (n : Int) (a : ByteArray) (ac : UInt8) (b : ByteArray) (bc : UInt8) (h0 : 0 ≤ n) (h1 : n ≤ 9223372036854775807) (hn : nm.size ≤ 1000) (ha : a.size ≤ 1000) (hb : b.size ≤ 1000) : (It.print (ofV k nm n a ac b bc)).length ≤ 1000000 := by
  have hw := word_le k
  have hd := dec_l20 h0 h1
  by_cases e1 : It.isNum k = true
  · rw [print_num e1]; simp [Ln.line, Lib.join]; omega
  by_cases e2 : It.isLen k = true
  · rw [print_len (len_num e2) e2]; simp [Ln.line, Lib.join]; omega
  by_cases e3 : k = 7
  · subst e3; rw [print_7]; simp [Ln.line, Lib.join, It.tipT]; omega
  by_cases e4 : k = 8
  · subst e4; rw [print_8]; simp [Ln.line, Lib.join, It.tipT]; omega
  by_cases e5 : k = 9
  · subst e5; rw [print_9]; simp [Ln.line, Lib.join, It.tipT]; omega
  · rw [ofV_k _ _ _ _ _ _ _ (by simp [It.isNum] at e1; simp [It.isLen] at e2; omega)]; simp
set_option maxHeartbeats 4000000 in
set_option maxRecDepth 100000 in
theorem riright_any (k : Int) (nm : ByteArray) (n : Int) (a : ByteArray) (ac : UInt8) (b : ByteArray) (bc : UInt8) (w : World) (h1 : n ≤ 9223372036854775807) (hn : nm.size ≤ 1000) (ha : a.size ≤ 1000) (hb : b.size ≤ 1000) :
    Calls Try.prog 23 #[.agg #[.int .i64 k, .string nm, .int .i64 n, .string a, .int .u8 ac.toNat, .string b, .int .u8 bc.toNat]] w fun e w' => e = .returned (.bool (It.right (ofV k nm n a ac b bc))) ∧ Below w.heap.size w w' := by
  have hb0 := Lib.hid ((Below.refl w.heap.size w).alloc (Nat.le_refl _) (.cells #[.int .i64 k, .string nm, .int .i64 n, .string a, .int .u8 ac.toNat, .string b, .int .u8 bc.toNat] 76))
  have R0 := Lib.hid (show (w.alloc (.cells #[.int .i64 k, .string nm, .int .i64 n, .string a, .int .u8 ac.toNat, .string b, .int .u8 bc.toNat] 76)).heap[w.heap.size]? = some (.cells #[.int .i64 k, .string nm, .int .i64 n, .string a, .int .u8 ac.toNat, .string b, .int .u8 bc.toNat] 76 (0, 0)) from heap_alloc_new _ _)
  by_cases h0 : n < 0
  · have P := Lib.hid (show It.right (ofV k nm n a ac b bc) = false by
      rw [It.right, dec_f (show ¬ 0 ≤ (ofV k nm n a ac b bc).n by show ¬ 0 ≤ n; omega)]; rfl)
    have h0' : decide (n < 0) = true := dec_t h0
    clear h1 hn ha hb h0
    go_enter Try.func23, Try.ntmps23
    go_wp2_with fail
    go_ret
    exact ⟨retB P.out.symm, hb0.out⟩
  · have h0' : decide (n < 0) = false := dec_f h0
    have hle := print_le k nm n a ac b bc (by omega) h1 hn ha hb
    have C := Lib.hid (riprint_any k nm n a ac b bc (w.alloc (.cells #[.int .i64 k, .string nm, .int .i64 n, .string a, .int .u8 ac.toNat, .string b, .int .u8 bc.toNat] 76)) (by omega) h1 hn ha hb)
    have PC := Lib.hid (fun w => riparse_any (txt (It.print (ofV k nm n a ac b bc))) w (by rw [txt_size]; exact hle))
    have HN := Lib.hid (show decide (0 ≤ (ofV k nm n a ac b bc).n) = true from dec_t (show 0 ≤ n by omega))
    clear h1 hn ha hb h0 hle
    go_enter Try.func23, Try.ntmps23
    go_wp2_with fail
    refine C.out.mono ?_; rintro e w1 ⟨rfl, hb1⟩
    have r0 := (hb1.block _ (show w.heap.size < (w.alloc (.cells #[.int .i64 k, .string nm, .int .i64 n, .string a, .int .u8 ac.toNat, .string b, .int .u8 bc.toNat] 76)).heap.size by simp)).trans R0.out
    have hy0 := (row7 r0).2.2
    have Q0 := Lib.hid r0
    have hbW := Lib.hid (hb0.out.trans (hb1.mono (by simp)))
    clear r0 hb1
    go_wp2_with fail
    refine (PC.out _).mono ?_; rintro e w2 ⟨y, rfl, hyy, hb2⟩
    rw [txt_toList] at hyy ⊢
    have r0 := (hb2.block _ hy0).trans Q0.out
    obtain ⟨⟨a0, a1, a2, a3, a4, a5, a6⟩, ⟨f0, f1, f2, f3, f4, f5, f6⟩, hy1⟩ := row7 r0
    have n0 := World.new_ne _ _ a0
    have hbX := Lib.hid (hbW.out.trans (hb2.mono hbW.out.size))
    clear r0 hb2
    cases hpk : It.parse (It.print (ofV k nm n a ac b bc)) with
    | none =>
      have P := Lib.hid (show It.right (ofV k nm n a ac b bc) = false by rw [It.right, HN.out, hpk]; rfl)
      clear hpk hyy
      rw [Option.isSome_none]
      go_wp2_with fail
      go_ret
      exact ⟨retB P.out.symm, hbX.out.alloc (by omega) _⟩
    | some z =>
      rw [hpk] at hyy
      obtain rfl : y = z := hyy
      have P := Lib.hid (show It.right (ofV k nm n a ac b bc) = decide (y = ofV k nm n a ac b bc) by rw [It.right, HN.out, hpk, Bool.true_and]; simp)
      clear hpk
      rw [Option.isSome_some]
      have Q := fun W => bin_item' W y k nm n a ac b bc
      go_wp2_with fail
      go_ret
      exact ⟨retB P.out.symm, hbX.out.alloc (by omega) _⟩
end Go.Proofs.Ytgajdfecajleiaa
/-
  The walk of layer 3's awake: the document's examples come out as they should.
-/
namespace Go.Proofs.Ytgajdfecajleiaa
open Go.RowKit

theorem stay_row {w w' : World} {b : Nat} {r : Obj} (h : w.heap[b]? = some r) (hb : Below w.heap.size w w') : w'.heap[b]? = some r := by
  rw [hb.block b (Array.getElem?_eq_some_iff.1 h).1, h]
theorem row2 {w : World} {g : Nat} {a b : Value} {t : TypeId} (h : w.heap[g]? = some (.cells #[a, b] t (0, 0))) : (w.cell? ⟨g, 0, none⟩ = some a ∧ w.cell? ⟨g, 1, none⟩ = some b) ∧ g < w.heap.size :=
  ⟨⟨cell_of_row w g 0 _ t _ h, cell_of_row w g 1 _ t _ h⟩, (Array.getElem?_eq_some_iff.1 h).1⟩
end Go.Proofs.Ytgajdfecajleiaa
/-
  A number that was read is written just so (no function of Try is named here).
-/
namespace Go.Proofs.Ytgajdfecajleiaa
open Go.RowKit

theorem dig_back {c : UInt8} (h : Fig.dig c = true) : UInt8.ofNat (48 + ((c.toNat : Int) - 48).toNat) = c := by
  have := dig_bd h
  apply UInt8.toNat_inj.mp
  rw [UInt8.toNat_ofNat']
  omega
theorem back_rev : ∀ (r : List UInt8), r ≠ [] → r.all Fig.dig = true → r.reverse.head? ≠ some 48 → 1 ≤ Fig.val r.reverse ∧ Lib.decDigits (Fig.val r.reverse).toNat = r.reverse := by
  intro r
  induction r with
  | nil => intro h; exact absurd rfl h
  | cons c r ih =>
    intro _ hd hh
    simp only [List.all_cons, Bool.and_eq_true] at hd
    have hb := dig_bd hd.1
    rw [List.reverse_cons, Fig.val_snoc]
    cases r with
    | nil =>
      have hc : c ≠ 48 := by simpa using hh
      have hc2 : c.toNat ≠ 48 := by
        intro h; apply hc; exact UInt8.toNat_inj.mp h
      have hv : Fig.val ([] : List UInt8).reverse = 0 := rfl
      rw [hv]
      refine ⟨by omega, ?_⟩
      rw [Lib.decDigits, dif_pos (by omega)]
      have := dig_back hd.1
      simp only [List.reverse_nil, List.nil_append]
      rw [show (10 * 0 + ((c.toNat : Int) - 48)).toNat = ((c.toNat : Int) - 48).toNat by omega, this]
    | cons x xs =>
      have h2 := ih (by simp) hd.2 (by
        intro h; apply hh
        rw [List.reverse_cons]
        cases hx : (x :: xs).reverse with
        | nil => simp at hx
        | cons y ys => rw [hx] at h; simpa using h)
      refine ⟨by omega, ?_⟩
      rw [Lib.decDigits, dif_neg (by omega)]
      rw [show (10 * Fig.val (x :: xs).reverse + ((c.toNat : Int) - 48)).toNat / 10 = (Fig.val (x :: xs).reverse).toNat by omega, h2.2]
      rw [show (10 * Fig.val (x :: xs).reverse + ((c.toNat : Int) - 48)).toNat % 10 = ((c.toNat : Int) - 48).toNat by omega, dig_back hd.1]
theorem form_back (l : List UInt8) (h : Fig.form l = true) : Lib.decDigits (Fig.val l).toNat = l := by
  simp only [Fig.form, Bool.and_eq_true, decide_eq_true_eq, Bool.not_eq_true'] at h
  obtain ⟨⟨⟨h1, _⟩, hp⟩, hd⟩ := h
  by_cases h48 : l.head? = some 48
  · have hl : ¬ 1 < l.length := by
      intro hl
      rw [Fig.pad, h48, show decide (1 < l.length) = true from decide_eq_true hl] at hp
      exact absurd hp (by decide)
    match l, h1, hl, h48 with
    | [c], _, _, h48 =>
      obtain rfl : c = 48 := by simpa using h48
      rw [show Fig.val [48] = 0 from rfl, Lib.decDigits, dif_pos (by decide)]; rfl
    | _ :: _ :: _, _, hl, _ => simp at hl
    | [], h1, _, _ => simp at h1
  · have := (back_rev l.reverse (by intro h; rw [List.reverse_eq_nil_iff] at h; subst h; simp at h1) (by simpa using hd) (by simpa using h48)).2
    simpa using this
end Go.Proofs.Ytgajdfecajleiaa
/-
  What the laws of layer 3 want besides: a law's argument that is an item, opened; how long what is parsed may be; that a number is written as it was read.
-/
namespace Go.Proofs.Ytgajdfecajleiaa
open Go.ChangeShapes Go.WideShapes Go.ChangeAt Go.RowKit

theorem num_back : It.NumBack := fun d m h => by
  have hN : Fig.parseN d m = Fig.val d := by rw [Fig.parseN, if_pos h]
  rw [Fig.parseB, Bool.and_eq_true] at h
  have hd : d.all Fig.dig = true := by
    have := h.1
    rw [Fig.form, Bool.and_eq_true] at this
    exact this.2
  rw [hN]
  exact ⟨(Fig.val_bd d hd).1, form_back d h.1⟩
def ItemLe (B : Nat) (y : It.Itm) : Prop := y.name.length ≤ B ∧ y.n ≤ 1099511627776 ∧ y.e0.n.length ≤ B ∧ y.e1.n.length ≤ B
theorem tip_le {B : Nat} {a : List UInt8} (h : a.length ≤ B) : (It.tip a).n.length ≤ B := by
  unfold It.tip
  split
  · simp; omega
  · simp [It.Tp.zero]
theorem parseN_le {d : List UInt8} {m : Int} (h : Fig.parseB d m = true) : Fig.parseN d m ≤ m := by
  rw [Fig.parseN, if_pos h]
  rw [Fig.parseB, Bool.and_eq_true, decide_eq_true_iff] at h
  exact h.2
theorem most_le (k : Int) : It.most k ≤ 1099511627776 := by
  unfold It.most; repeat (split; · decide)
  decide
theorem parseK_le {B : Nat} {k : Int} {T : List (List UInt8)} {y : It.Itm} (hT : ∀ t ∈ T, t.length ≤ B) (h : It.parseK k T = some y) : ItemLe B y := by
  unfold It.parseK at h
  split at h
  · split at h
    · split at h
      · rename_i d hp
        cases h
        have := parseN_le hp
        have := most_le k
        exact ⟨by simp, by show Fig.parseN d (It.most k) ≤ _; omega, by simp [It.Tp.zero], by simp [It.Tp.zero]⟩
      · cases h
    · cases h
  · split at h
    · split at h
      · split at h
        · rename_i m d hp
          cases h
          simp only [Bool.and_eq_true] at hp
          exact ⟨hT m (by simp), parseN_le hp.1.2, by simp [It.Tp.zero], by simp [It.Tp.zero]⟩
        · cases h
      · cases h
    · split at h
      · split at h
        · split at h
          · rename_i a b hp
            cases h
            exact ⟨by simp, by simp, tip_le (hT a (by simp)), tip_le (hT b (by simp))⟩
          · cases h
        · cases h
      · split at h
        · split at h
          · split at h
            · rename_i a hp
              cases h
              exact ⟨by simp, by simp, tip_le (hT a (by simp)), by simp [It.Tp.zero]⟩
            · cases h
          · cases h
        · split at h
          · split at h
            · split at h
              · rename_i m a hp
                cases h
                exact ⟨hT m (by simp), by simp, tip_le (hT a (by simp)), by simp [It.Tp.zero]⟩
              · cases h
            · cases h
          · cases h
theorem parse_le {l : List UInt8} {y : It.Itm} (h : It.parse l = some y) : ItemLe l.length y := by
  unfold It.parse at h
  split at h
  · rename_i hw
    have hle := words_le l hw
    cases hW : Ln.words l with
    | nil => rw [hW] at h; cases h
    | cons x T =>
      rw [hW] at h hle
      exact parseK_le (fun t ht => hle t (by simp [ht])) h
  · cases h
theorem ofV_txt (y : It.Itm) : ofV y.k (txt y.name) y.n (txt y.e0.n) y.e0.c (txt y.e1.n) y.e1.c = y := by simp [ofV, txt_toList]

end Go.Proofs.Ytgajdfecajleiaa
/-
  Plain mathematics of layer 4: the items of a text's lines, the first line that is of no form, and items as a text. No program is named here.
-/
namespace Go.Proofs.Ytgajdfecajleiaa.Sh
open Go

def okL (x : List UInt8) : Bool := (It.parse x).isSome
/-- Is line k of an item's form, with a line feed? -/
def good (wh : Bool) (L : List (List UInt8)) (k : Nat) : Bool := (L[k]?).any okL && (wh || decide (k + 1 < L.length))
def bad (wh : Bool) (L : List (List UInt8)) : Option Nat := (List.range L.length).find? fun k => !good wh L k
def items (L : List (List UInt8)) : List It.Itm := L.filterMap It.parse
def parse (l : List UInt8) : List It.Itm × Nat := match bad (Ln.whole l) (Ln.split l) with
  | some k => ([], k + 1)
  | none => (items (Ln.split l), 0)
def print (L : List It.Itm) : List UInt8 := Ln.text (L.map It.print)

theorem bad_at {wh : Bool} {L : List (List UInt8)} {k : Nat} (hk : k < L.length) (h0 : ∀ j < k, good wh L j = true) (h : good wh L k = false) : bad wh L = some k := by
  rw [bad, List.find?_range_eq_some]
  refine ⟨by simp [h], by simpa using hk, fun j hj => by simp [h0 j hj]⟩
theorem bad_no {wh : Bool} {L : List (List UInt8)} (h : ∀ j < L.length, good wh L j = true) : bad wh L = none := by
  rw [bad, List.find?_range_eq_none]
  intro j hj
  simp [h j hj]
theorem bad_none {wh : Bool} {L : List (List UInt8)} (h : bad wh L = none) : ∀ j < L.length, good wh L j = true := by
  rw [bad, List.find?_range_eq_none] at h
  intro j hj
  simpa using h j hj
theorem parse_some {l : List UInt8} {k : Nat} (h : bad (Ln.whole l) (Ln.split l) = some k) : parse l = ([], k + 1) := by rw [parse, h]
theorem parse_none {l : List UInt8} (h : bad (Ln.whole l) (Ln.split l) = none) : parse l = (items (Ln.split l), 0) := by rw [parse, h]

theorem good_iff {wh : Bool} {L : List (List UInt8)} {k : Nat} (hk : k < L.length) : good wh L k = ((It.parse L[k]).isSome && (wh || decide (k + 1 < L.length))) := by
  rw [good, List.getElem?_eq_getElem hk]; rfl
theorem good_whole {L : List (List UInt8)} {wh : Bool} (h : ∀ j < L.length, good wh L j = true) (hne : L ≠ []) : wh = true := by
  have hl : 0 < L.length := List.length_pos_iff.2 hne
  have := h (L.length - 1) (by omega)
  rw [good_iff (by omega), Bool.and_eq_true] at this
  have h2 := this.2
  rw [decide_eq_false (by omega), Bool.or_false] at h2
  exact h2
theorem items_snoc {L : List (List UInt8)} {k : Nat} (hk : k < L.length) {y : It.Itm} (h : It.parse L[k] = some y) : items (L.take (k + 1)) = items (L.take k) ++ [y] := by
  rw [List.take_succ_eq_append_getElem hk, items, List.filterMap_append]
  simp [items, h]
theorem items_le (L : List (List UInt8)) : (items L).length ≤ L.length := List.length_filterMap_le _ _
theorem items_print (nb : It.NumBack) : ∀ {L : List (List UInt8)}, (∀ x ∈ L, (It.parse x).isSome = true) → (items L).map It.print = L
  | [], _ => rfl
  | x :: L, h => by
    obtain ⟨y, hy⟩ := Option.isSome_iff_exists.1 (h x (by simp))
    have ih := items_print nb (L := L) fun z hz => h z (by simp [hz])
    rw [items] at ih
    rw [items, List.filterMap_cons, hy]
    simp only [List.map_cons]
    rw [ih, (It.print_parse nb x y hy).1]
theorem good_all {wh : Bool} {L : List (List UInt8)} (h : ∀ j < L.length, good wh L j = true) : ∀ x ∈ L, (It.parse x).isSome = true := fun x hx => by
  obtain ⟨j, hj, rfl⟩ := List.getElem_of_mem hx
  have := h j hj
  rw [good_iff hj, Bool.and_eq_true] at this
  exact this.1

/-- What is parsed is written just so. -/
theorem print_parse (nb : It.NumBack) (l : List UInt8) (h : (parse l).2 = 0) : print (parse l).1 = l := by
  cases hb : bad (Ln.whole l) (Ln.split l) with
  | some k => rw [parse_some hb] at h; simp at h
  | none =>
    have hg := bad_none hb
    rw [parse_none hb, print, items_print nb (good_all hg)]
    have ht := Ln.text_split l
    suffices hw : Ln.whole l = true by rw [hw, decide_eq_true_iff] at ht; exact ht
    by_cases hne : Ln.split l = []
    · cases hw : Ln.whole l with
      | true => rfl
      | false =>
        rw [Ln.split, hw] at hne
        simp [Ln.cut] at hne
    · exact good_whole hg hne
theorem right_parse {x : It.Itm} (h : It.right x = true) : It.parse (It.print x) = some x := by
  rw [It.right, Bool.and_eq_true, decide_eq_true_iff, decide_eq_true_iff] at h
  exact h.2
theorem mem_flat : ∀ (D : List (List UInt8)) (r x : List UInt8), x ∈ D ++ [r] → x.length ≤ ((D.map (· ++ [10])).flatten ++ r).length
  | [], r, x, h => by simp at h; subst h; simp
  | d :: D, r, x, h => by
    rcases List.mem_cons.1 (by simpa using h : x ∈ d :: (D ++ [r])) with rfl | h2
    · simp <;> omega
    · have := mem_flat D r x h2
      simp only [List.map_cons, List.flatten_cons, List.length_append] at this ⊢; omega
/-- No line is longer than the text, nor are there more of them. -/
theorem split_le (l : List UInt8) : (∀ x ∈ Ln.split l, x.length ≤ l.length) ∧ (Ln.split l).length ≤ l.length + 1 := by
  have hj := Ln.st_join 10 l
  have hl := Ln.st_len 10 l
  have hm := mem_flat (Ln.st 10 l).1 (Ln.st 10 l).2
  rw [hj] at hm
  rw [Ln.split]
  split
  · exact ⟨fun x hx => hm x (by simp [hx]), by omega⟩
  · exact ⟨fun x hx => hm x hx, by simp [Ln.cut]; omega⟩
end Go.Proofs.Ytgajdfecajleiaa.Sh
/-
  Slices of items in memory: which items their cells hold, seven cells an item; kept where nothing below the heap's end changes.
-/
namespace Go.Proofs.Ytgajdfecajleiaa
open Go.RowKit

def cells7 (y : It.Itm) : List Value := [.int .i64 y.k, .string (txt y.name), .int .i64 y.n, .string (txt y.e0.n), .int .u8 y.e0.c.toNat, .string (txt y.e1.n), .int .u8 y.e1.c.toNat]
def cellsL (L : List It.Itm) : List Value := L.flatMap cells7
theorem cellsL_append (a b : List It.Itm) : cellsL (a ++ b) = cellsL a ++ cellsL b := by simp [cellsL]
theorem cellsL_one (y : It.Itm) : cellsL [y] = cells7 y := by simp [cellsL]
theorem cellsL_cons (y : It.Itm) (L : List It.Itm) : cellsL (y :: L) = cells7 y ++ cellsL L := by simp [cellsL]
theorem cells7_length (y : It.Itm) : (cells7 y).length = 7 := rfl
theorem cellsL_length : ∀ L : List It.Itm, (cellsL L).length = L.length * 7
  | [] => rfl
  | y :: L => by rw [cellsL_cons, List.length_append, cellsL_length L, cells7_length, List.length_cons]; omega
theorem cellsL_at : ∀ (L : List It.Itm) (k j : Nat) (y : It.Itm), L[k]? = some y → j < 7 → (cellsL L)[k * 7 + j]? = (cells7 y)[j]?
  | [], _, _, _, h, _ => by simp at h
  | x :: L, 0, j, y, h, hj => by
    obtain rfl : x = y := by simpa using h
    rw [cellsL_cons, List.getElem?_append_left (by rw [cells7_length]; omega)]
    congr 1; omega
  | x :: L, k + 1, j, y, h, hj => by
    rw [cellsL_cons, List.getElem?_append_right (by rw [cells7_length]; omega), cells7_length]
    rw [show (k + 1) * 7 + j - 7 = k * 7 + j by omega]
    exact cellsL_at L k j y (by simpa using h) hj
theorem cells7_one (y : It.Itm) : ∀ u ∈ cells7 y, u.oneCell' = true := fun u hu => by
  simp [cells7] at hu
  rcases hu with rfl | rfl | rfl | rfl | rfl | rfl | rfl <;> rfl
/-- Seven cells that hold an item. -/
def It7 (w : World) (b o : Nat) (y : It.Itm) : Prop := ∀ j v, (cells7 y)[j]? = some v → w.cell? ⟨b, o + j, none⟩ = some v
theorem It7.cells {w : World} {b o : Nat} {y : It.Itm} (h : It7 w b o y) :
    w.cell? ⟨b, o, none⟩ = some (.int .i64 y.k) ∧ w.cell? ⟨b, o + 1, none⟩ = some (.string (txt y.name)) ∧ w.cell? ⟨b, o + 2, none⟩ = some (.int .i64 y.n) ∧ w.cell? ⟨b, o + 3, none⟩ = some (.string (txt y.e0.n)) ∧ w.cell? ⟨b, o + 4, none⟩ = some (.int .u8 y.e0.c.toNat) ∧
      w.cell? ⟨b, o + 5, none⟩ = some (.string (txt y.e1.n)) ∧ w.cell? ⟨b, o + 6, none⟩ = some (.int .u8 y.e1.c.toNat) :=
  ⟨h 0 _ rfl, h 1 _ rfl, h 2 _ rfl, h 3 _ rfl, h 4 _ rfl, h 5 _ rfl, h 6 _ rfl⟩
/-- The cells from A on hold these items. -/
def Its (w : World) (A : Option Addr) (L : List It.Itm) : Prop :=
  L = [] ∨ ∃ b o, A = some ⟨b, o, none⟩ ∧ b < w.heap.size ∧ ∀ k y, L[k]? = some y → It7 w b (o + k * 7) y
theorem Its.nil (w : World) (A : Option Addr) : Its w A [] := .inl rfl
theorem Its.below {w w' : World} {A : Option Addr} {L : List It.Itm} {B : Nat} (h : Its w A L) (hB : B = w.heap.size) (hb : Below B w w') : Its w' A L := by
  subst hB
  rcases h with h | ⟨b, o, hA, hlt, h⟩
  · exact .inl h
  · have := hb.size
    exact .inr ⟨b, o, hA, by omega, fun k y hk j v hv => by rw [hb.cell (show (⟨b, o + k * 7 + j, none⟩ : Addr).block < w.heap.size from hlt)]; exact h k y hk j v hv⟩
theorem Its.at {w : World} {A : Option Addr} {L : List It.Itm} (h : Its w A L) {k : Nat} (hk : k < L.length) : ∃ b o, A = some ⟨b, o, none⟩ ∧ b < w.heap.size ∧ It7 w b (o + k * 7) L[k] := by
  rcases h with rfl | ⟨b, o, hA, hlt, h⟩
  · simp at hk
  · exact ⟨b, o, hA, hlt, h k _ (List.getElem?_eq_getElem hk)⟩
theorem Its.of_own {w : World} {base : Nat} {e : TypeId} {v : Value} {n : Nat} {L : List It.Itm} (h : w.ownsRow base e 7 v n (cellsL L)) :
    n = L.length ∧ ∃ A c, v = .slice A n c ∧ n ≤ c ∧ Its w A L := by
  have hl : L.length = n := by have := h.1; rw [cellsL_length] at this; omega
  refine ⟨hl.symm, ?_⟩
  rcases h.2 with ⟨rfl, rfl⟩ | ⟨g, cap, cur, rfl, _, hh, hc, _⟩
  · exact ⟨none, 0, rfl, Nat.le_refl _, .inl (List.eq_nil_of_length_eq_zero hl)⟩
  · refine ⟨some ⟨g, 0, none⟩, cap, rfl, hc, .inr ⟨g, 0, rfl, (Array.getElem?_eq_some_iff.1 hh).1, fun k y hk j u hu => ?_⟩⟩
    have hj : j < 7 := by
      have := (List.getElem?_eq_some_iff.1 hu).1
      rwa [cells7_length] at this
    have := h.cells (g := g) rfl (k * 7 + j) u (by rw [cellsL_at L k j y hk hj]; exact hu)
    rw [Go.WideShapes.add_plain] at this
    rw [show 0 + k * 7 + j = 0 + (k * 7 + j) by omega]
    exact this
theorem Its.news {w : World} {b o : Nat} {L : List It.Itm} (h : ∀ k y, L[k]? = some y → It7 w b (o + k * 7) y) : ∀ j u, (cellsL L)[j]? = some u → w.cell? ((⟨b, o, none⟩ : Addr).add j) = some u := fun j u hu => by
  have hl := (List.getElem?_eq_some_iff.1 hu).1
  rw [cellsL_length] at hl
  have hk : j / 7 < L.length := by omega
  have e := cellsL_at L (j / 7) (j % 7) _ (List.getElem?_eq_getElem hk) (Nat.mod_lt _ (by omega))
  rw [show j / 7 * 7 + j % 7 = j by omega, hu] at e
  rw [Go.WideShapes.add_plain]
  have := h (j / 7) _ (List.getElem?_eq_getElem hk) (j % 7) u e.symm
  rwa [show o + j / 7 * 7 + j % 7 = o + j by omega] at this

/-- An item's value. -/
abbrev itemV (y : It.Itm) : Value := .agg #[.int .i64 y.k, .string (txt y.name), .int .i64 y.n, .string (txt y.e0.n), .int .u8 y.e0.c.toNat, .string (txt y.e1.n), .int .u8 y.e1.c.toNat]
theorem infoItem : (Try.prog.info? 76).map (fun i => (i.zero, i.size, i.bytes)) = some (some (.agg #[.int .i64 0, .string ⟨#[]⟩, .int .i64 0, .string ⟨#[]⟩, .int .u8 0, .string ⟨#[]⟩, .int .u8 0]), 7, 80) := by kernel_rfl
/-- A fault: the error of a form, and the line; or none. -/
def faultV (n : Nat) : Value := if n = 0 then .agg #[.int .i64 0, .int .i64 0] else .agg #[.int .i64 2, .int .i64 n]
/-- What Parse leaves. -/
def SheetGives (p : List It.Itm × Nat) (w : World) (e : Ending) (w' : World) : Prop :=
  ∃ A c, p.1.length ≤ c ∧ e = .returned (.tuple #[.slice A p.1.length c, faultV p.2]) ∧ Its w' A p.1 ∧ Below w.heap.size w w'
theorem SheetGives.bad {p : List It.Itm × Nat} {w w' : World} {e : Ending} (k : Nat) (hp : p = ([], k + 1)) (he : e = .returned (.tuple #[.slice none 0 0, .agg #[.int .i64 2, .int .i64 ((k : Int) + 1)]])) (hb : Below w.heap.size w w') : SheetGives p w e w' := by
  subst hp; exact ⟨none, 0, Nat.le_refl _, by rw [he, faultV, if_neg (by omega)]; simp, .inl rfl, hb⟩
theorem SheetGives.good {p : List It.Itm × Nat} {w w' : World} {e : Ending} {A : Option Addr} {n c : Nat} {L : List It.Itm} (hp : p = (L, 0)) (hn : n = L.length) (hc : n ≤ c) (he : e = .returned (.tuple #[.slice A n c, .agg #[.int .i64 0, .int .i64 0]])) (hs : Its w' A L) (hb : Below w.heap.size w w') : SheetGives p w e w' := by
  subst hp hn; exact ⟨A, c, hc, by rw [he]; rfl, hs, hb⟩
end Go.Proofs.Ytgajdfecajleiaa
