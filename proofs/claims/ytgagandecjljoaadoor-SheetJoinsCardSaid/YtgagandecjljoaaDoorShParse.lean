/-
  The walk of layer 4's Parse.
-/
import Derived.Test.YtgagandecjljoaaDoorShSame
namespace Go.Proofs.YtgagandecjljoaaDoor
open Go.RowKit

theorem row2f {w : World} {g : Nat} {a b : Value} {t : TypeId} (h : w.heap[g]? = some (.cells #[a, b] t (0, 0))) :
    (w.cell? ⟨g, 0, none⟩ = some a ∧ w.cell? ⟨g, 1, none⟩ = some b) ∧ (w.frozen? ⟨g, 0, none⟩ = false ∧ w.frozen? ⟨g, 1, none⟩ = false) ∧ g < w.heap.size :=
  ⟨⟨cell_of_row w g 0 _ t _ h, cell_of_row w g 1 _ t _ h⟩, ⟨frozen_of_row w g 0 _ t h, frozen_of_row w g 1 _ t h⟩, (Array.getElem?_eq_some_iff.1 h).1⟩
theorem good_t {wh : Bool} {L : List (List UInt8)} {k : Nat} (hk : k < L.length) {y : It.Itm} (hy : It.parse L[k] = some y) (h : wh = true ∨ k + 1 < L.length) : Sh.good wh L k = true := by
  rw [Sh.good_iff hk, hy]
  rcases h with rfl | h
  · rfl
  · rw [decide_eq_true h]; simp
theorem good_n {wh : Bool} {L : List (List UInt8)} {k : Nat} (hk : k < L.length) (hy : It.parse L[k] = none) : Sh.good wh L k = false := by
  rw [Sh.good_iff hk, hy]; rfl
theorem good_l {L : List (List UInt8)} {k : Nat} (hk : k < L.length) (h : ¬ k + 1 < L.length) : Sh.good false L k = false := by
  rw [Sh.good_iff hk, decide_eq_false h]; simp
theorem good_next {wh : Bool} {L : List (List UInt8)} {k : Nat} (h0 : ∀ j < k, Sh.good wh L j = true) (h : Sh.good wh L k = true) : ∀ j < k + 1, Sh.good wh L j = true := fun j hj => by
  rcases Nat.lt_or_ge j k with h1 | h1
  · exact h0 j h1
  · obtain rfl : j = k := by omega
    exact h
set_option maxHeartbeats 4000000 in
set_option maxRecDepth 100000 in
theorem sparse_any (s : ByteArray) (w : World) (hE : Env w) (hs : s.size ≤ 1000000) :
    Calls Tryd.prog 9 #[.string s] w (SheetGives (Sh.parse s.data.toList) w) := by
  obtain ⟨i0, hi, hz0, hz1, hz2⟩ := info_parts infoItem
  have hb0 := Lib.hid ((Below.refl w.heap.size w).alloc (Nat.le_refl _) (.cells #[.int .i64 0, .int .i64 0] 27))
  have hE0 := hE.below rfl hb0.out
  have W := split_some s (w.alloc (.cells #[.int .i64 0, .int .i64 0] 27)) hE0.1 hs
  have R0 := Lib.hid (show (w.alloc (.cells #[.int .i64 0, .int .i64 0] 27)).heap[w.heap.size]? = some (.cells #[.int .i64 0, .int .i64 0] 27 (0, 0)) from heap_alloc_new _ _)
  have hsz : s.data.toList.length = s.size := by simp
  obtain ⟨hle, hln⟩ := Sh.split_le s.data.toList
  have PS := Lib.hid (fun k => @Sh.parse_some s.data.toList k)
  have PN := Lib.hid (@Sh.parse_none s.data.toList)
  obtain ⟨L, hL⟩ : ∃ L, Ln.split s.data.toList = L := ⟨_, rfl⟩
  obtain ⟨wh, hwh⟩ : ∃ wh, Ln.whole s.data.toList = wh := ⟨_, rfl⟩
  rw [hL, hwh] at W PS PN
  rw [hL] at hle hln
  have hlen : L.length ≤ 1000001 := by omega
  have LE := Lib.hid (fun x hx => Nat.le_trans (hle x hx) (show s.data.toList.length ≤ 1000000 by omega))
  have C := Lib.hid W
  have HE0 := Lib.hid hE0
  clear W hE hE0 hsz hle hln hL hwh
  go_enter Tryd.func9, Tryd.ntmps9
  go_wp2_with fail
  refine C.out.mono ?_; rintro e w1 ⟨a, c, hc, rfl, hs1, hb1⟩
  have HE1 := Lib.hid (HE0.out.below rfl hb1)
  have r1 := (hb1.block _ (show w.heap.size < (w.alloc (.cells #[.int .i64 0, .int .i64 0] 27)).heap.size by simp)).trans R0.out
  have R1 := Lib.hid r1
  have hz1' := (row2f r1).2.2
  have hbW := Lib.hid (hb0.out.trans (hb1.mono (by simp)))
  clear r1 hb1
  go_wp2
  go_loopw [6, 19] (fun v i wr => ∃ k : Nat, k ≤ L.length ∧ i = .int .i64 k ∧ (∀ j < k, Sh.good wh L j = true) ∧ wr.ownsRow w1.heap.size 38 7 v k (cellsL (Sh.items (L.take k))) ∧ Below w1.heap.size w1 wr) (fun _ i _ => L.length - (intOf i).toNat)
  case atStart => exact ⟨0, Nat.zero_le _, rfl, fun j hj => absurd hj (by omega), World.ownsRow_nil _ _ _ _, Below.refl _ _⟩
  case round =>
    obtain ⟨k, hk, rfl, hg, hown, hbel⟩ := hrel
    have HG := Lib.hid hg
    clear hg
    have hz := hbel.size
    have HEr := Lib.hid (HE1.out.below rfl hbel)
    have RR := Lib.hid (stay_row R1.out hbel)
    by_cases hlt : k < L.length
    · obtain ⟨a', ha, hb, hcell⟩ := (hs1.below rfl hbel).cell hlt
      cases ha
      rw [str] at hcell
      have PC := Lib.hid (iparse_any (txt L[k]) wr HEr.out (by rw [txt_size]; exact LE.out _ (List.getElem_mem hlt)))
      rw [txt_toList] at PC
      have OW := Lib.hid hown
      clear hown
      go_wp2_with fail
      refine PC.out.mono ?_; rintro e w2 ⟨y, rfl, hyy, hb2⟩
      have r2 := stay_row RR.out hb2
      obtain ⟨⟨a0, a1⟩, ⟨f0, f1⟩, hgz⟩ := row2f r2
      have n0 := World.new_ne _ _ a0
      have hbX := Lib.hid (hbW.out.trans ((hbel.mono hbW.out.size).trans (hb2.mono (Nat.le_trans hbW.out.size hz))))
      clear r2
      cases hpk : It.parse L[k] with
      | none =>
        have P := Lib.hid (PS.out _ (Sh.bad_at hlt HG.out (good_n hlt hpk)))
        clear hpk hyy
        rw [Option.isSome_none]
        cases wh
        all_goals
          go_wp2_with fail
          refine bodyPost_ret ?_ rfl (SheetGives.bad k P.out rfl ?_)
          · simp [results, Tryd.results9, go_sem, *]
          · refine Below.alloc ?_ (by simpa using hbX.out.size) _; (repeat (with_reducible refine Below.setCell ?_ (by first | exact Nat.le_refl _ | exact Nat.le_succ _) _)); exact hbX.out
      | some z =>
        obtain rfl : y = z := by rw [hpk] at hyy; exact hyy
        clear hyy
        rw [Option.isSome_some]
        by_cases hend : wh = true ∨ k + 1 < L.length
        · have HN := Lib.hid (good_next HG.out (good_t hlt hpk hend))
          have IT := Lib.hid (Sh.items_snoc hlt hpk)
          have OW2 := Lib.hid (((ownsRow_below OW.out hb2).alloc (.cells (cells7 y).toArray 38)).alloc (.cells (cells7 y).toArray 38))
          have NW := Lib.hid (show ∀ j u, (cells7 y)[j]? = some u → ((w2.alloc (.cells (cells7 y).toArray 38)).alloc (.cells (cells7 y).toArray 38)).cell? ((⟨w2.heap.size + 1, 0, none⟩ : Addr).add j) = some u from
            fun j u hu => World.news_of_block (B := w2.heap.size + 1) (cs := (cells7 y).toArray) (t := 38) (fr := (0, 0)) (by have := heap_alloc_new (w2.alloc (.cells (cells7 y).toArray 38)) (.cells (cells7 y).toArray 38); simpa using this) j u (by simpa using hu))
          clear hpk
          have hbz := hb2.size
          have hbE := Lib.hid ((hbel.trans (hb2.mono hz)).alloc (by omega) (.cells (cells7 y).toArray 38) |>.alloc (by simp; omega) (.cells (cells7 y).toArray 38))
          cases wh
          · have h1 : decide ((k : Int) < (L.length : Int) - 1) = true := dec_t (by rcases hend with h | h; cases h; omega)
            clear hend
            go_wp2_with (at_builtin; refine wpList_append_own _ rfl (.tmp 46) (.tmp 48) 22 rfl w1.heap.size 38 i0 _ 7 80 Tryd.underlying22 hi hz0 hz1 hz2 rfl (by decide) _ _ _ rfl OW2.out ⟨w2.heap.size + 1, 0, none⟩ 1 1 (cells7 y) rfl rfl NW.out (cells7_one y) (by unfold maxLen; omega) (by omega) (by simp; omega) ?_; intro v1 w3 hown1 hg1 _)
            have hB3 := Lib.hid (hbE.out.grown hg1 (by simp; omega) (fun g hg => (OW2.out.lt g hg).1))
            have O3 := Lib.hid hown1
            clear hown1 hg1
            go_wp2
            go_roundw
            case rel => exact ⟨k + 1, by omega, by go_num, HN.out, by rw [IT.out, cellsL_append, cellsL_one]; exact O3.out, hB3.out⟩
            case measure => simp [intOf]; omega
          · clear hend
            go_wp2_with (at_builtin; refine wpList_append_own _ rfl (.tmp 46) (.tmp 48) 22 rfl w1.heap.size 38 i0 _ 7 80 Tryd.underlying22 hi hz0 hz1 hz2 rfl (by decide) _ _ _ rfl OW2.out ⟨w2.heap.size + 1, 0, none⟩ 1 1 (cells7 y) rfl rfl NW.out (cells7_one y) (by unfold maxLen; omega) (by omega) (by simp; omega) ?_; intro v1 w3 hown1 hg1 _)
            have hB3 := Lib.hid (hbE.out.grown hg1 (by simp; omega) (fun g hg => (OW2.out.lt g hg).1))
            have O3 := Lib.hid hown1
            clear hown1 hg1
            go_wp2
            go_roundw
            case rel => exact ⟨k + 1, by omega, by go_num, HN.out, by rw [IT.out, cellsL_append, cellsL_one]; exact O3.out, hB3.out⟩
            case measure => simp [intOf]; omega
        · obtain ⟨hw, hl⟩ : wh = false ∧ ¬ k + 1 < L.length := ⟨by cases wh <;> simp_all, fun h => hend (.inr h)⟩
          subst hw
          have P := Lib.hid (PS.out _ (Sh.bad_at hlt HG.out (good_l hlt hl)))
          have h1 : decide ((k : Int) < (L.length : Int) - 1) = false := dec_f (by omega)
          clear hpk hend hl
          go_wp2_with fail
          refine bodyPost_ret ?_ rfl (SheetGives.bad k P.out rfl ?_)
          · simp [results, Tryd.results9, go_sem, *]
          · refine Below.alloc ?_ (by simpa using hbX.out.size) _; (repeat (with_reducible refine Below.setCell ?_ (by first | exact Nat.le_refl _ | exact Nat.le_succ _) _)); exact hbX.out
    · have H0 := Lib.hid (PN.out (Sh.bad_no fun j hj => HG.out j (by omega)))
      have RR2 := RR.out
      obtain ⟨⟨a0, a1⟩, ⟨f0, f1⟩, hgz⟩ := row2f RR2
      obtain rfl : k = L.length := by omega
      have e0 : L.take L.length = L := List.take_of_length_le (Nat.le_refl _)
      rw [e0] at hown
      obtain ⟨hn, A, c', rfl, hcap, hits⟩ := Its.of_own (ownsRow_setCell_below (ownsRow_setCell_below hown (a := ⟨w.heap.size, 0, none⟩) hz1' (.int .i64 0)) (a := ⟨w.heap.size, 1, none⟩) hz1' (.int .i64 0))
      have HN := Lib.hid hn
      clear e0 hown hn RR2
      go_wp2_with fail
      refine bodyPost_ret ?_ rfl (SheetGives.good (A := A) H0.out HN.out hcap rfl hits ?_)
      · simp [results, Tryd.results9, go_sem, *]
      · (repeat (with_reducible refine Below.setCell ?_ (by first | exact Nat.le_refl _ | exact Nat.le_succ _) _)); exact hbW.out.trans (hbel.mono hbW.out.size)
end Go.Proofs.YtgagandecjljoaaDoor

