/-
  Texts of this claim, merged: DmRef, DmRefB.
-/
import Derived.Test.YtbmmcmdopekccaaMg15
import Derived.Test.YtbmmcmdopekccaaMg17
import Derived.BigQuiet
import Derived.Deep.RegionHeld3
/-
  The walks of the document's answers of layer 9: what is asked of a point, whether two are opposed, or the same.
-/
namespace Go.Proofs.Ytbmmcmdopekccaa
open Go.RowKit

theorem Dm.posOf_drop {L : List Dm.Dem} {j : Nat} {x : Dm.Dem} (h : L[j]? = some x) (k : Int) : Dm.posOf (L.drop j) k = if x.pt = k then x.pos else Dm.posOf (L.drop (j + 1)) k := by
  obtain ⟨hj, rfl⟩ := List.getElem?_eq_some_iff.1 h
  rw [List.drop_eq_getElem_cons hj, Dm.posOf_cons]
set_option maxHeartbeats 4000000 in
set_option maxRecDepth 100000 in
theorem rdPosition_any (A : Option Addr) (c : Nat) (L : List Dm.Dem) (k : Int) (w : World) (h : LDem.Row w A L) (hl : L.length ≤ 1000000) :
    Calls Try.prog 21 #[.slice A L.length c, .int .i64 k] w (OneIs (.int .i64 (Dm.posOf L k)) w) := by
  --[
  have B0 := Lib.hid (Below.refl w.heap.size w)
  have HR := Lib.hid h
  generalize hq : Dm.posOf L k = q
  have HQ := Lib.hid hq
  clear h hq
  go_enter Try.func21, Try.ntmps21
  go_wp2_with fail
  go_loopw [5] (fun v w' => ∃ j : Nat, j ≤ L.length ∧ v = .int .i64 j ∧ Dm.posOf (L.drop j) k = q ∧ Below w.heap.size w w') (fun v _ => L.length - (intOf v).toNat)
  case atStart => exact ⟨0, Nat.zero_le _, rfl, by rw [List.drop_zero]; exact HQ.out, B0.out⟩
  case round =>
    obtain ⟨j, hj, rfl, hp, hb⟩ := hrel
    by_cases hlt : j < L.length
    · have hy := List.getElem?_eq_getElem hlt
      obtain ⟨b, o, rfl, hbb, on⟩ := (HR.out.below rfl hb).at hlt
      generalize L[j] = x at hy on
      obtain ⟨c0, c1⟩ := dem_on on
      rw [show j * LDem.m = j * 2 from rfl] at c0 c1
      rw [Dm.posOf_drop hy] at hp
      have d1 : decide ((j : Int) < (L.length : Int)) = true := dec_t (by omega)
      have i0 : (0 : Int) ≤ (j : Int) := Int.natCast_nonneg j
      have i1 : (j : Int) < (L.length : Int) := by omega
      have HB := Lib.hid hb
      have HP := Lib.hid hp
      clear hb hy on hp
      by_cases hk : x.pt = k
      · have E : (x.pt == k) = true := by rw [beq_iff_eq]; exact hk
        have HP2 := Lib.hid (show x.pos = q from by have := HP.out; rwa [if_pos hk] at this)
        clear hk
        go_wp2_with fail
        go_ret
        exact ⟨by rw [HP2.out] <;> rfl, HB.out⟩
      · have E : (x.pt == k) = false := by rw [beq_eq_false_iff_ne]; exact hk
        have HP2 := Lib.hid (show Dm.posOf (L.drop (j + 1)) k = q from by have := HP.out; rwa [if_neg hk] at this)
        clear hk
        go_wp2_with fail
        go_roundw
        case rel => exact ⟨j + 1, by omega, by go_num, HP2.out, HB.out⟩
        case measure => simp [intOf]; omega
    · obtain rfl : j = L.length := by omega
      have d1 : decide ((L.length : Int) < (L.length : Int)) = false := dec_f (by omega)
      rw [List.drop_length] at hp
      have HB := Lib.hid hb
      have HP := Lib.hid hp
      clear hb hp
      go_wp2_with fail
      go_ret
      exact ⟨by rw [← HP.out]; rfl, HB.out⟩
  --]
theorem Dm.opposed_drop {L : List Dm.Dem} {j : Nat} {x : Dm.Dem} (h : L[j]? = some x) (b : List Dm.Dem) : Dm.opposed (L.drop j) b = ((decide (Dm.posOf b x.pt ≠ 0) && decide (Dm.posOf b x.pt ≠ x.pos)) || Dm.opposed (L.drop (j + 1)) b) := by
  obtain ⟨hj, rfl⟩ := List.getElem?_eq_some_iff.1 h
  rw [List.drop_eq_getElem_cons hj]
  unfold Dm.opposed
  rw [List.any_cons]
set_option maxHeartbeats 4000000 in
set_option maxRecDepth 100000 in
theorem rdOpposed_any (A : Option Addr) (c : Nat) (L : List Dm.Dem) (A' : Option Addr) (c' : Nat) (M : List Dm.Dem) (w : World) (h : LDem.Row w A L) (hl : L.length ≤ 1000000) (h' : LDem.Row w A' M) (hl' : M.length ≤ 1000000) :
    Calls Try.prog 12 #[.slice A L.length c, .slice A' M.length c'] w (OneIs (.bool (Dm.opposed L M)) w) := by
  --[
  have B0 := Lib.hid (Below.refl w.heap.size w)
  have HR := Lib.hid h
  have CP := Lib.hid (fun W (hb : Below w.heap.size w W) k => rdPosition_any A' c' M k W (h'.below rfl hb) hl')
  generalize hq : Dm.opposed L M = q
  have HQ := Lib.hid hq
  clear h hq h' hl'
  go_enter Try.func12, Try.ntmps12
  go_wp2_with fail
  go_loopw [5] (fun v w' => ∃ j : Nat, j ≤ L.length ∧ v = .int .i64 j ∧ Dm.opposed (L.drop j) M = q ∧ Below w.heap.size w w') (fun v _ => L.length - (intOf v).toNat)
  case atStart => exact ⟨0, Nat.zero_le _, rfl, by rw [List.drop_zero]; exact HQ.out, B0.out⟩
  case round =>
    obtain ⟨j, hj, rfl, hp, hb⟩ := hrel
    by_cases hlt : j < L.length
    · have hy := List.getElem?_eq_getElem hlt
      have HB := Lib.hid hb
      obtain ⟨b, o, rfl, hbb, on⟩ := (HR.out.below rfl hb).at hlt
      generalize L[j] = x at hy on
      obtain ⟨c0, c1⟩ := dem_on on
      rw [show j * LDem.m = j * 2 from rfl] at c0 c1
      rw [Dm.opposed_drop hy] at hp
      have d1 : decide ((j : Int) < (L.length : Int)) = true := dec_t (by omega)
      have i0 : (0 : Int) ≤ (j : Int) := Int.natCast_nonneg j
      have i1 : (j : Int) < (L.length : Int) := by omega
      have C := Lib.hid (CP.out _ hb x.pt)
      have K1 := Lib.hid (fun W (hW : Below wr.heap.size wr W) => (hW.cell (p := ⟨b, o + j * 2 + 1, none⟩) hbb).trans c1)
      have HP := Lib.hid hp
      clear hb hy on hp
      generalize Dm.posOf M x.pt = n at C HP
      go_wp2_with fail
      refine C.out.mono ?_; rintro e w1 ⟨rfl, hb1⟩
      have k1 := K1.out _ hb1
      have HB1 := Lib.hid (HB.out.trans (hb1.mono HB.out.size))
      clear hb1 c0 c1 hbb C K1
      by_cases h0 : n = 0
      · have E : (n != 0) = false := by rw [bne_eq_false_iff_eq]; exact h0
        have HP2 := Lib.hid (show Dm.opposed (L.drop (j + 1)) M = q from by have := HP.out; rw [h0] at this; exact this)
        clear h0
        go_wp2_with fail
        go_roundw
        case rel => exact ⟨j + 1, by omega, by go_num, HP2.out, HB1.out⟩
        case measure => simp [intOf]; omega
      have E : (n != 0) = true := by rw [bne_iff_ne]; exact h0
      by_cases h1 : n = x.pos
      · have E2 : (n != x.pos) = false := by rw [bne_eq_false_iff_eq]; exact h1
        have HP2 := Lib.hid (show Dm.opposed (L.drop (j + 1)) M = q from by
          have := HP.out
          rw [decide_eq_false (p := n ≠ x.pos) (fun h => h h1), Bool.and_false, Bool.false_or] at this
          exact this)
        clear h0 h1
        go_wp2_with fail
        go_roundw
        case rel => exact ⟨j + 1, by omega, by go_num, HP2.out, HB1.out⟩
        case measure => simp [intOf]; omega
      · have E2 : (n != x.pos) = true := by rw [bne_iff_ne]; exact h1
        have HP2 := Lib.hid (show true = q from by
          have := HP.out
          rw [decide_eq_true (p := n ≠ x.pos) h1, decide_eq_true (p := n ≠ 0) h0, Bool.true_and, Bool.true_or] at this
          exact this)
        clear h0 h1
        go_wp2_with fail
        go_ret
        exact ⟨by rw [← HP2.out] <;> rfl, HB1.out⟩
    · obtain rfl : j = L.length := by omega
      have d1 : decide ((L.length : Int) < (L.length : Int)) = false := dec_f (by omega)
      rw [List.drop_length] at hp
      have HB := Lib.hid hb
      have HP := Lib.hid (show false = q from hp)
      clear hb hp
      go_wp2_with fail
      go_ret
      exact ⟨by rw [← HP.out] <;> rfl, HB.out⟩
  --]
end Go.Proofs.Ytbmmcmdopekccaa
/-
  The walks of the document's answers of layer 9: demands with one more.
-/
namespace Go.Proofs.Ytbmmcmdopekccaa
open Go.RowKit

namespace Dm
theorem tw_at {α : Type} {p : α → Bool} : ∀ {L : List α} {j : Nat}, j < (L.takeWhile p).length → ∃ y, L[j]? = some y ∧ p y = true
  | [], j, h => by simp at h
  | x :: L, j, h => by
    rw [List.takeWhile_cons] at h
    split at h
    · rename_i hp
      cases j with
      | zero => exact ⟨x, rfl, hp⟩
      | succ j =>
        rw [List.length_cons] at h
        obtain ⟨y, hy, hq⟩ := tw_at (p := p) (L := L) (j := j) (by omega)
        exact ⟨y, hy, hq⟩
    · simp at h
theorem tw_end {α : Type} {p : α → Bool} : ∀ {L : List α} {y : α}, L[(L.takeWhile p).length]? = some y → p y = false
  | [], y, h => by simp at h
  | x :: L, y, h => by
    rw [List.takeWhile_cons] at h
    split at h
    · exact tw_end (L := L) (by simpa using h)
    · rename_i hp
      have : x = y := by simpa using h
      rw [← this]
      exact Bool.not_eq_true _ ▸ hp
theorem tw_take {α : Type} (p : α → Bool) (L : List α) : L.take (L.takeWhile p).length = L.takeWhile p := by
  have h : L.takeWhile p ++ L.dropWhile p = L := List.takeWhile_append_dropWhile
  have := List.take_left (l₁ := L.takeWhile p) (l₂ := L.dropWhile p)
  rwa [h] at this
theorem tw_drop {α : Type} (p : α → Bool) (L : List α) : L.drop (L.takeWhile p).length = L.dropWhile p := by
  have h : L.takeWhile p ++ L.dropWhile p = L := List.takeWhile_append_dropWhile
  have := List.drop_left (l₁ := L.takeWhile p) (l₂ := L.dropWhile p)
  rwa [h] at this
theorem tw_le {α : Type} (p : α → Bool) (L : List α) : (L.takeWhile p).length ≤ L.length := by
  rw [← tw_take, List.length_take]; omega
theorem put_free {L : List Dem} {x : Dem} (h : posOf L x.pt = 0) : put L x = L.take (L.takeWhile (low x.pt)).length ++ x :: L.drop (L.takeWhile (low x.pt)).length := by
  unfold put
  rw [if_neg (by rw [h]; decide), tw_take, tw_drop]
theorem put_had {L : List Dem} {x : Dem} (h : posOf L x.pt ≠ 0) : put L x = L := by
  unfold put
  rw [if_pos h]
end Dm
/-- Demands that a call leaves: those of before, or in memory of its own. -/
def DemsOr (A : Option Addr) (L0 L : List Dm.Dem) (w : World) (e : Ending) (w' : World) : Prop := ∃ B d, e = .returned (.slice B L.length d) ∧ LDem.Row w' B L ∧ L.length ≤ d ∧ Below w.heap.size w w' ∧ ((B = A ∧ L = L0) ∨ ∀ a, B = some a → w.heap.size ≤ a.block)
theorem DemsOr.yes {A : Option Addr} {L0 L : List Dm.Dem} {w : World} {e : Ending} {w' : World} (h : DemsOr A L0 L w e w') : DemsYes L w e w' := by
  obtain ⟨B, d, h1, h2, h3, h4, -⟩ := h
  exact ⟨B, d, h1, h2, h3, h4⟩
theorem DemsOr.of_own {A : Option Addr} {L0 L : List Dm.Dem} {w w' : World} {base n : Nat} {v : Value} (h : w'.ownsRow base 58 LDem.m v n (LDem.all L)) (hn : n = L.length) (hb : Below w.heap.size w w') (hbase : w.heap.size ≤ base) : DemsOr A L0 L w (.returned v) w' := by
  subst hn
  have hlt := h.lt
  obtain ⟨-, B, d, rfl, hc, hR⟩ := Lies.Row.of_own (E := LDem) h
  exact ⟨B, d, rfl, hR, hc, hb, .inr fun a ha => by
    subst ha
    exact Nat.le_trans hbase (hlt a.block rfl).1⟩
theorem put_own {A : Option Addr} {L0 L : List Dm.Dem} {x : Dm.Dem} {j base : Nat} {w w' : World} {v : Value} (h : w'.ownsRow base 58 LDem.m v (0 + j + 1 + (L.length - j)) ([] ++ LDem.all (L.take j) ++ LDem.all [x] ++ LDem.all (L.drop j))) (hj : j ≤ L.length) (hb : Below w.heap.size w w') (hbase : w.heap.size ≤ base) : DemsOr A L0 (L.take j ++ x :: L.drop j) w (.returned v) w' := by
  have e : [] ++ LDem.all (L.take j) ++ LDem.all [x] ++ LDem.all (L.drop j) = LDem.all (L.take j ++ x :: L.drop j) := by
    rw [List.nil_append, LDem.all_append, LDem.all_one, LDem.all_cons x (L.drop j), List.append_assoc]
  rw [e] at h
  exact DemsOr.of_own h (by rw [List.length_append, List.length_cons, List.length_take, List.length_drop]; omega) hb hbase
theorem put_end {A : Option Addr} {L0 L : List Dm.Dem} {x : Dm.Dem} {j base : Nat} {w w' : World} {v : Value} (hj : L.length = j) (h : w'.ownsRow base 58 LDem.m v (0 + j + 1 + 0) ([] ++ LDem.all (L.take j) ++ LDem.all [x] ++ LDem.all [])) (hb : Below w.heap.size w w') (hbase : w.heap.size ≤ base) : DemsOr A L0 (L.take j ++ x :: L.drop j) w (.returned v) w' := by
  have h2 := put_own (A := A) (L0 := L0) (L := L) (x := x) (j := j) (base := base) (w := w) (w' := w') (v := v)
  rw [show L.length - j = 0 by omega, List.drop_eq_nil_of_le (show L.length ≤ j by omega)] at h2
  have := h2 h (by omega) hb hbase
  rwa [List.drop_eq_nil_of_le (show L.length ≤ j by omega)]
theorem cell_posn {w : World} {g : Nat} {a b : Value} {t : TypeId} (h : w.heap[g]? = some (.cells #[a, b] t (0, 0))) : w.cell? ⟨g, 0, none⟩ = some a ∧ w.cell? ⟨g, 1, none⟩ = some b := ⟨cell_of_row w g 0 _ t _ h, cell_of_row w g 1 _ t _ h⟩
set_option maxHeartbeats 16000000 in
set_option maxRecDepth 100000 in
theorem rdPut_or (A : Option Addr) (c : Nat) (L : List Dm.Dem) (x : Dm.Dem) (w : World) (h : LDem.Row w A L) (hl : L.length ≤ 1000) (hc : L.length ≤ c) :
    Calls Try.prog 80 #[.slice A L.length c, demV x] w (DemsOr A L (Dm.put L x) w) := by
  have X0 := Lib.hid ((Below.refl w.heap.size w).alloc (Nat.le_refl _) (demO x))
  have RX := Lib.hid (heap_alloc_new w (demO x))
  have HR := Lib.hid (h.below rfl X0.out)
  have CP := Lib.hid (rdPosition_any A c L x.pt _ HR.out (by omega))
  have K0 := cell_posn RX.out
  obtain ⟨x0, x1⟩ := K0
  by_cases h0 : Dm.posOf L x.pt = 0
  · rw [h0] at CP
    have P := Lib.hid (Dm.put_free h0)
    have HK := Lib.hid (fun y => (fun h => Dm.tw_end (p := Dm.low x.pt) (L := L) (y := y) h))
    have HK2 := Lib.hid (fun (j : Nat) (h : j < (L.takeWhile (Dm.low x.pt)).length) => Dm.tw_at (p := Dm.low x.pt) (L := L) h)
    have hkl := Dm.tw_le (Dm.low x.pt) L
    generalize (L.takeWhile (Dm.low x.pt)).length = k at P HK HK2 hkl
    clear h h0
    go_enter Try.func80, Try.ntmps80
    go_wp2_with fail
    generalize w.alloc (demO x) = w1 at X0 RX HR CP x0 x1 ⊢
    refine CP.out.mono ?_; rintro e w2 ⟨rfl, hb2⟩
    have B2 := Lib.hid hb2
    clear hb2 x0 x1
    go_wp2_with fail
    go_loopw [5] (fun v w' => ∃ j : Nat, j ≤ k ∧ v = .int .i64 j ∧ Below w1.heap.size w1 w') (fun v _ => L.length - (intOf v).toNat)
    case atStart => exact ⟨0, Nat.zero_le _, rfl, B2.out⟩
    case round =>
      obtain ⟨j, hj, rfl, hb⟩ := hrel
      have HB := Lib.hid hb
      obtain ⟨x0, x1⟩ := cell_posn ((hb.block _ (Array.getElem?_eq_some_iff.1 RX.out).1).trans RX.out)
      have gx := (Array.getElem?_eq_some_iff.1 ((hb.block _ (Array.getElem?_eq_some_iff.1 RX.out).1).trans RX.out)).1
      by_cases hjk : j < k
      · obtain ⟨y, hy, hlow⟩ := HK2.out j hjk
        have hlt := (List.getElem?_eq_some_iff.1 hy).1
        obtain ⟨b, o, rfl, hbb, on⟩ := (HR.out.below rfl hb).at hlt
        rw [(List.getElem?_eq_some_iff.1 hy).2] at on
        obtain ⟨c0, c1⟩ := dem_on on
        rw [show j * LDem.m = j * 2 from rfl] at c0 c1
        have D1 : decide ((j : Int) < (L.length : Int)) = true := dec_t (by omega)
        have i0 : (0 : Int) ≤ (j : Int) := Int.natCast_nonneg j
        have i1 : (j : Int) < (L.length : Int) := by omega
        have D2 : decide (y.pt < x.pt) = true := hlow
        clear hb hy hlow on
        go_upto_region 4 with fail
        go_quiet (fail)
        go_wp2_with fail
        go_roundw
        case rel => exact ⟨j + 1, by omega, by go_num, below_drewN HB.out _⟩
        case measure => simp [intOf]; omega
      · obtain rfl : j = k := by omega
        have HB6 := Lib.hid (fun q => below_drewN HB.out q)
        have HE := Lib.hid hb
        have i0 : (0 : Int) ≤ (j : Int) := Int.natCast_nonneg j
        have ic : (j : Int) ≤ (c : Int) := by omega
        have il : (j : Int) ≤ (L.length : Int) := by omega
        have lc : (L.length : Int) ≤ (c : Int) := by omega
        have ic' : j ≤ c := by omega
        clear hb hjk
        by_cases hlt : j < L.length
        · have hy := List.getElem?_eq_getElem hlt
          obtain ⟨b, o, rfl, hbb, on⟩ := (HR.out.below rfl HE.out).at hlt
          have D2 : decide ((L[j]).pt < x.pt) = false := HK.out _ hy
          generalize L[j] = y at hy on D2
          obtain ⟨c0, c1⟩ := dem_on on
          rw [show j * LDem.m = j * 2 from rfl] at c0 c1
          have D1 : decide ((j : Int) < (L.length : Int)) = true := dec_t (by omega)
          have i1 : (j : Int) < (L.length : Int) := by omega
          have hcj : ¬ c = j := by omega
          clear hy on
          go_upto_region 4 with fail
          go_quiet (fail)
          go_wp2_with fail
          go_upto_region 6 with fail
          clear c0 c1 D2 hbb D1 x0 x1 gx
          have B6 := Lib.hid (HB6.out nq)
          generalize wr.drewN nq = w6 at B6 ⊢
          obtain ⟨x0, x1⟩ := cell_posn ((B6.out.block _ (Array.getElem?_eq_some_iff.1 RX.out).1).trans RX.out)
          have gx := (Array.getElem?_eq_some_iff.1 ((B6.out.block _ (Array.getElem?_eq_some_iff.1 RX.out).1).trans RX.out)).1
          have RW := Lib.hid (fun W (hW : Below w6.heap.size w6 W) => HR.out.below rfl (B6.out.trans (hW.mono B6.out.size)))
          have KX := Lib.hid (fun W (hW : Below w6.heap.size w6 W) => cell_posn ((hW.block _ (Array.getElem?_eq_some_iff.1 ((B6.out.block _ (Array.getElem?_eq_some_iff.1 RX.out).1).trans RX.out)).1).trans ((B6.out.block _ (Array.getElem?_eq_some_iff.1 RX.out).1).trans RX.out)))
          have B0 := Lib.hid (Below.refl w6.heap.size w6)
          obtain ⟨i0', hi, hz0, hz1, hz2⟩ := info_parts infoDem
          go_region_held3 (fun W => W.cell? ⟨w.heap.size, 0, none⟩ = some (.int .i64 x.pt) ∧ W.cell? ⟨w.heap.size, 1, none⟩ = some (.int .i64 x.pos))
            (first | with_reducible exact KX.out _ B0.out.drew | with_reducible exact KX.out _ hb5 | with_reducible exact KX.out _ hb4 | with_reducible exact KX.out _ hb3 | (go_keep; done))
            (first
            | (refine step_append_at LDem (by rfl) (.tmp 28) (.tmp 31) 32 (by rfl) w6.heap.size 58 i0' _ 16 Try.underlying32 hi hz0 hz1 hz2 rfl (.slice (some ⟨w6.heap.size, 0, none⟩) 0 0) 0 [] (by rfl) ((owndm_empty w6 rfl (Nat.le_refl _)).drew) (some ⟨b, o, none⟩) j c (L.take j) (by rfl) (by rw [List.length_take]; omega) (Lies.Row.take LDem (RW.out _ (((Below.refl w6.heap.size w6).alloc (Nat.le_refl _) _).drew)) j) (by unfold maxLen; omega) (by omega) (by first | omega | (simp; done) | (simp; omega)) ?_
               intro v1 w3 hown1 hg1
               have hb3 : Below w6.heap.size w6 w3 := Below.grown (((Below.refl w6.heap.size w6).alloc (by first | omega | (simp; done) | (simp; omega)) _).drew) hg1 (by first | omega | (simp; done) | (simp; omega)) (fun k hk => by cases hk; first | omega | (simp; done) | (simp; omega))
               have hgl3 := hb3.size)
            | (refine step_append_at LDem (by rfl) (.tmp 28) (.tmp 31) 32 (by rfl) w6.heap.size 58 i0' _ 16 Try.underlying32 hi hz0 hz1 hz2 rfl (.slice (some ⟨w6.heap.size, 0, none⟩) 0 0) 0 [] (by rfl) (((owndm_empty w6 rfl (Nat.le_refl _)).alloc _).drew) (some ⟨b, o, none⟩) j c (L.take j) (by rfl) (by rw [List.length_take]; omega) (Lies.Row.take LDem (RW.out _ ((((Below.refl w6.heap.size w6).alloc (Nat.le_refl _) _).alloc (by first | omega | (simp; done) | (simp; omega)) _).drew)) j) (by unfold maxLen; omega) (by omega) (by first | omega | (simp; done) | (simp; omega)) ?_
               intro v1 w3 hown1 hg1
               have hb3 : Below w6.heap.size w6 w3 := Below.grown ((((Below.refl w6.heap.size w6).alloc (by first | omega | (simp; done) | (simp; omega)) _).alloc (by first | omega | (simp; done) | (simp; omega)) _).drew) hg1 (by first | omega | (simp; done) | (simp; omega)) (fun k hk => by cases hk; first | omega | (simp; done) | (simp; omega))
               have hgl3 := hb3.size
               have hx3 : LDem.Row w3 (some ⟨w6.heap.size + 1, 0, none⟩) [x] := OwnDm.row (own_kept (World.ownsRow.drew (owndm_one (w6.alloc (.cells #[] 58)) x (g := w6.heap.size + 1) (base := w6.heap.size) (by simp))) (fun k hk => by cases hk; exact hg1.block _ (by first | omega | (simp; done) | (simp; omega)) (fun h => by simp [Value.ownBlock] at h))))
            | (refine step_append_at LDem (by rfl) (.tmp 28) (.tmp 31) 32 (by rfl) w6.heap.size 58 i0' _ 16 Try.underlying32 hi hz0 hz1 hz2 rfl (.slice (some ⟨w6.heap.size + 1, 0, none⟩) 0 0) 0 [] (by rfl) ((owndm_empty (w6.alloc (demO x)) (by simp) (by simp)).drew) (some ⟨b, o, none⟩) j c (L.take j) (by rfl) (by rw [List.length_take]; omega) (Lies.Row.take LDem (RW.out _ ((((Below.refl w6.heap.size w6).alloc (Nat.le_refl _) _).alloc (by first | omega | (simp; done) | (simp; omega)) _).drew)) j) (by unfold maxLen; omega) (by omega) (by first | omega | (simp; done) | (simp; omega)) ?_
               intro v1 w3 hown1 hg1
               have hb3 : Below w6.heap.size w6 w3 := Below.grown ((((Below.refl w6.heap.size w6).alloc (by first | omega | (simp; done) | (simp; omega)) _).alloc (by first | omega | (simp; done) | (simp; omega)) _).drew) hg1 (by first | omega | (simp; done) | (simp; omega)) (fun k hk => by cases hk; first | omega | (simp; done) | (simp; omega))
               have hgl3 := hb3.size
               have hx3 : LDem.Row w3 (some ⟨w6.heap.size, 0, none⟩) [x] := OwnDm.row (own_kept (World.ownsRow.drew (World.ownsRow.alloc (owndm_one w6 x (g := w6.heap.size) (base := w6.heap.size) rfl (Nat.le_refl _)) _)) (fun k hk => by cases hk; exact hg1.block _ (by first | omega | (simp; done) | (simp; omega)) (fun h => by simp [Value.ownBlock] at h))))
            | (refine step_append_at LDem (by rfl) (.tmp 32) (.tmp 34) 32 (by rfl) w6.heap.size 58 i0' _ 16 Try.underlying32 hi hz0 hz1 hz2 rfl v1 (0 + j) ([] ++ LDem.all (L.take j)) (by rfl) (by first | exact hown1 | exact hown1.alloc _) (some ⟨w3.heap.size, 0, none⟩) 1 1 [x] (by rfl) rfl ((owndm_one w3 x rfl hgl3).row) (by unfold maxLen; omega) (by omega) (by first | omega | (simp; done) | (simp; omega)) ?_
               intro v2 w4 hown2 hg2
               have hb4 : Below w6.heap.size w6 w4 := Below.grown (hb3.alloc hb3.size _) hg2 (by first | omega | (simp; done) | (simp; omega)) (fun k hk => (hown1.lt k hk).1))
            | (refine step_append_at LDem (by rfl) (.tmp 32) (.tmp 34) 32 (by rfl) w6.heap.size 58 i0' _ 16 Try.underlying32 hi hz0 hz1 hz2 rfl v1 (0 + j) ([] ++ LDem.all (L.take j)) (by rfl) (by first | exact hown1 | exact hown1.alloc _) (some ⟨w6.heap.size + 1, 0, none⟩) 1 1 [x] (by rfl) rfl (hx3) (by unfold maxLen; omega) (by omega) (by first | omega | (simp; done) | (simp; omega)) ?_
               intro v2 w4 hown2 hg2
               have hb4 : Below w6.heap.size w6 w4 := Below.grown (hb3) hg2 (by first | omega | (simp; done) | (simp; omega)) (fun k hk => (hown1.lt k hk).1))
            | (refine step_append_at LDem (by rfl) (.tmp 32) (.tmp 34) 32 (by rfl) w6.heap.size 58 i0' _ 16 Try.underlying32 hi hz0 hz1 hz2 rfl v1 (0 + j) ([] ++ LDem.all (L.take j)) (by rfl) (by first | exact hown1 | exact hown1.alloc _) (some ⟨w6.heap.size, 0, none⟩) 1 1 [x] (by rfl) rfl (hx3) (by unfold maxLen; omega) (by omega) (by first | omega | (simp; done) | (simp; omega)) ?_
               intro v2 w4 hown2 hg2
               have hb4 : Below w6.heap.size w6 w4 := Below.grown (hb3) hg2 (by first | omega | (simp; done) | (simp; omega)) (fun k hk => (hown1.lt k hk).1))
            | (refine step_append_at LDem (by rfl) (.tmp 35) (.tmp 38) 32 (by rfl) w6.heap.size 58 i0' _ 16 Try.underlying32 hi hz0 hz1 hz2 rfl v2 (0 + j + 1) ([] ++ LDem.all (L.take j) ++ LDem.all [x]) (by rfl) hown2 (some ⟨b, o + j * 2, none⟩) (L.length - j) (c - j) (L.drop j) (by rfl) (by rw [List.length_drop]) (Lies.Row.drop LDem (RW.out _ hb4) j) (by unfold maxLen; omega) (by omega) hb4.size ?_
               intro v3 w5 hown3 hg3
               have hb5 : Below w6.heap.size w6 w5 := Below.grown hb4 hg3 hb4.size (fun k hk => (hown2.lt k hk).1)))
          all_goals go_wp2_with fail
          all_goals go_ret
          all_goals (rw [P.out]; exact put_own hown3 (by omega) (X0.out.trans ((B6.out.trans (hb5.mono B6.out.size)).mono X0.out.size)) (Nat.le_trans X0.out.size B6.out.size))
        · have D1 : decide ((j : Int) < (L.length : Int)) = false := dec_f (by omega)
          by_cases h0 : L = []
          · subst h0
            obtain rfl : j = 0 := by simp at hj; simp at hkl; omega
            cases A with
            | none =>
              go_upto_region 4 with fail
              go_quiet (fail)
              go_wp2_with fail
              go_upto_region 6 with fail
              clear D1 x0 x1 gx
              have B6 := Lib.hid (HB6.out nq)
              generalize wr.drewN nq = w6 at B6 ⊢
              obtain ⟨x0, x1⟩ := cell_posn ((B6.out.block _ (Array.getElem?_eq_some_iff.1 RX.out).1).trans RX.out)
              have gx := (Array.getElem?_eq_some_iff.1 ((B6.out.block _ (Array.getElem?_eq_some_iff.1 RX.out).1).trans RX.out)).1
              have RW := Lib.hid (fun W (hW : Below w6.heap.size w6 W) => HR.out.below rfl (B6.out.trans (hW.mono B6.out.size)))
              have KX := Lib.hid (fun W (hW : Below w6.heap.size w6 W) => cell_posn ((hW.block _ (Array.getElem?_eq_some_iff.1 ((B6.out.block _ (Array.getElem?_eq_some_iff.1 RX.out).1).trans RX.out)).1).trans ((B6.out.block _ (Array.getElem?_eq_some_iff.1 RX.out).1).trans RX.out)))
              have B0 := Lib.hid (Below.refl w6.heap.size w6)
              obtain ⟨i0', hi, hz0, hz1, hz2⟩ := info_parts infoDem
              go_region_held3 (fun W => W.cell? ⟨w.heap.size, 0, none⟩ = some (.int .i64 x.pt) ∧ W.cell? ⟨w.heap.size, 1, none⟩ = some (.int .i64 x.pos))
                (first | with_reducible exact KX.out _ B0.out.drew | with_reducible exact KX.out _ hb5 | with_reducible exact KX.out _ hb4 | with_reducible exact KX.out _ hb3 | (go_keep; done))
                (first
                | (refine step_append_at LDem (by rfl) (.tmp 28) (.tmp 31) 32 (by rfl) w6.heap.size 58 i0' _ 16 Try.underlying32 hi hz0 hz1 hz2 rfl (.slice (some ⟨w6.heap.size, 0, none⟩) 0 0) 0 [] (by rfl) ((owndm_empty w6 rfl (Nat.le_refl _)).drew) _ 0 _ [] (by rfl) rfl (.inl rfl) (by unfold maxLen; omega) (by omega) (by first | omega | (simp; done) | (simp; omega)) ?_
                   intro v1 w3 hown1 hg1
                   have hb3 : Below w6.heap.size w6 w3 := Below.grown (((Below.refl w6.heap.size w6).alloc (by first | omega | (simp; done) | (simp; omega)) _).drew) hg1 (by first | omega | (simp; done) | (simp; omega)) (fun k hk => by cases hk; first | omega | (simp; done) | (simp; omega))
                   have hgl3 := hb3.size)
                | (refine step_append_at LDem (by rfl) (.tmp 28) (.tmp 31) 32 (by rfl) w6.heap.size 58 i0' _ 16 Try.underlying32 hi hz0 hz1 hz2 rfl (.slice (some ⟨w6.heap.size, 0, none⟩) 0 0) 0 [] (by rfl) (((owndm_empty w6 rfl (Nat.le_refl _)).alloc _).drew) _ 0 _ [] (by rfl) rfl (.inl rfl) (by unfold maxLen; omega) (by omega) (by first | omega | (simp; done) | (simp; omega)) ?_
                   intro v1 w3 hown1 hg1
                   have hb3 : Below w6.heap.size w6 w3 := Below.grown ((((Below.refl w6.heap.size w6).alloc (by first | omega | (simp; done) | (simp; omega)) _).alloc (by first | omega | (simp; done) | (simp; omega)) _).drew) hg1 (by first | omega | (simp; done) | (simp; omega)) (fun k hk => by cases hk; first | omega | (simp; done) | (simp; omega))
                   have hgl3 := hb3.size
                   have hx3 : LDem.Row w3 (some ⟨w6.heap.size + 1, 0, none⟩) [x] := OwnDm.row (own_kept (World.ownsRow.drew (owndm_one (w6.alloc (.cells #[] 58)) x (g := w6.heap.size + 1) (base := w6.heap.size) (by simp))) (fun k hk => by cases hk; exact hg1.block _ (by first | omega | (simp; done) | (simp; omega)) (fun h => by simp [Value.ownBlock] at h))))
                | (refine step_append_at LDem (by rfl) (.tmp 28) (.tmp 31) 32 (by rfl) w6.heap.size 58 i0' _ 16 Try.underlying32 hi hz0 hz1 hz2 rfl (.slice (some ⟨w6.heap.size + 1, 0, none⟩) 0 0) 0 [] (by rfl) ((owndm_empty (w6.alloc (demO x)) (by simp) (by simp)).drew) _ 0 _ [] (by rfl) rfl (.inl rfl) (by unfold maxLen; omega) (by omega) (by first | omega | (simp; done) | (simp; omega)) ?_
                   intro v1 w3 hown1 hg1
                   have hb3 : Below w6.heap.size w6 w3 := Below.grown ((((Below.refl w6.heap.size w6).alloc (by first | omega | (simp; done) | (simp; omega)) _).alloc (by first | omega | (simp; done) | (simp; omega)) _).drew) hg1 (by first | omega | (simp; done) | (simp; omega)) (fun k hk => by cases hk; first | omega | (simp; done) | (simp; omega))
                   have hgl3 := hb3.size
                   have hx3 : LDem.Row w3 (some ⟨w6.heap.size, 0, none⟩) [x] := OwnDm.row (own_kept (World.ownsRow.drew (World.ownsRow.alloc (owndm_one w6 x (g := w6.heap.size) (base := w6.heap.size) rfl (Nat.le_refl _)) _)) (fun k hk => by cases hk; exact hg1.block _ (by first | omega | (simp; done) | (simp; omega)) (fun h => by simp [Value.ownBlock] at h))))
                | (refine step_append_at LDem (by rfl) (.tmp 32) (.tmp 34) 32 (by rfl) w6.heap.size 58 i0' _ 16 Try.underlying32 hi hz0 hz1 hz2 rfl v1 (0 + 0) ([] ++ LDem.all (List.nil (α := Dm.Dem))) (by rfl) (by first | exact hown1 | exact hown1.alloc _) (some ⟨w3.heap.size, 0, none⟩) 1 1 [x] (by rfl) rfl ((owndm_one w3 x rfl hgl3).row) (by unfold maxLen; omega) (by omega) (by first | omega | (simp; done) | (simp; omega)) ?_
                   intro v2 w4 hown2 hg2
                   have hb4 : Below w6.heap.size w6 w4 := Below.grown (hb3.alloc hb3.size _) hg2 (by first | omega | (simp; done) | (simp; omega)) (fun k hk => (hown1.lt k hk).1))
                | (refine step_append_at LDem (by rfl) (.tmp 32) (.tmp 34) 32 (by rfl) w6.heap.size 58 i0' _ 16 Try.underlying32 hi hz0 hz1 hz2 rfl v1 (0 + 0) ([] ++ LDem.all (List.nil (α := Dm.Dem))) (by rfl) (by first | exact hown1 | exact hown1.alloc _) (some ⟨w6.heap.size + 1, 0, none⟩) 1 1 [x] (by rfl) rfl (hx3) (by unfold maxLen; omega) (by omega) (by first | omega | (simp; done) | (simp; omega)) ?_
                   intro v2 w4 hown2 hg2
                   have hb4 : Below w6.heap.size w6 w4 := Below.grown (hb3) hg2 (by first | omega | (simp; done) | (simp; omega)) (fun k hk => (hown1.lt k hk).1))
                | (refine step_append_at LDem (by rfl) (.tmp 32) (.tmp 34) 32 (by rfl) w6.heap.size 58 i0' _ 16 Try.underlying32 hi hz0 hz1 hz2 rfl v1 (0 + 0) ([] ++ LDem.all (List.nil (α := Dm.Dem))) (by rfl) (by first | exact hown1 | exact hown1.alloc _) (some ⟨w6.heap.size, 0, none⟩) 1 1 [x] (by rfl) rfl (hx3) (by unfold maxLen; omega) (by omega) (by first | omega | (simp; done) | (simp; omega)) ?_
                   intro v2 w4 hown2 hg2
                   have hb4 : Below w6.heap.size w6 w4 := Below.grown (hb3) hg2 (by first | omega | (simp; done) | (simp; omega)) (fun k hk => (hown1.lt k hk).1))
                | (refine step_append_at LDem (by rfl) (.tmp 35) (.tmp 38) 32 (by rfl) w6.heap.size 58 i0' _ 16 Try.underlying32 hi hz0 hz1 hz2 rfl v2 (0 + 0 + 1) ([] ++ LDem.all (List.nil (α := Dm.Dem)) ++ LDem.all [x]) (by rfl) hown2 _ 0 _ [] (by rfl) rfl (.inl rfl) (by unfold maxLen; omega) (by omega) hb4.size ?_
                   intro v3 w5 hown3 hg3
                   have hb5 : Below w6.heap.size w6 w5 := Below.grown hb4 hg3 hb4.size (fun k hk => (hown2.lt k hk).1)))
              all_goals go_wp2_with fail
              all_goals go_ret
              all_goals (rw [P.out]; exact put_end (j := 0) (L := []) (by omega) hown3 (X0.out.trans ((B6.out.trans (hb5.mono B6.out.size)).mono X0.out.size)) (Nat.le_trans X0.out.size B6.out.size))
            | some a =>
              obtain ⟨b, o, sp⟩ := a
              by_cases hcj : c = 0
              · subst hcj
                go_upto_region 4 with fail
                go_quiet (fail)
                go_wp2_with fail
                go_upto_region 6 with fail
                clear D1 x0 x1 gx
                have B6 := Lib.hid (HB6.out nq)
                generalize wr.drewN nq = w6 at B6 ⊢
                obtain ⟨x0, x1⟩ := cell_posn ((B6.out.block _ (Array.getElem?_eq_some_iff.1 RX.out).1).trans RX.out)
                have gx := (Array.getElem?_eq_some_iff.1 ((B6.out.block _ (Array.getElem?_eq_some_iff.1 RX.out).1).trans RX.out)).1
                have RW := Lib.hid (fun W (hW : Below w6.heap.size w6 W) => HR.out.below rfl (B6.out.trans (hW.mono B6.out.size)))
                have KX := Lib.hid (fun W (hW : Below w6.heap.size w6 W) => cell_posn ((hW.block _ (Array.getElem?_eq_some_iff.1 ((B6.out.block _ (Array.getElem?_eq_some_iff.1 RX.out).1).trans RX.out)).1).trans ((B6.out.block _ (Array.getElem?_eq_some_iff.1 RX.out).1).trans RX.out)))
                have B0 := Lib.hid (Below.refl w6.heap.size w6)
                obtain ⟨i0', hi, hz0, hz1, hz2⟩ := info_parts infoDem
                go_region_held3 (fun W => W.cell? ⟨w.heap.size, 0, none⟩ = some (.int .i64 x.pt) ∧ W.cell? ⟨w.heap.size, 1, none⟩ = some (.int .i64 x.pos))
                  (first | with_reducible exact KX.out _ B0.out.drew | with_reducible exact KX.out _ hb5 | with_reducible exact KX.out _ hb4 | with_reducible exact KX.out _ hb3 | (go_keep; done))
                  (first
                  | (refine step_append_at LDem (by rfl) (.tmp 28) (.tmp 31) 32 (by rfl) w6.heap.size 58 i0' _ 16 Try.underlying32 hi hz0 hz1 hz2 rfl (.slice (some ⟨w6.heap.size, 0, none⟩) 0 0) 0 [] (by rfl) ((owndm_empty w6 rfl (Nat.le_refl _)).drew) _ 0 _ [] (by rfl) rfl (.inl rfl) (by unfold maxLen; omega) (by omega) (by first | omega | (simp; done) | (simp; omega)) ?_
                     intro v1 w3 hown1 hg1
                     have hb3 : Below w6.heap.size w6 w3 := Below.grown (((Below.refl w6.heap.size w6).alloc (by first | omega | (simp; done) | (simp; omega)) _).drew) hg1 (by first | omega | (simp; done) | (simp; omega)) (fun k hk => by cases hk; first | omega | (simp; done) | (simp; omega))
                     have hgl3 := hb3.size)
                  | (refine step_append_at LDem (by rfl) (.tmp 28) (.tmp 31) 32 (by rfl) w6.heap.size 58 i0' _ 16 Try.underlying32 hi hz0 hz1 hz2 rfl (.slice (some ⟨w6.heap.size, 0, none⟩) 0 0) 0 [] (by rfl) (((owndm_empty w6 rfl (Nat.le_refl _)).alloc _).drew) _ 0 _ [] (by rfl) rfl (.inl rfl) (by unfold maxLen; omega) (by omega) (by first | omega | (simp; done) | (simp; omega)) ?_
                     intro v1 w3 hown1 hg1
                     have hb3 : Below w6.heap.size w6 w3 := Below.grown ((((Below.refl w6.heap.size w6).alloc (by first | omega | (simp; done) | (simp; omega)) _).alloc (by first | omega | (simp; done) | (simp; omega)) _).drew) hg1 (by first | omega | (simp; done) | (simp; omega)) (fun k hk => by cases hk; first | omega | (simp; done) | (simp; omega))
                     have hgl3 := hb3.size
                     have hx3 : LDem.Row w3 (some ⟨w6.heap.size + 1, 0, none⟩) [x] := OwnDm.row (own_kept (World.ownsRow.drew (owndm_one (w6.alloc (.cells #[] 58)) x (g := w6.heap.size + 1) (base := w6.heap.size) (by simp))) (fun k hk => by cases hk; exact hg1.block _ (by first | omega | (simp; done) | (simp; omega)) (fun h => by simp [Value.ownBlock] at h))))
                  | (refine step_append_at LDem (by rfl) (.tmp 28) (.tmp 31) 32 (by rfl) w6.heap.size 58 i0' _ 16 Try.underlying32 hi hz0 hz1 hz2 rfl (.slice (some ⟨w6.heap.size + 1, 0, none⟩) 0 0) 0 [] (by rfl) ((owndm_empty (w6.alloc (demO x)) (by simp) (by simp)).drew) _ 0 _ [] (by rfl) rfl (.inl rfl) (by unfold maxLen; omega) (by omega) (by first | omega | (simp; done) | (simp; omega)) ?_
                     intro v1 w3 hown1 hg1
                     have hb3 : Below w6.heap.size w6 w3 := Below.grown ((((Below.refl w6.heap.size w6).alloc (by first | omega | (simp; done) | (simp; omega)) _).alloc (by first | omega | (simp; done) | (simp; omega)) _).drew) hg1 (by first | omega | (simp; done) | (simp; omega)) (fun k hk => by cases hk; first | omega | (simp; done) | (simp; omega))
                     have hgl3 := hb3.size
                     have hx3 : LDem.Row w3 (some ⟨w6.heap.size, 0, none⟩) [x] := OwnDm.row (own_kept (World.ownsRow.drew (World.ownsRow.alloc (owndm_one w6 x (g := w6.heap.size) (base := w6.heap.size) rfl (Nat.le_refl _)) _)) (fun k hk => by cases hk; exact hg1.block _ (by first | omega | (simp; done) | (simp; omega)) (fun h => by simp [Value.ownBlock] at h))))
                  | (refine step_append_at LDem (by rfl) (.tmp 32) (.tmp 34) 32 (by rfl) w6.heap.size 58 i0' _ 16 Try.underlying32 hi hz0 hz1 hz2 rfl v1 (0 + 0) ([] ++ LDem.all (List.nil (α := Dm.Dem))) (by rfl) (by first | exact hown1 | exact hown1.alloc _) (some ⟨w3.heap.size, 0, none⟩) 1 1 [x] (by rfl) rfl ((owndm_one w3 x rfl hgl3).row) (by unfold maxLen; omega) (by omega) (by first | omega | (simp; done) | (simp; omega)) ?_
                     intro v2 w4 hown2 hg2
                     have hb4 : Below w6.heap.size w6 w4 := Below.grown (hb3.alloc hb3.size _) hg2 (by first | omega | (simp; done) | (simp; omega)) (fun k hk => (hown1.lt k hk).1))
                  | (refine step_append_at LDem (by rfl) (.tmp 32) (.tmp 34) 32 (by rfl) w6.heap.size 58 i0' _ 16 Try.underlying32 hi hz0 hz1 hz2 rfl v1 (0 + 0) ([] ++ LDem.all (List.nil (α := Dm.Dem))) (by rfl) (by first | exact hown1 | exact hown1.alloc _) (some ⟨w6.heap.size + 1, 0, none⟩) 1 1 [x] (by rfl) rfl (hx3) (by unfold maxLen; omega) (by omega) (by first | omega | (simp; done) | (simp; omega)) ?_
                     intro v2 w4 hown2 hg2
                     have hb4 : Below w6.heap.size w6 w4 := Below.grown (hb3) hg2 (by first | omega | (simp; done) | (simp; omega)) (fun k hk => (hown1.lt k hk).1))
                  | (refine step_append_at LDem (by rfl) (.tmp 32) (.tmp 34) 32 (by rfl) w6.heap.size 58 i0' _ 16 Try.underlying32 hi hz0 hz1 hz2 rfl v1 (0 + 0) ([] ++ LDem.all (List.nil (α := Dm.Dem))) (by rfl) (by first | exact hown1 | exact hown1.alloc _) (some ⟨w6.heap.size, 0, none⟩) 1 1 [x] (by rfl) rfl (hx3) (by unfold maxLen; omega) (by omega) (by first | omega | (simp; done) | (simp; omega)) ?_
                     intro v2 w4 hown2 hg2
                     have hb4 : Below w6.heap.size w6 w4 := Below.grown (hb3) hg2 (by first | omega | (simp; done) | (simp; omega)) (fun k hk => (hown1.lt k hk).1))
                  | (refine step_append_at LDem (by rfl) (.tmp 35) (.tmp 38) 32 (by rfl) w6.heap.size 58 i0' _ 16 Try.underlying32 hi hz0 hz1 hz2 rfl v2 (0 + 0 + 1) ([] ++ LDem.all (List.nil (α := Dm.Dem)) ++ LDem.all [x]) (by rfl) hown2 _ 0 _ [] (by rfl) rfl (.inl rfl) (by unfold maxLen; omega) (by omega) hb4.size ?_
                     intro v3 w5 hown3 hg3
                     have hb5 : Below w6.heap.size w6 w5 := Below.grown hb4 hg3 hb4.size (fun k hk => (hown2.lt k hk).1)))
                all_goals go_wp2_with fail
                all_goals go_ret
                all_goals (rw [P.out]; exact put_end (j := 0) (L := []) (by omega) hown3 (X0.out.trans ((B6.out.trans (hb5.mono B6.out.size)).mono X0.out.size)) (Nat.le_trans X0.out.size B6.out.size))
              ·
                go_upto_region 4 with fail
                go_quiet (fail)
                go_wp2_with fail
                go_upto_region 6 with fail
                clear D1 x0 x1 gx
                have B6 := Lib.hid (HB6.out nq)
                generalize wr.drewN nq = w6 at B6 ⊢
                obtain ⟨x0, x1⟩ := cell_posn ((B6.out.block _ (Array.getElem?_eq_some_iff.1 RX.out).1).trans RX.out)
                have gx := (Array.getElem?_eq_some_iff.1 ((B6.out.block _ (Array.getElem?_eq_some_iff.1 RX.out).1).trans RX.out)).1
                have RW := Lib.hid (fun W (hW : Below w6.heap.size w6 W) => HR.out.below rfl (B6.out.trans (hW.mono B6.out.size)))
                have KX := Lib.hid (fun W (hW : Below w6.heap.size w6 W) => cell_posn ((hW.block _ (Array.getElem?_eq_some_iff.1 ((B6.out.block _ (Array.getElem?_eq_some_iff.1 RX.out).1).trans RX.out)).1).trans ((B6.out.block _ (Array.getElem?_eq_some_iff.1 RX.out).1).trans RX.out)))
                have B0 := Lib.hid (Below.refl w6.heap.size w6)
                obtain ⟨i0', hi, hz0, hz1, hz2⟩ := info_parts infoDem
                go_region_held3 (fun W => W.cell? ⟨w.heap.size, 0, none⟩ = some (.int .i64 x.pt) ∧ W.cell? ⟨w.heap.size, 1, none⟩ = some (.int .i64 x.pos))
                  (first | with_reducible exact KX.out _ B0.out.drew | with_reducible exact KX.out _ hb5 | with_reducible exact KX.out _ hb4 | with_reducible exact KX.out _ hb3 | (go_keep; done))
                  (first
                  | (refine step_append_at LDem (by rfl) (.tmp 28) (.tmp 31) 32 (by rfl) w6.heap.size 58 i0' _ 16 Try.underlying32 hi hz0 hz1 hz2 rfl (.slice (some ⟨w6.heap.size, 0, none⟩) 0 0) 0 [] (by rfl) ((owndm_empty w6 rfl (Nat.le_refl _)).drew) _ 0 _ [] (by rfl) rfl (.inl rfl) (by unfold maxLen; omega) (by omega) (by first | omega | (simp; done) | (simp; omega)) ?_
                     intro v1 w3 hown1 hg1
                     have hb3 : Below w6.heap.size w6 w3 := Below.grown (((Below.refl w6.heap.size w6).alloc (by first | omega | (simp; done) | (simp; omega)) _).drew) hg1 (by first | omega | (simp; done) | (simp; omega)) (fun k hk => by cases hk; first | omega | (simp; done) | (simp; omega))
                     have hgl3 := hb3.size)
                  | (refine step_append_at LDem (by rfl) (.tmp 28) (.tmp 31) 32 (by rfl) w6.heap.size 58 i0' _ 16 Try.underlying32 hi hz0 hz1 hz2 rfl (.slice (some ⟨w6.heap.size, 0, none⟩) 0 0) 0 [] (by rfl) (((owndm_empty w6 rfl (Nat.le_refl _)).alloc _).drew) _ 0 _ [] (by rfl) rfl (.inl rfl) (by unfold maxLen; omega) (by omega) (by first | omega | (simp; done) | (simp; omega)) ?_
                     intro v1 w3 hown1 hg1
                     have hb3 : Below w6.heap.size w6 w3 := Below.grown ((((Below.refl w6.heap.size w6).alloc (by first | omega | (simp; done) | (simp; omega)) _).alloc (by first | omega | (simp; done) | (simp; omega)) _).drew) hg1 (by first | omega | (simp; done) | (simp; omega)) (fun k hk => by cases hk; first | omega | (simp; done) | (simp; omega))
                     have hgl3 := hb3.size
                     have hx3 : LDem.Row w3 (some ⟨w6.heap.size + 1, 0, none⟩) [x] := OwnDm.row (own_kept (World.ownsRow.drew (owndm_one (w6.alloc (.cells #[] 58)) x (g := w6.heap.size + 1) (base := w6.heap.size) (by simp))) (fun k hk => by cases hk; exact hg1.block _ (by first | omega | (simp; done) | (simp; omega)) (fun h => by simp [Value.ownBlock] at h))))
                  | (refine step_append_at LDem (by rfl) (.tmp 28) (.tmp 31) 32 (by rfl) w6.heap.size 58 i0' _ 16 Try.underlying32 hi hz0 hz1 hz2 rfl (.slice (some ⟨w6.heap.size + 1, 0, none⟩) 0 0) 0 [] (by rfl) ((owndm_empty (w6.alloc (demO x)) (by simp) (by simp)).drew) _ 0 _ [] (by rfl) rfl (.inl rfl) (by unfold maxLen; omega) (by omega) (by first | omega | (simp; done) | (simp; omega)) ?_
                     intro v1 w3 hown1 hg1
                     have hb3 : Below w6.heap.size w6 w3 := Below.grown ((((Below.refl w6.heap.size w6).alloc (by first | omega | (simp; done) | (simp; omega)) _).alloc (by first | omega | (simp; done) | (simp; omega)) _).drew) hg1 (by first | omega | (simp; done) | (simp; omega)) (fun k hk => by cases hk; first | omega | (simp; done) | (simp; omega))
                     have hgl3 := hb3.size
                     have hx3 : LDem.Row w3 (some ⟨w6.heap.size, 0, none⟩) [x] := OwnDm.row (own_kept (World.ownsRow.drew (World.ownsRow.alloc (owndm_one w6 x (g := w6.heap.size) (base := w6.heap.size) rfl (Nat.le_refl _)) _)) (fun k hk => by cases hk; exact hg1.block _ (by first | omega | (simp; done) | (simp; omega)) (fun h => by simp [Value.ownBlock] at h))))
                  | (refine step_append_at LDem (by rfl) (.tmp 32) (.tmp 34) 32 (by rfl) w6.heap.size 58 i0' _ 16 Try.underlying32 hi hz0 hz1 hz2 rfl v1 (0 + 0) ([] ++ LDem.all (List.nil (α := Dm.Dem))) (by rfl) (by first | exact hown1 | exact hown1.alloc _) (some ⟨w3.heap.size, 0, none⟩) 1 1 [x] (by rfl) rfl ((owndm_one w3 x rfl hgl3).row) (by unfold maxLen; omega) (by omega) (by first | omega | (simp; done) | (simp; omega)) ?_
                     intro v2 w4 hown2 hg2
                     have hb4 : Below w6.heap.size w6 w4 := Below.grown (hb3.alloc hb3.size _) hg2 (by first | omega | (simp; done) | (simp; omega)) (fun k hk => (hown1.lt k hk).1))
                  | (refine step_append_at LDem (by rfl) (.tmp 32) (.tmp 34) 32 (by rfl) w6.heap.size 58 i0' _ 16 Try.underlying32 hi hz0 hz1 hz2 rfl v1 (0 + 0) ([] ++ LDem.all (List.nil (α := Dm.Dem))) (by rfl) (by first | exact hown1 | exact hown1.alloc _) (some ⟨w6.heap.size + 1, 0, none⟩) 1 1 [x] (by rfl) rfl (hx3) (by unfold maxLen; omega) (by omega) (by first | omega | (simp; done) | (simp; omega)) ?_
                     intro v2 w4 hown2 hg2
                     have hb4 : Below w6.heap.size w6 w4 := Below.grown (hb3) hg2 (by first | omega | (simp; done) | (simp; omega)) (fun k hk => (hown1.lt k hk).1))
                  | (refine step_append_at LDem (by rfl) (.tmp 32) (.tmp 34) 32 (by rfl) w6.heap.size 58 i0' _ 16 Try.underlying32 hi hz0 hz1 hz2 rfl v1 (0 + 0) ([] ++ LDem.all (List.nil (α := Dm.Dem))) (by rfl) (by first | exact hown1 | exact hown1.alloc _) (some ⟨w6.heap.size, 0, none⟩) 1 1 [x] (by rfl) rfl (hx3) (by unfold maxLen; omega) (by omega) (by first | omega | (simp; done) | (simp; omega)) ?_
                     intro v2 w4 hown2 hg2
                     have hb4 : Below w6.heap.size w6 w4 := Below.grown (hb3) hg2 (by first | omega | (simp; done) | (simp; omega)) (fun k hk => (hown1.lt k hk).1))
                  | (refine step_append_at LDem (by rfl) (.tmp 35) (.tmp 38) 32 (by rfl) w6.heap.size 58 i0' _ 16 Try.underlying32 hi hz0 hz1 hz2 rfl v2 (0 + 0 + 1) ([] ++ LDem.all (List.nil (α := Dm.Dem)) ++ LDem.all [x]) (by rfl) hown2 _ 0 _ [] (by rfl) rfl (.inl rfl) (by unfold maxLen; omega) (by omega) hb4.size ?_
                     intro v3 w5 hown3 hg3
                     have hb5 : Below w6.heap.size w6 w5 := Below.grown hb4 hg3 hb4.size (fun k hk => (hown2.lt k hk).1)))
                all_goals go_wp2_with fail
                all_goals go_ret
                all_goals (rw [P.out]; exact put_end (j := 0) (L := []) (by omega) hown3 (X0.out.trans ((B6.out.trans (hb5.mono B6.out.size)).mono X0.out.size)) (Nat.le_trans X0.out.size B6.out.size))
          · obtain ⟨b, o, rfl, -, -⟩ := HR.out.at (show 0 < L.length from List.length_pos_iff.2 h0)
            by_cases hcj : c = j
            · subst hcj
              have hjl : L.length = c := by omega
              go_upto_region 4 with fail
              go_quiet (fail)
              go_wp2_with fail
              go_upto_region 6 with fail
              clear D1 x0 x1 gx
              have B6 := Lib.hid (HB6.out nq)
              generalize wr.drewN nq = w6 at B6 ⊢
              obtain ⟨x0, x1⟩ := cell_posn ((B6.out.block _ (Array.getElem?_eq_some_iff.1 RX.out).1).trans RX.out)
              have gx := (Array.getElem?_eq_some_iff.1 ((B6.out.block _ (Array.getElem?_eq_some_iff.1 RX.out).1).trans RX.out)).1
              have RW := Lib.hid (fun W (hW : Below w6.heap.size w6 W) => HR.out.below rfl (B6.out.trans (hW.mono B6.out.size)))
              have KX := Lib.hid (fun W (hW : Below w6.heap.size w6 W) => cell_posn ((hW.block _ (Array.getElem?_eq_some_iff.1 ((B6.out.block _ (Array.getElem?_eq_some_iff.1 RX.out).1).trans RX.out)).1).trans ((B6.out.block _ (Array.getElem?_eq_some_iff.1 RX.out).1).trans RX.out)))
              have B0 := Lib.hid (Below.refl w6.heap.size w6)
              obtain ⟨i0', hi, hz0, hz1, hz2⟩ := info_parts infoDem
              go_region_held3 (fun W => W.cell? ⟨w.heap.size, 0, none⟩ = some (.int .i64 x.pt) ∧ W.cell? ⟨w.heap.size, 1, none⟩ = some (.int .i64 x.pos))
                (first | with_reducible exact KX.out _ B0.out.drew | with_reducible exact KX.out _ hb5 | with_reducible exact KX.out _ hb4 | with_reducible exact KX.out _ hb3 | (go_keep; done))
                (first
                | (refine step_append_at LDem (by rfl) (.tmp 28) (.tmp 31) 32 (by rfl) w6.heap.size 58 i0' _ 16 Try.underlying32 hi hz0 hz1 hz2 rfl (.slice (some ⟨w6.heap.size, 0, none⟩) 0 0) 0 [] (by rfl) ((owndm_empty w6 rfl (Nat.le_refl _)).drew) (some ⟨b, o, none⟩) c c (L.take c) (by rfl) (by rw [List.length_take]; omega) (Lies.Row.take LDem (RW.out _ (((Below.refl w6.heap.size w6).alloc (Nat.le_refl _) _).drew)) c) (by unfold maxLen; omega) (by omega) (by first | omega | (simp; done) | (simp; omega)) ?_
                   intro v1 w3 hown1 hg1
                   have hb3 : Below w6.heap.size w6 w3 := Below.grown (((Below.refl w6.heap.size w6).alloc (by first | omega | (simp; done) | (simp; omega)) _).drew) hg1 (by first | omega | (simp; done) | (simp; omega)) (fun k hk => by cases hk; first | omega | (simp; done) | (simp; omega))
                   have hgl3 := hb3.size)
                | (refine step_append_at LDem (by rfl) (.tmp 28) (.tmp 31) 32 (by rfl) w6.heap.size 58 i0' _ 16 Try.underlying32 hi hz0 hz1 hz2 rfl (.slice (some ⟨w6.heap.size, 0, none⟩) 0 0) 0 [] (by rfl) (((owndm_empty w6 rfl (Nat.le_refl _)).alloc _).drew) (some ⟨b, o, none⟩) c c (L.take c) (by rfl) (by rw [List.length_take]; omega) (Lies.Row.take LDem (RW.out _ ((((Below.refl w6.heap.size w6).alloc (Nat.le_refl _) _).alloc (by first | omega | (simp; done) | (simp; omega)) _).drew)) c) (by unfold maxLen; omega) (by omega) (by first | omega | (simp; done) | (simp; omega)) ?_
                   intro v1 w3 hown1 hg1
                   have hb3 : Below w6.heap.size w6 w3 := Below.grown ((((Below.refl w6.heap.size w6).alloc (by first | omega | (simp; done) | (simp; omega)) _).alloc (by first | omega | (simp; done) | (simp; omega)) _).drew) hg1 (by first | omega | (simp; done) | (simp; omega)) (fun k hk => by cases hk; first | omega | (simp; done) | (simp; omega))
                   have hgl3 := hb3.size
                   have hx3 : LDem.Row w3 (some ⟨w6.heap.size + 1, 0, none⟩) [x] := OwnDm.row (own_kept (World.ownsRow.drew (owndm_one (w6.alloc (.cells #[] 58)) x (g := w6.heap.size + 1) (base := w6.heap.size) (by simp))) (fun k hk => by cases hk; exact hg1.block _ (by first | omega | (simp; done) | (simp; omega)) (fun h => by simp [Value.ownBlock] at h))))
                | (refine step_append_at LDem (by rfl) (.tmp 28) (.tmp 31) 32 (by rfl) w6.heap.size 58 i0' _ 16 Try.underlying32 hi hz0 hz1 hz2 rfl (.slice (some ⟨w6.heap.size + 1, 0, none⟩) 0 0) 0 [] (by rfl) ((owndm_empty (w6.alloc (demO x)) (by simp) (by simp)).drew) (some ⟨b, o, none⟩) c c (L.take c) (by rfl) (by rw [List.length_take]; omega) (Lies.Row.take LDem (RW.out _ ((((Below.refl w6.heap.size w6).alloc (Nat.le_refl _) _).alloc (by first | omega | (simp; done) | (simp; omega)) _).drew)) c) (by unfold maxLen; omega) (by omega) (by first | omega | (simp; done) | (simp; omega)) ?_
                   intro v1 w3 hown1 hg1
                   have hb3 : Below w6.heap.size w6 w3 := Below.grown ((((Below.refl w6.heap.size w6).alloc (by first | omega | (simp; done) | (simp; omega)) _).alloc (by first | omega | (simp; done) | (simp; omega)) _).drew) hg1 (by first | omega | (simp; done) | (simp; omega)) (fun k hk => by cases hk; first | omega | (simp; done) | (simp; omega))
                   have hgl3 := hb3.size
                   have hx3 : LDem.Row w3 (some ⟨w6.heap.size, 0, none⟩) [x] := OwnDm.row (own_kept (World.ownsRow.drew (World.ownsRow.alloc (owndm_one w6 x (g := w6.heap.size) (base := w6.heap.size) rfl (Nat.le_refl _)) _)) (fun k hk => by cases hk; exact hg1.block _ (by first | omega | (simp; done) | (simp; omega)) (fun h => by simp [Value.ownBlock] at h))))
                | (refine step_append_at LDem (by rfl) (.tmp 32) (.tmp 34) 32 (by rfl) w6.heap.size 58 i0' _ 16 Try.underlying32 hi hz0 hz1 hz2 rfl v1 (0 + c) ([] ++ LDem.all (L.take c)) (by rfl) (by first | exact hown1 | exact hown1.alloc _) (some ⟨w3.heap.size, 0, none⟩) 1 1 [x] (by rfl) rfl ((owndm_one w3 x rfl hgl3).row) (by unfold maxLen; omega) (by omega) (by first | omega | (simp; done) | (simp; omega)) ?_
                   intro v2 w4 hown2 hg2
                   have hb4 : Below w6.heap.size w6 w4 := Below.grown (hb3.alloc hb3.size _) hg2 (by first | omega | (simp; done) | (simp; omega)) (fun k hk => (hown1.lt k hk).1))
                | (refine step_append_at LDem (by rfl) (.tmp 32) (.tmp 34) 32 (by rfl) w6.heap.size 58 i0' _ 16 Try.underlying32 hi hz0 hz1 hz2 rfl v1 (0 + c) ([] ++ LDem.all (L.take c)) (by rfl) (by first | exact hown1 | exact hown1.alloc _) (some ⟨w6.heap.size + 1, 0, none⟩) 1 1 [x] (by rfl) rfl (hx3) (by unfold maxLen; omega) (by omega) (by first | omega | (simp; done) | (simp; omega)) ?_
                   intro v2 w4 hown2 hg2
                   have hb4 : Below w6.heap.size w6 w4 := Below.grown (hb3) hg2 (by first | omega | (simp; done) | (simp; omega)) (fun k hk => (hown1.lt k hk).1))
                | (refine step_append_at LDem (by rfl) (.tmp 32) (.tmp 34) 32 (by rfl) w6.heap.size 58 i0' _ 16 Try.underlying32 hi hz0 hz1 hz2 rfl v1 (0 + c) ([] ++ LDem.all (L.take c)) (by rfl) (by first | exact hown1 | exact hown1.alloc _) (some ⟨w6.heap.size, 0, none⟩) 1 1 [x] (by rfl) rfl (hx3) (by unfold maxLen; omega) (by omega) (by first | omega | (simp; done) | (simp; omega)) ?_
                   intro v2 w4 hown2 hg2
                   have hb4 : Below w6.heap.size w6 w4 := Below.grown (hb3) hg2 (by first | omega | (simp; done) | (simp; omega)) (fun k hk => (hown1.lt k hk).1))
                | (refine step_append_at LDem (by rfl) (.tmp 35) (.tmp 38) 32 (by rfl) w6.heap.size 58 i0' _ 16 Try.underlying32 hi hz0 hz1 hz2 rfl v2 (0 + c + 1) ([] ++ LDem.all (L.take c) ++ LDem.all [x]) (by rfl) hown2 _ 0 _ [] (by rfl) rfl (.inl rfl) (by unfold maxLen; omega) (by omega) hb4.size ?_
                   intro v3 w5 hown3 hg3
                   have hb5 : Below w6.heap.size w6 w5 := Below.grown hb4 hg3 hb4.size (fun k hk => (hown2.lt k hk).1)))
              all_goals go_wp2_with fail
              all_goals go_ret
              all_goals (rw [P.out]; exact put_end (by omega) hown3 (X0.out.trans ((B6.out.trans (hb5.mono B6.out.size)).mono X0.out.size)) (Nat.le_trans X0.out.size B6.out.size))
            · go_upto_region 4 with fail
              go_quiet (fail)
              go_wp2_with fail
              go_upto_region 6 with fail
              clear D1 x0 x1 gx
              have B6 := Lib.hid (HB6.out nq)
              generalize wr.drewN nq = w6 at B6 ⊢
              obtain ⟨x0, x1⟩ := cell_posn ((B6.out.block _ (Array.getElem?_eq_some_iff.1 RX.out).1).trans RX.out)
              have gx := (Array.getElem?_eq_some_iff.1 ((B6.out.block _ (Array.getElem?_eq_some_iff.1 RX.out).1).trans RX.out)).1
              have RW := Lib.hid (fun W (hW : Below w6.heap.size w6 W) => HR.out.below rfl (B6.out.trans (hW.mono B6.out.size)))
              have KX := Lib.hid (fun W (hW : Below w6.heap.size w6 W) => cell_posn ((hW.block _ (Array.getElem?_eq_some_iff.1 ((B6.out.block _ (Array.getElem?_eq_some_iff.1 RX.out).1).trans RX.out)).1).trans ((B6.out.block _ (Array.getElem?_eq_some_iff.1 RX.out).1).trans RX.out)))
              have B0 := Lib.hid (Below.refl w6.heap.size w6)
              obtain ⟨i0', hi, hz0, hz1, hz2⟩ := info_parts infoDem
              go_region_held3 (fun W => W.cell? ⟨w.heap.size, 0, none⟩ = some (.int .i64 x.pt) ∧ W.cell? ⟨w.heap.size, 1, none⟩ = some (.int .i64 x.pos))
                (first | with_reducible exact KX.out _ B0.out.drew | with_reducible exact KX.out _ hb5 | with_reducible exact KX.out _ hb4 | with_reducible exact KX.out _ hb3 | (go_keep; done))
                (first
                | (refine step_append_at LDem (by rfl) (.tmp 28) (.tmp 31) 32 (by rfl) w6.heap.size 58 i0' _ 16 Try.underlying32 hi hz0 hz1 hz2 rfl (.slice (some ⟨w6.heap.size, 0, none⟩) 0 0) 0 [] (by rfl) ((owndm_empty w6 rfl (Nat.le_refl _)).drew) (some ⟨b, o, none⟩) j c (L.take j) (by rfl) (by rw [List.length_take]; omega) (Lies.Row.take LDem (RW.out _ (((Below.refl w6.heap.size w6).alloc (Nat.le_refl _) _).drew)) j) (by unfold maxLen; omega) (by omega) (by first | omega | (simp; done) | (simp; omega)) ?_
                   intro v1 w3 hown1 hg1
                   have hb3 : Below w6.heap.size w6 w3 := Below.grown (((Below.refl w6.heap.size w6).alloc (by first | omega | (simp; done) | (simp; omega)) _).drew) hg1 (by first | omega | (simp; done) | (simp; omega)) (fun k hk => by cases hk; first | omega | (simp; done) | (simp; omega))
                   have hgl3 := hb3.size)
                | (refine step_append_at LDem (by rfl) (.tmp 28) (.tmp 31) 32 (by rfl) w6.heap.size 58 i0' _ 16 Try.underlying32 hi hz0 hz1 hz2 rfl (.slice (some ⟨w6.heap.size, 0, none⟩) 0 0) 0 [] (by rfl) (((owndm_empty w6 rfl (Nat.le_refl _)).alloc _).drew) (some ⟨b, o, none⟩) j c (L.take j) (by rfl) (by rw [List.length_take]; omega) (Lies.Row.take LDem (RW.out _ ((((Below.refl w6.heap.size w6).alloc (Nat.le_refl _) _).alloc (by first | omega | (simp; done) | (simp; omega)) _).drew)) j) (by unfold maxLen; omega) (by omega) (by first | omega | (simp; done) | (simp; omega)) ?_
                   intro v1 w3 hown1 hg1
                   have hb3 : Below w6.heap.size w6 w3 := Below.grown ((((Below.refl w6.heap.size w6).alloc (by first | omega | (simp; done) | (simp; omega)) _).alloc (by first | omega | (simp; done) | (simp; omega)) _).drew) hg1 (by first | omega | (simp; done) | (simp; omega)) (fun k hk => by cases hk; first | omega | (simp; done) | (simp; omega))
                   have hgl3 := hb3.size
                   have hx3 : LDem.Row w3 (some ⟨w6.heap.size + 1, 0, none⟩) [x] := OwnDm.row (own_kept (World.ownsRow.drew (owndm_one (w6.alloc (.cells #[] 58)) x (g := w6.heap.size + 1) (base := w6.heap.size) (by simp))) (fun k hk => by cases hk; exact hg1.block _ (by first | omega | (simp; done) | (simp; omega)) (fun h => by simp [Value.ownBlock] at h))))
                | (refine step_append_at LDem (by rfl) (.tmp 28) (.tmp 31) 32 (by rfl) w6.heap.size 58 i0' _ 16 Try.underlying32 hi hz0 hz1 hz2 rfl (.slice (some ⟨w6.heap.size + 1, 0, none⟩) 0 0) 0 [] (by rfl) ((owndm_empty (w6.alloc (demO x)) (by simp) (by simp)).drew) (some ⟨b, o, none⟩) j c (L.take j) (by rfl) (by rw [List.length_take]; omega) (Lies.Row.take LDem (RW.out _ ((((Below.refl w6.heap.size w6).alloc (Nat.le_refl _) _).alloc (by first | omega | (simp; done) | (simp; omega)) _).drew)) j) (by unfold maxLen; omega) (by omega) (by first | omega | (simp; done) | (simp; omega)) ?_
                   intro v1 w3 hown1 hg1
                   have hb3 : Below w6.heap.size w6 w3 := Below.grown ((((Below.refl w6.heap.size w6).alloc (by first | omega | (simp; done) | (simp; omega)) _).alloc (by first | omega | (simp; done) | (simp; omega)) _).drew) hg1 (by first | omega | (simp; done) | (simp; omega)) (fun k hk => by cases hk; first | omega | (simp; done) | (simp; omega))
                   have hgl3 := hb3.size
                   have hx3 : LDem.Row w3 (some ⟨w6.heap.size, 0, none⟩) [x] := OwnDm.row (own_kept (World.ownsRow.drew (World.ownsRow.alloc (owndm_one w6 x (g := w6.heap.size) (base := w6.heap.size) rfl (Nat.le_refl _)) _)) (fun k hk => by cases hk; exact hg1.block _ (by first | omega | (simp; done) | (simp; omega)) (fun h => by simp [Value.ownBlock] at h))))
                | (refine step_append_at LDem (by rfl) (.tmp 32) (.tmp 34) 32 (by rfl) w6.heap.size 58 i0' _ 16 Try.underlying32 hi hz0 hz1 hz2 rfl v1 (0 + j) ([] ++ LDem.all (L.take j)) (by rfl) (by first | exact hown1 | exact hown1.alloc _) (some ⟨w3.heap.size, 0, none⟩) 1 1 [x] (by rfl) rfl ((owndm_one w3 x rfl hgl3).row) (by unfold maxLen; omega) (by omega) (by first | omega | (simp; done) | (simp; omega)) ?_
                   intro v2 w4 hown2 hg2
                   have hb4 : Below w6.heap.size w6 w4 := Below.grown (hb3.alloc hb3.size _) hg2 (by first | omega | (simp; done) | (simp; omega)) (fun k hk => (hown1.lt k hk).1))
                | (refine step_append_at LDem (by rfl) (.tmp 32) (.tmp 34) 32 (by rfl) w6.heap.size 58 i0' _ 16 Try.underlying32 hi hz0 hz1 hz2 rfl v1 (0 + j) ([] ++ LDem.all (L.take j)) (by rfl) (by first | exact hown1 | exact hown1.alloc _) (some ⟨w6.heap.size + 1, 0, none⟩) 1 1 [x] (by rfl) rfl (hx3) (by unfold maxLen; omega) (by omega) (by first | omega | (simp; done) | (simp; omega)) ?_
                   intro v2 w4 hown2 hg2
                   have hb4 : Below w6.heap.size w6 w4 := Below.grown (hb3) hg2 (by first | omega | (simp; done) | (simp; omega)) (fun k hk => (hown1.lt k hk).1))
                | (refine step_append_at LDem (by rfl) (.tmp 32) (.tmp 34) 32 (by rfl) w6.heap.size 58 i0' _ 16 Try.underlying32 hi hz0 hz1 hz2 rfl v1 (0 + j) ([] ++ LDem.all (L.take j)) (by rfl) (by first | exact hown1 | exact hown1.alloc _) (some ⟨w6.heap.size, 0, none⟩) 1 1 [x] (by rfl) rfl (hx3) (by unfold maxLen; omega) (by omega) (by first | omega | (simp; done) | (simp; omega)) ?_
                   intro v2 w4 hown2 hg2
                   have hb4 : Below w6.heap.size w6 w4 := Below.grown (hb3) hg2 (by first | omega | (simp; done) | (simp; omega)) (fun k hk => (hown1.lt k hk).1))
                | (refine step_append_at LDem (by rfl) (.tmp 35) (.tmp 38) 32 (by rfl) w6.heap.size 58 i0' _ 16 Try.underlying32 hi hz0 hz1 hz2 rfl v2 (0 + j + 1) ([] ++ LDem.all (L.take j) ++ LDem.all [x]) (by rfl) hown2 (some ⟨b, o + j * 2, none⟩) (L.length - j) (c - j) (L.drop j) (by rfl) (by rw [List.length_drop]) (Lies.Row.drop LDem (RW.out _ hb4) j) (by unfold maxLen; omega) (by omega) hb4.size ?_
                   intro v3 w5 hown3 hg3
                   have hb5 : Below w6.heap.size w6 w5 := Below.grown hb4 hg3 hb4.size (fun k hk => (hown2.lt k hk).1)))
              all_goals go_wp2_with fail
              all_goals go_ret
              all_goals (rw [P.out]; exact put_own hown3 (by omega) (X0.out.trans ((B6.out.trans (hb5.mono B6.out.size)).mono X0.out.size)) (Nat.le_trans X0.out.size B6.out.size))
  · have P := Lib.hid (Dm.put_had h0)
    have E : (Dm.posOf L x.pt != 0) = true := by rw [bne_iff_ne]; exact h0
    rw [P.out]
    generalize Dm.posOf L x.pt = n at CP E
    clear h h0
    go_enter Try.func80, Try.ntmps80
    go_wp2_with fail
    refine CP.out.mono ?_; rintro e w2 ⟨rfl, hb2⟩
    have B2 := Lib.hid (X0.out.trans (hb2.mono X0.out.size))
    have R2 := Lib.hid (HR.out.below rfl hb2)
    clear hb2 x0 x1
    go_wp2_with fail
    go_ret
    exact ⟨A, c, rfl, R2.out, hc, B2.out, .inl ⟨rfl, rfl⟩⟩
end Go.Proofs.Ytbmmcmdopekccaa
