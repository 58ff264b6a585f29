/-
  Texts of this claim, merged: ShParse, ShRParse, RowMem, PlSpec, PlSort, PlOk, PlLink.
-/
import Derived.Test.YtgajdfecajleiaaMg01
import Derived.Test.YtgajdfecajleiaaMg06
import Derived.BigFrame
import Derived.Deep.AppendLies
import Derived.Deep.AppendSrc
import Derived.Deep.Slices
import Derived.Lib.Hide
import Derived.OwnWalk
/-
  The walk of layer 4's Parse.
-/
namespace Go.Proofs.Ytgajdfecajleiaa
open Go.RowKit

theorem row2f {w : World} {g : Nat} {a b : Value} {t : TypeId} (h : w.heap[g]? = some (.cells #[a, b] t (0, 0))) :
    (w.cell? ⟨g, 0, none⟩ = some a ∧ w.cell? ⟨g, 1, none⟩ = some b) ∧ (w.frozen? ⟨g, 0, none⟩ = false ∧ w.frozen? ⟨g, 1, none⟩ = false) ∧ g < w.heap.size :=
  ⟨⟨cell_of_row w g 0 _ t _ h, cell_of_row w g 1 _ t _ h⟩, ⟨frozen_of_row w g 0 _ t h, frozen_of_row w g 1 _ t h⟩, (Array.getElem?_eq_some_iff.1 h).1⟩
theorem good_t {wh : Bool} {L : List (List UInt8)} {k : Nat} (hk : k < L.length) {y : It.Itm} (hy : It.parse L[k] = some y) (h : wh = true ∨ k + 1 < L.length) : Sh.good wh L k = true := by
  rw [Sh.good_iff hk, hy]
  rcases h with rfl | h
  · rfl
  · rw [decide_eq_true h]; simp
theorem good_n {wh : Bool} {L : List (List UInt8)} {k : Nat} (hk : k < L.length) (hy : It.parse L[k] = none) : Sh.good wh L k = false := by
  rw [Sh.good_iff hk, hy]; rfl
theorem good_l {L : List (List UInt8)} {k : Nat} (hk : k < L.length) (h : ¬ k + 1 < L.length) : Sh.good false L k = false := by
  rw [Sh.good_iff hk, decide_eq_false h]; simp
theorem good_next {wh : Bool} {L : List (List UInt8)} {k : Nat} (h0 : ∀ j < k, Sh.good wh L j = true) (h : Sh.good wh L k = true) : ∀ j < k + 1, Sh.good wh L j = true := fun j hj => by
  rcases Nat.lt_or_ge j k with h1 | h1
  · exact h0 j h1
  · obtain rfl : j = k := by omega
    exact h
end Go.Proofs.Ytgajdfecajleiaa
/-
  The walk of the document's answer to layer 4's Parse.
-/
namespace Go.Proofs.Ytgajdfecajleiaa
open Go.RowKit

set_option maxHeartbeats 4000000 in
set_option maxRecDepth 100000 in
theorem rsparse_any (s : ByteArray) (w : World) (hs : s.size ≤ 1000000) :
    Calls Try.prog 14 #[.string s] w (SheetGives (Sh.parse s.data.toList) w) := by
  obtain ⟨i0, hi, hz0, hz1, hz2⟩ := info_parts infoItem
  have hb0 := Lib.hid ((Below.refl w.heap.size w).alloc (Nat.le_refl _) (.cells #[.int .i64 0, .int .i64 0] 55))
  have W := rsplit_any s (w.alloc (.cells #[.int .i64 0, .int .i64 0] 55)) hs
  have R0 := Lib.hid (show (w.alloc (.cells #[.int .i64 0, .int .i64 0] 55)).heap[w.heap.size]? = some (.cells #[.int .i64 0, .int .i64 0] 55 (0, 0)) from heap_alloc_new _ _)
  have hsz : s.data.toList.length = s.size := by simp
  obtain ⟨hle, hln⟩ := Sh.split_le s.data.toList
  have PS := Lib.hid (fun k => @Sh.parse_some s.data.toList k)
  have PN := Lib.hid (@Sh.parse_none s.data.toList)
  obtain ⟨L, hL⟩ : ∃ L, Ln.split s.data.toList = L := ⟨_, rfl⟩
  obtain ⟨wh, hwh⟩ : ∃ wh, Ln.whole s.data.toList = wh := ⟨_, rfl⟩
  rw [hL, hwh] at W PS PN
  rw [hL] at hle hln
  have hlen : L.length ≤ 1000001 := by omega
  have LE := Lib.hid (fun x hx => Nat.le_trans (hle x hx) (show s.data.toList.length ≤ 1000000 by omega))
  have C := Lib.hid W
  clear W hsz hle hln hL hwh
  go_enter Try.func14, Try.ntmps14
  go_wp2_with fail
  refine C.out.mono ?_; rintro e w1 ⟨a, c, hc, rfl, hs1, hb1⟩
  have r1 := (hb1.block _ (show w.heap.size < (w.alloc (.cells #[.int .i64 0, .int .i64 0] 55)).heap.size by simp)).trans R0.out
  have R1 := Lib.hid r1
  have hz1' := (row2f r1).2.2
  have hbW := Lib.hid (hb0.out.trans (hb1.mono (by simp)))
  clear r1 hb1
  go_wp2
  go_loopw [6, 7] (fun v i wr => ∃ k : Nat, k ≤ L.length ∧ i = .int .i64 k ∧ (∀ j < k, Sh.good wh L j = true) ∧ wr.ownsRow w1.heap.size 76 7 v k (cellsL (Sh.items (L.take k))) ∧ Below w1.heap.size w1 wr) (fun _ i _ => L.length - (intOf i).toNat)
  case atStart => exact ⟨0, Nat.zero_le _, rfl, fun j hj => absurd hj (by omega), World.ownsRow_nil _ _ _ _, Below.refl _ _⟩
  case round =>
    obtain ⟨k, hk, rfl, hg, hown, hbel⟩ := hrel
    have HG := Lib.hid hg
    clear hg
    have hz := hbel.size
    have RR := Lib.hid (stay_row R1.out hbel)
    by_cases hlt : k < L.length
    · obtain ⟨a', rfl, hb, hcell⟩ := (hs1.below rfl hbel).cell hlt
      rw [str] at hcell
      have PC := Lib.hid (riparse_any (txt L[k]) wr (by rw [txt_size]; exact LE.out _ (List.getElem_mem hlt)))
      rw [txt_toList] at PC
      have OW := Lib.hid hown
      clear hown
      go_wp2_with fail
      refine PC.out.mono ?_; rintro e w2 ⟨y, rfl, hyy, hb2⟩
      have r2 := stay_row RR.out hb2
      obtain ⟨⟨a0, a1⟩, ⟨f0, f1⟩, hgz⟩ := row2f r2
      have n0 := World.new_ne _ _ a0
      have hbX := Lib.hid (hbW.out.trans ((hbel.mono hbW.out.size).trans (hb2.mono (Nat.le_trans hbW.out.size hz))))
      clear r2
      cases hpk : It.parse L[k] with
      | none =>
        have P := Lib.hid (PS.out _ (Sh.bad_at hlt HG.out (good_n hlt hpk)))
        clear hpk hyy
        rw [Option.isSome_none]
        go_wp2_with fail
        refine bodyPost_ret ?_ rfl (SheetGives.bad k P.out rfl ?_)
        · simp [results, Try.results14, go_sem, *]
        · refine Below.alloc ?_ (by simpa using hbX.out.size) _; (repeat (with_reducible refine Below.setCell ?_ (by first | exact Nat.le_refl _ | exact Nat.le_succ _) _)); exact hbX.out
      | some z =>
        obtain rfl : y = z := by rw [hpk] at hyy; exact hyy
        clear hyy
        rw [Option.isSome_some]
        by_cases hend : wh = true ∨ k + 1 < L.length
        · have HN := Lib.hid (good_next HG.out (good_t hlt hpk hend))
          have IT := Lib.hid (Sh.items_snoc hlt hpk)
          have OW2 := Lib.hid (((ownsRow_below OW.out hb2).alloc (.cells (cells7 y).toArray 76)).alloc (.cells (cells7 y).toArray 76))
          have NW := Lib.hid (show ∀ j u, (cells7 y)[j]? = some u → ((w2.alloc (.cells (cells7 y).toArray 76)).alloc (.cells (cells7 y).toArray 76)).cell? ((⟨w2.heap.size + 1, 0, none⟩ : Addr).add j) = some u from
            fun j u hu => World.news_of_block (B := w2.heap.size + 1) (cs := (cells7 y).toArray) (t := 76) (fr := (0, 0)) (by have := heap_alloc_new (w2.alloc (.cells (cells7 y).toArray 76)) (.cells (cells7 y).toArray 76); simpa using this) j u (by simpa using hu))
          clear hpk
          have hbz := hb2.size
          have hbE := Lib.hid ((hbel.trans (hb2.mono hz)).alloc (by omega) (.cells (cells7 y).toArray 76) |>.alloc (by simp; omega) (.cells (cells7 y).toArray 76))
          by_cases hl : k + 1 < L.length
          · have h1 : ((k : Int) == (L.length : Int) - 1) = false := by rw [beq_eq_false_iff_ne]; omega
            clear hend hl
            go_wp2_with (at_builtin; refine wpList_append_own _ rfl (.tmp 45) (.tmp 47) 52 rfl w1.heap.size 76 i0 _ 7 80 Try.underlying52 hi hz0 hz1 hz2 rfl (by decide) _ _ _ rfl OW2.out ⟨w2.heap.size + 1, 0, none⟩ 1 1 (cells7 y) rfl rfl NW.out (cells7_one y) (by unfold maxLen; omega) (by omega) (by simp; omega) ?_; intro v1 w3 hown1 hg1 _)
            have hB3 := Lib.hid (hbE.out.grown hg1 (by simp; omega) (fun g hg => (OW2.out.lt g hg).1))
            have O3 := Lib.hid hown1
            clear hown1 hg1
            go_wp2
            go_roundw
            case rel => exact ⟨k + 1, by omega, by go_num, HN.out, by rw [IT.out, cellsL_append, cellsL_one]; exact O3.out, hB3.out⟩
            case measure => simp [intOf]; omega
          · have h1 : ((k : Int) == (L.length : Int) - 1) = true := by rw [beq_iff_eq]; omega
            obtain rfl : wh = true := by rcases hend with h | h; exact h; exact absurd h hl
            clear hend hl
            go_wp2_with (at_builtin; refine wpList_append_own _ rfl (.tmp 45) (.tmp 47) 52 rfl w1.heap.size 76 i0 _ 7 80 Try.underlying52 hi hz0 hz1 hz2 rfl (by decide) _ _ _ rfl OW2.out ⟨w2.heap.size + 1, 0, none⟩ 1 1 (cells7 y) rfl rfl NW.out (cells7_one y) (by unfold maxLen; omega) (by omega) (by simp; omega) ?_; intro v1 w3 hown1 hg1 _)
            have hB3 := Lib.hid (hbE.out.grown hg1 (by simp; omega) (fun g hg => (OW2.out.lt g hg).1))
            have O3 := Lib.hid hown1
            clear hown1 hg1
            go_wp2
            go_roundw
            case rel => exact ⟨k + 1, by omega, by go_num, HN.out, by rw [IT.out, cellsL_append, cellsL_one]; exact O3.out, hB3.out⟩
            case measure => simp [intOf]; omega
        · obtain ⟨hw, hl⟩ : wh = false ∧ ¬ k + 1 < L.length := ⟨by cases wh <;> simp_all, fun h => hend (.inr h)⟩
          subst hw
          have P := Lib.hid (PS.out _ (Sh.bad_at hlt HG.out (good_l hlt hl)))
          have h1 : ((k : Int) == (L.length : Int) - 1) = true := by rw [beq_iff_eq]; omega
          clear hpk hend hl
          go_wp2_with fail
          refine bodyPost_ret ?_ rfl (SheetGives.bad k P.out rfl ?_)
          · simp [results, Try.results14, go_sem, *]
          · refine Below.alloc ?_ (by simpa using hbX.out.size) _; (repeat (with_reducible refine Below.setCell ?_ (by first | exact Nat.le_refl _ | exact Nat.le_succ _) _)); exact hbX.out
    · have H0 := Lib.hid (PN.out (Sh.bad_no fun j hj => HG.out j (by omega)))
      have RR2 := RR.out
      obtain ⟨⟨a0, a1⟩, ⟨f0, f1⟩, hgz⟩ := row2f RR2
      obtain rfl : k = L.length := by omega
      have e0 : L.take L.length = L := List.take_of_length_le (Nat.le_refl _)
      rw [e0] at hown
      obtain ⟨hn, A, c', rfl, hcap, hits⟩ := Its.of_own (ownsRow_setCell_below (ownsRow_setCell_below hown (a := ⟨w.heap.size, 0, none⟩) hz1' (.int .i64 0)) (a := ⟨w.heap.size, 1, none⟩) hz1' (.int .i64 0))
      have HN := Lib.hid hn
      clear e0 hown hn RR2
      go_wp2_with fail
      refine bodyPost_ret ?_ rfl (SheetGives.good (A := A) H0.out HN.out hcap rfl hits ?_)
      · simp [results, Try.results14, go_sem, *]
      · (repeat (with_reducible refine Below.setCell ?_ (by first | exact Nat.le_refl _ | exact Nat.le_succ _) _)); exact hbW.out.trans (hbel.mono hbW.out.size)
end Go.Proofs.Ytgajdfecajleiaa
/-
  Slices of structs in memory, whatever the struct: which values their cells hold, so many cells an element; kept where nothing below the heap's end changes. No function of the program is named here.
-/
namespace Go.Proofs.Ytgajdfecajleiaa
open Go.RowKit

/-- How a thing of ours lies in memory: so many cells, each a value of one cell. -/
structure Lies (α : Type) where
  m : Nat
  pos : 0 < m
  enc : α → List Value
  len : ∀ y, (enc y).length = m
  one : ∀ y, ∀ u ∈ enc y, u.oneCell' = true
section
variable {α : Type} (E : Lies α)
def Lies.all (L : List α) : List Value := L.flatMap E.enc
theorem Lies.all_append (a b : List α) : E.all (a ++ b) = E.all a ++ E.all b := by simp [Lies.all]
theorem Lies.all_one (y : α) : E.all [y] = E.enc y := by simp [Lies.all]
theorem Lies.all_cons (y : α) (L : List α) : E.all (y :: L) = E.enc y ++ E.all L := by simp [Lies.all]
theorem Lies.all_len : ∀ L : List α, (E.all L).length = L.length * E.m
  | [] => by simp [Lies.all]
  | y :: L => by rw [E.all_cons, List.length_append, Lies.all_len L, E.len, List.length_cons, Nat.succ_mul]; omega
theorem Lies.all_at : ∀ (L : List α) (k j : Nat) (y : α), L[k]? = some y → j < E.m → (E.all L)[k * E.m + j]? = (E.enc y)[j]?
  | [], _, _, _, h, _ => by simp at h
  | x :: L, 0, j, y, h, hj => by
    obtain rfl : x = y := by simpa using h
    rw [E.all_cons, List.getElem?_append_left (by rw [E.len]; omega)]
    congr 1; omega
  | x :: L, k + 1, j, y, h, hj => by
    rw [E.all_cons, List.getElem?_append_right (by rw [E.len, Nat.succ_mul]; omega), E.len]
    rw [show (k + 1) * E.m + j - E.m = k * E.m + j by rw [Nat.succ_mul]; omega]
    exact Lies.all_at L k j y (by simpa using h) hj
theorem Lies.all_single (L : List α) : ∀ u ∈ E.all L, u.oneCell' = true := fun u hu => by
  obtain ⟨y, _, h⟩ := List.mem_flatMap.1 hu
  exact E.one y u h
/-- Cells that hold a thing. -/
def Lies.On (w : World) (b o : Nat) (y : α) : Prop := ∀ j v, (E.enc y)[j]? = some v → w.cell? ⟨b, o + j, none⟩ = some v
/-- The cells from A on hold these. -/
def Lies.Row (w : World) (A : Option Addr) (L : List α) : Prop := L = [] ∨ ∃ b o, A = some ⟨b, o, none⟩ ∧ b < w.heap.size ∧ ∀ k y, L[k]? = some y → E.On w b (o + k * E.m) y
theorem Lies.Row.nil (w : World) (A : Option Addr) : E.Row w A [] := .inl rfl
variable {E}
theorem Lies.On.below {w w' : World} {b o : Nat} {y : α} {B : Nat} (h : E.On w b o y) (hlt : b < B) (hb : Below B w w') : E.On w' b o y := fun j v hv => by
  rw [hb.cell (show (⟨b, o + j, none⟩ : Addr).block < B from hlt)]; exact h j v hv
theorem Lies.Row.below {w w' : World} {A : Option Addr} {L : List α} {B : Nat} (h : E.Row w A L) (hB : B = w.heap.size) (hb : Below B w w') : E.Row w' A L := by
  subst hB
  rcases h with h | ⟨b, o, hA, hlt, h⟩
  · exact .inl h
  · have := hb.size
    exact .inr ⟨b, o, hA, by omega, fun k y hk => (h k y hk).below hlt hb⟩
theorem Lies.Row.at {w : World} {A : Option Addr} {L : List α} (h : E.Row w A L) {k : Nat} (hk : k < L.length) : ∃ b o, A = some ⟨b, o, none⟩ ∧ b < w.heap.size ∧ E.On w b (o + k * E.m) L[k] := by
  rcases h with rfl | ⟨b, o, hA, hlt, h⟩
  · simp at hk
  · exact ⟨b, o, hA, hlt, h k _ (List.getElem?_eq_getElem hk)⟩
theorem Lies.Row.of_own {w : World} {base : Nat} {e : TypeId} {v : Value} {n : Nat} {L : List α} (h : w.ownsRow base e E.m v n (E.all L)) :
    n = L.length ∧ ∃ A c, v = .slice A n c ∧ n ≤ c ∧ E.Row w A L := by
  have hl : L.length = n := by
    have := h.1
    rw [E.all_len] at this
    exact Nat.eq_of_mul_eq_mul_right E.pos this
  refine ⟨hl.symm, ?_⟩
  rcases h.2 with ⟨rfl, rfl⟩ | ⟨g, cap, cur, rfl, _, hh, hc, _⟩
  · exact ⟨none, 0, rfl, Nat.le_refl _, .inl (List.eq_nil_of_length_eq_zero hl)⟩
  · refine ⟨some ⟨g, 0, none⟩, cap, rfl, hc, .inr ⟨g, 0, rfl, (Array.getElem?_eq_some_iff.1 hh).1, fun k y hk j u hu => ?_⟩⟩
    have hj : j < E.m := by
      have := (List.getElem?_eq_some_iff.1 hu).1
      rwa [E.len] at this
    have := h.cells (g := g) rfl (k * E.m + j) u (by rw [E.all_at L k j y hk hj]; exact hu)
    rw [Go.WideShapes.add_plain] at this
    rw [show 0 + k * E.m + j = 0 + (k * E.m + j) by omega]
    exact this
/-- A thing in a row of the call's own. -/
theorem Lies.own_on {w : World} {base : Nat} {e : TypeId} {g cap n : Nat} {L : List α} (h : w.ownsRow base e E.m (.slice (some ⟨g, 0, none⟩) n cap) n (E.all L)) {k : Nat} {y : α} (hk : L[k]? = some y) : E.On w g (k * E.m) y := by
  intro j u hu
  have hj : j < E.m := by
    have := (List.getElem?_eq_some_iff.1 hu).1
    rwa [E.len] at this
  have := h.cells (g := g) rfl (k * E.m + j) u (by rw [E.all_at L k j y hk hj]; exact hu)
  rw [Go.WideShapes.add_plain] at this
  rwa [Nat.zero_add] at this
theorem Lies.news {w : World} {b o : Nat} {L : List α} (h : ∀ k y, L[k]? = some y → E.On w b (o + k * E.m) y) : ∀ j u, (E.all L)[j]? = some u → w.cell? ((⟨b, o, none⟩ : Addr).add j) = some u := fun j u hu => by
  have hl := (List.getElem?_eq_some_iff.1 hu).1
  rw [E.all_len] at hl
  have hp := E.pos
  have hk : j / E.m < L.length := (Nat.div_lt_iff_lt_mul hp).2 hl
  have e := E.all_at L (j / E.m) (j % E.m) _ (List.getElem?_eq_getElem hk) (Nat.mod_lt _ hp)
  have hj : j / E.m * E.m + j % E.m = j := by rw [Nat.mul_comm]; exact Nat.div_add_mod j E.m
  rw [hj, hu] at e
  rw [Go.WideShapes.add_plain]
  have := h (j / E.m) _ (List.getElem?_eq_getElem hk) (j % E.m) u e.symm
  rwa [show o + j / E.m * E.m + j % E.m = o + j by omega] at this
/-- A block of these that was laid just now. -/
theorem Lies.Row.fresh (w : World) (L : List α) (t : TypeId) : E.Row (w.alloc (.cells (E.all L).toArray t)) (some ⟨w.heap.size, 0, none⟩) L := by
  refine .inr ⟨w.heap.size, 0, rfl, by simp, fun k y hk j v hv => ?_⟩
  have hj : j < E.m := by
    have := (List.getElem?_eq_some_iff.1 hv).1
    rwa [E.len] at this
  rw [cell_of_row _ _ _ _ _ _ (heap_alloc_new w _), List.getElem?_toArray, Nat.zero_add, E.all_at L k j y hk hj]
  exact hv
/-- One cell of one element is another one: the element is. -/
theorem Lies.set_cell (L : List α) (k j : Nat) (x y : α) (hx : L[k]? = some x) (hj : j < E.m) (u : Value) (hu : (E.enc x).set j u = E.enc y) : (E.all L).set (k * E.m + j) u = E.all (L.set k y) := by
  apply List.ext_getElem?
  intro i
  have hkl := (List.getElem?_eq_some_iff.1 hx).1
  have hlen : (E.all (L.set k y)).length = (E.all L).length := by rw [E.all_len, E.all_len, List.length_set]
  by_cases hi : i < L.length * E.m
  · have hp := E.pos
    have hk' : i / E.m < L.length := (Nat.div_lt_iff_lt_mul hp).2 hi
    have hi' : i / E.m * E.m + i % E.m = i := by rw [Nat.mul_comm]; exact Nat.div_add_mod i E.m
    have hmod := Nat.mod_lt i hp
    by_cases hik : i / E.m = k
    · have hik' : k * E.m + i % E.m = i := by rw [← hik]; exact hi'
      have r : (E.all (L.set k y))[i]? = (E.enc y)[i % E.m]? := by
        have := E.all_at (L.set k y) k (i % E.m) y (by rw [List.getElem?_set_self hkl]) hmod
        rwa [hik'] at this
      rw [r, ← hu]
      by_cases hij : i % E.m = j
      · rw [hij, List.getElem?_set_self (by rw [E.len]; exact hj)]
        rw [show k * E.m + j = i by rw [← hij]; exact hik']
        rw [List.getElem?_set_self (by rw [E.all_len]; exact hi)]
      · rw [List.getElem?_set_ne (by omega), List.getElem?_set_ne (by omega)]
        have := E.all_at L k (i % E.m) x hx hmod
        rwa [hik'] at this
    · rw [List.getElem?_set_ne (fun e => hik (by rw [← e, Nat.mul_comm, Nat.mul_add_div hp, Nat.div_eq_of_lt hj, Nat.add_zero]))]
      have a := E.all_at L (i / E.m) (i % E.m) _ (List.getElem?_eq_getElem hk') hmod
      have b := E.all_at (L.set k y) (i / E.m) (i % E.m) L[i / E.m] (by rw [List.getElem?_set_ne (Ne.symm hik)]; exact List.getElem?_eq_getElem hk') hmod
      rw [hi'] at a b
      rw [a, b]
  · rw [List.getElem?_eq_none (by rw [List.length_set, E.all_len]; omega), List.getElem?_eq_none (by rw [hlen, E.all_len]; omega)]
end
/-- The library's law on append, of things that lie anywhere (none, too), onto a slice of the call's own. -/
theorem wpList_append_row {α : Type} (E : Lies α) {P : Program} (w : World) {ops : Array Oper} {rest : List Oper} {o : Oper} {a : Act} {Q : Exit → Act → World → Prop} (hw : Region.wanted o (yielded ops a.tmps) = true) (s x : Operand) (t : TypeId)
    (ho : o.op = .call { callee := .builtin .append, args := #[s, x], argTypes := #[t, t] })
    (base : Nat) (e : TypeId) (i : TypeInfo) (z : Value) (bytes : Nat) (ht : P.underlying t = some (.slice e)) (hi : P.info? e = some i) (hz : i.zero = some z)
    (hsize : i.size = E.m) (hby : i.bytes = bytes) (hzs : z.cells.size = E.m)
    (v : Value) (n : Nat) (xs : List Value) (hs : a.eval s = v) (hown : w.ownsRow base e E.m v n xs)
    (A : Option Addr) (c m : Nat) (L : List α) (hm : L.length = m) (h0 : 0 < m) (hx : a.eval x = .slice A m c) (hI : E.Row w A L) (hn : n + m ≤ 1000000000) (hbytes : (n + m) * bytes ≤ 140737488355328) (hbase : base ≤ w.heap.size)
    (h : ∀ g' cap' w', w'.ownsRow base e E.m (.slice (some ⟨g', 0, none⟩) (n + m) cap') (n + m) (xs ++ E.all L) → w.grownBy w' v.ownBlock → (v.ownBlock = some g' ∨ g' = w.heap.size) → wpList P ops Q rest (a.put o.dst (.slice (some ⟨g', 0, none⟩) (n + m) cap')) w') : wpList P ops Q (o :: rest) a w := by
  subst hm
  rcases hI with hI | ⟨b, off, rfl, _, hI⟩
  · subst hI; simp at h0
  exact BigFrame.wpList_want hw fun _ hK => wp_append_lies w s x t ho base e i z E.m bytes ht hi hz hsize hby hzs E.pos _ n xs hs hown ⟨b, off, none⟩ L.length c (E.all L) hx (E.all_len L) (Lies.news hI) (E.all_single L) h0 (by unfold maxLen; omega) hbytes hbase _ rfl
    fun g' cap' w' h2 h3 h4 _ => hK _ _ (h g' cap' w' h2 h3 h4)
end Go.Proofs.Ytgajdfecajleiaa
/-
  Plain mathematics of layer 5: the station of items, said by names: what a line lacks behind those ahead, whom an end is joined with, the plan in order of the names, and a plan's lines. No program is named here.
-/
namespace Go.Proofs.Ytgajdfecajleiaa.Pl
open Go It

abbrev Nm := List UInt8
structure En where
  goes : Int
  at_ : Int
  sig : Int
deriving DecidableEq
structure Sec where
  name : Nm
  pt : Bool
  len : Int
  e0 : En
  e1 : En
  e2 : En
deriving DecidableEq
structure Sig where
  name : Nm
  sec : Int
  en : Int
deriving DecidableEq
structure Plan where
  ov : Int
  ap : Int
  se : Int
  ho : Int
  secs : List Sec
  sigs : List Sig
deriving DecidableEq
def Plan.zero : Plan := ⟨0, 0, 0, 0, [], []⟩
def stop : En := ⟨-1, 0, -1⟩

def letter (pt : Bool) (e : Nat) : UInt8 := if e = 0 then (if pt then 116 else 97) else if e = 1 then (if pt then 110 else 98) else if e = 2 then (if pt then 114 else 0) else 0
/-- The end of a letter. -/
def endAt (pt : Bool) (c : UInt8) : Option Nat := if letter pt 0 = c then some 0 else if letter pt 1 = c then some 1 else if pt = true ∧ letter pt 2 = c then some 2 else none
/-- How many ends a section has. -/
def nEnds (pt : Bool) : Nat := if pt then 3 else 2

def isS (x : Itm) : Bool := isLen x.k
def isG (x : Itm) : Bool := decide (x.k = 9)
def isPt (x : Itm) : Bool := decide (x.k = 6)
def secs (M : List Itm) : List Itm := M.filter isS
def sigs (M : List Itm) : List Itm := M.filter isG
def nmS (M : List Itm) : List Nm := (secs M).map (·.name)
def nmG (M : List Itm) : List Nm := (sigs M).map (·.name)
def ptOf (M : List Itm) (nm : Nm) : Bool := ((secs M).find? fun x => decide (x.name = nm)).any isPt
/-- The ends that a line joins, or stops. -/
def ment (x : Itm) : List Tp := if x.k = 7 then [x.e0, x.e1] else if x.k = 8 then [x.e0] else []
def ments (M : List Itm) : List Tp := M.flatMap ment
def link (t : Tp) (x : Itm) : Option (Option Tp) :=
  if x.k = 7 then (if x.e0 = t then some (some x.e1) else if x.e1 = t then some (some x.e0) else none)
  else if x.k = 8 ∧ x.e0 = t then some none else none
/-- Whom an end is joined with; some none: it is stopped; none: neither. -/
def partner (M : List Itm) (t : Tp) : Option (Option Tp) := M.findSome? (link t)
def sigAt (M : List Itm) (t : Tp) : Option Nm := ((sigs M).find? fun x => decide (x.e0 = t)).map (·.name)
def num (M : List Itm) (k : Int) : Int := ((M.find? fun x => decide (x.k = k)).map (·.n)).getD 0

/-- A section's end, with places of sections and signals as they are asked for. -/
def enW (r q : Nm → Int) (M : List Itm) (t : Tp) : En :=
  ⟨match partner M t with | none => -2 | some none => -1 | some (some u) => r u.n,
   match partner M t with | some (some u) => (((endAt (ptOf M u.n) u.c).getD 0 : Nat) : Int) | _ => 0,
   match sigAt M t with | some g => q g | none => -1⟩
def tip (x : Itm) (e : Nat) : Tp := ⟨x.name, letter (isPt x) e⟩
def secW (r q : Nm → Int) (M : List Itm) (x : Itm) : Sec :=
  ⟨x.name, isPt x, x.n, enW r q M (tip x 0), enW r q M (tip x 1), if isPt x then enW r q M (tip x 2) else stop⟩
def sigW (r : Nm → Int) (M : List Itm) (x : Itm) : Sig := ⟨x.name, r x.e0.n, (((endAt (ptOf M x.e0.n) x.e0.c).getD 0 : Nat) : Int)⟩

def ins {α : Type} (key : α → Nm) (a : α) : List α → List α
  | [] => [a]
  | b :: l => if key b < key a then b :: ins key a l else a :: b :: l
def isort {α : Type} (key : α → Nm) : List α → List α
  | [] => []
  | a :: l => ins key a (isort key l)
/-- A name's place in order; as it was told. -/
def rank (N : List Nm) (nm : Nm) : Int := ((N.filter fun a => decide (a < nm)).length : Nat)
def pos (N : List Nm) (nm : Nm) : Int := ((N.findIdx fun a => decide (a = nm)) : Nat)
/-- The station that lines tell. -/
def fin (M : List Itm) : Plan :=
  ⟨num M 1, num M 2, num M 3, num M 4, (isort Itm.name (secs M)).map (secW (rank (nmS M)) (rank (nmG M)) M), (isort Itm.name (sigs M)).map (sigW (rank (nmS M)) M)⟩

/-! ### What may not be -/
def tipErr (M : List Itm) (used : List Tp) (t : Tp) : Int :=
  if t.n ∉ nmS M then 4 else if endAt (ptOf M t.n) t.c = none then 5 else if t ∈ used then 6 else 0
def joinErr (M : List Itm) (x : Itm) : Int := if tipErr M (ments M) x.e0 ≠ 0 then tipErr M (ments M) x.e0 else tipErr M (ments M ++ [x.e0]) x.e1
def sigErr (M : List Itm) (x : Itm) : Int :=
  if x.name ∈ nmG M then 3 else if tipErr M [] x.e0 ≠ 0 then tipErr M [] x.e0 else if (sigAt M x.e0).isSome then 3 else if (sigs M).length = 12 then 9 else 0
/-- What may not come behind the lines ahead; 0: nothing. -/
def lineErr (M : List Itm) (x : Itm) : Int :=
  if right x = false then 2
  else if isNum x.k then (if M.any (fun y => decide (y.k = x.k)) then 3 else 0)
  else if isS x then (if x.name ∈ nmS M then 3 else if (secs M).length = 24 then 9 else 0)
  else if x.k = 7 then joinErr M x
  else if x.k = 8 then tipErr M (ments M) x.e0
  else sigErr M x
/-- What is lacking, when all lines are told. -/
def lackErr (M : List Itm) (x : Itm) : Int :=
  if isS x then (if (List.range (nEnds (isPt x))).any (fun e => decide (partner M (tip x e) = none)) then 7 else 0)
  else if isG x then (if ((partner M x.e0).getD none).isSome then 0 else 8)
  else 0
def firstE (f : Nat → Int) (n : Nat) : Option Nat := (List.range n).find? fun i => decide (f i ≠ 0)
def errAt (L : List Itm) (i : Nat) : Int := lineErr (L.take i) ((L[i]?).getD Itm.zero)
def lackAt (L : List Itm) (i : Nat) : Int := lackErr L ((L[i]?).getD Itm.zero)
/-- The plan of items, or the error and its line. -/
def build (L : List Itm) : Plan × Int × Nat := match firstE (errAt L) L.length with
  | some i => (Plan.zero, errAt L i, i + 1)
  | none => match firstE (lackAt L) L.length with
    | some i => (Plan.zero, lackAt L i, i + 1)
    | none => (fin L, 0, 0)

/-! ### A plan's lines -/
def Sec.get (s : Sec) (e : Nat) : En := if e = 0 then s.e0 else if e = 1 then s.e1 else s.e2
def tipP (p : Plan) (s e : Nat) : Tp := match p.secs[s]? with
  | some x => ⟨x.name, letter x.pt e⟩
  | none => Tp.zero
def numsP (p : Plan) : List Itm := ([(1, p.ov), (2, p.ap), (3, p.se), (4, p.ho)] : List (Int × Int)).filterMap fun a => if a.2 = 0 then none else some ⟨a.1, [], a.2, Tp.zero, Tp.zero⟩
def secI (x : Sec) : Itm := ⟨if x.pt then 6 else 5, x.name, x.len, Tp.zero, Tp.zero⟩
/-- The ends of sections: places and numbers, in order. -/
def endsP (p : Plan) : List (Nat × Nat) := (List.range p.secs.length).flatMap fun s => (List.range (nEnds (((p.secs[s]?).map Sec.pt).getD false))).map fun e => (s, e)
def enP (p : Plan) (a : Nat × Nat) : En := ((p.secs[a.1]?).map fun x => x.get a.2).getD stop
def joinP (p : Plan) (a : Nat × Nat) : Option Itm :=
  if (a.1 : Int) < (enP p a).goes ∨ (a.1 : Int) = (enP p a).goes ∧ (a.2 : Int) < (enP p a).at_ then some ⟨7, [], 0, tipP p a.1 a.2, tipP p (enP p a).goes.toNat (enP p a).at_.toNat⟩ else none
def stopP (p : Plan) (a : Nat × Nat) : Option Itm := if (enP p a).goes < 0 then some ⟨8, [], 0, tipP p a.1 a.2, Tp.zero⟩ else none
def sigI (p : Plan) (g : Sig) : Itm := ⟨9, g.name, 0, tipP p g.sec.toNat g.en.toNat, Tp.zero⟩
def items (p : Plan) : List Itm := numsP p ++ p.secs.map secI ++ (endsP p).filterMap (joinP p) ++ (endsP p).filterMap (stopP p) ++ p.sigs.map (sigI p)
end Go.Proofs.Ytgajdfecajleiaa.Pl
/-
  Plain mathematics of layer 5: order of names, places in it. No program is named here.
-/
namespace Go.Proofs.Ytgajdfecajleiaa.Pl
open Go It

theorem nm_irrefl (a : Nm) : ¬ a < a := List.lt_irrefl a
theorem nm_trans {a b c : Nm} (h : a < b) (h2 : b < c) : a < c := List.lt_trans h h2
theorem nm_tri {a b : Nm} (h : ¬ a < b) (h2 : ¬ b < a) : a = b := List.le_antisymm h2 h
theorem nm_asymm {a b : Nm} (h : a < b) : ¬ b < a := fun h2 => nm_irrefl a (nm_trans h h2)
theorem nm_lt_of {a b : Nm} (h : ¬ a < b) (hn : a ≠ b) : b < a := Classical.byContradiction fun h2 => hn (nm_tri h h2)

section
variable {α : Type} (key : α → Nm)
def Rise (l : List α) : Prop := l.Pairwise fun a b => key a < key b
theorem ins_perm (a : α) : ∀ l, (ins key a l).Perm (a :: l)
  | [] => .refl _
  | b :: l => by
    unfold ins
    split
    · exact ((ins_perm a l).cons b).trans (.swap ..)
    · exact .refl _
theorem isort_perm : ∀ l, (isort key l).Perm l
  | [] => .refl _
  | a :: l => (ins_perm key a _).trans ((isort_perm l).cons a)
theorem ins_rise (a : α) : ∀ l, Rise key l → (∀ b ∈ l, key b ≠ key a) → Rise key (ins key a l)
  | [], _, _ => by simp [ins, Rise]
  | b :: l, h, hn => by
    unfold ins
    have h' := List.pairwise_cons.1 h
    split
    · rename_i hb
      refine List.pairwise_cons.2 ⟨fun c hc => ?_, ins_rise a l h'.2 fun c hc => hn c (by simp [hc])⟩
      rcases List.mem_cons.1 ((ins_perm key a l).mem_iff.1 hc) with rfl | hc
      · exact hb
      · exact h'.1 c hc
    · rename_i hb
      have hab := nm_lt_of hb (hn b (by simp))
      refine List.pairwise_cons.2 ⟨fun c hc => ?_, h⟩
      rcases List.mem_cons.1 hc with rfl | hc
      · exact hab
      · exact nm_trans hab (h'.1 c hc)
theorem isort_rise : ∀ l : List α, (l.map key).Nodup → Rise key (isort key l)
  | [], _ => .nil
  | a :: l, h => by
    rw [List.map_cons, List.nodup_cons] at h
    refine ins_rise key a _ (isort_rise l h.2) fun b hb e => h.1 ?_
    rw [← e]
    exact List.mem_map_of_mem ((isort_perm key l).mem_iff.1 hb)
theorem isort_len (l : List α) : (isort key l).length = l.length := (isort_perm key l).length_eq
theorem isort_mem {l : List α} {a : α} : a ∈ isort key l ↔ a ∈ l := (isort_perm key l).mem_iff
end
theorem rank_perm {N M : List Nm} (h : N.Perm M) (nm : Nm) : rank N nm = rank M nm := by
  unfold rank
  rw [(h.filter _).length_eq]
theorem rank_at : ∀ {N : List Nm} (_ : Rise id N) (i : Nat) (nm : Nm), N[i]? = some nm → rank N nm = i
  | [], _, i, nm, hi => by simp at hi
  | a :: N, h, 0, nm, hi => by
    obtain rfl : a = nm := by simpa using hi
    have h' := (List.pairwise_cons.1 h).1
    unfold rank
    rw [List.filter_eq_nil_iff.2]; rfl
    intro b hb
    rcases List.mem_cons.1 hb with rfl | hb
    · simp
    · simpa using nm_asymm (h' b hb)
  | a :: N, h, i + 1, nm, hi => by
    have h' := List.pairwise_cons.1 h
    have hi' : N[i]? = some nm := by simpa using hi
    have ih := rank_at h'.2 i nm hi'
    unfold rank at ih ⊢
    rw [List.filter_cons, if_pos (by simpa using h'.1 nm (List.mem_of_getElem? hi'))]
    simp at ih ⊢
    omega
theorem rank_lt {N : List Nm} {nm : Nm} (h : nm ∈ N) : rank N nm < N.length := by
  unfold rank
  have h1 := List.length_filter_le (fun a => decide (a < nm)) N
  rcases Nat.lt_or_ge (N.filter fun a => decide (a < nm)).length N.length with h2 | h2
  · omega
  · have := (List.length_filter_eq_length_iff.1 (Nat.le_antisymm h1 h2)) nm h
    exact absurd (of_decide_eq_true this) (nm_irrefl nm)
theorem rank_nonneg (N : List Nm) (nm : Nm) : 0 ≤ rank N nm := by unfold rank; omega
theorem rise_map {α : Type} {key : α → Nm} {l : List α} (h : Rise key l) : Rise id (l.map key) := by
  unfold Rise at h ⊢
  rw [List.pairwise_map]; exact h
/-- In a list that rises, who has a name stands at the name's place. -/
theorem at_rank {α : Type} {key : α → Nm} {l : List α} (h : Rise key l) {a : α} (ha : a ∈ l) : l[(rank (l.map key) (key a)).toNat]? = some a := by
  obtain ⟨i, hi, rfl⟩ := List.getElem_of_mem ha
  rw [rank_at (rise_map h) i _ (by rw [List.getElem?_map, List.getElem?_eq_getElem hi]; rfl)]
  simp [hi]
theorem rank_rise {N : List Nm} {a b : Nm} (ha : a ∈ N) (hab : a < b) : rank N a < rank N b := by
  unfold rank
  have h1 : (N.filter fun c => decide (c < a)).length = (N.countP fun c => decide (c < a)) := by rw [List.countP_eq_length_filter]
  have h2 : (N.filter fun c => decide (c < b)).length = (N.countP fun c => decide (c < b)) := by rw [List.countP_eq_length_filter]
  rw [h1, h2]
  suffices h : N.countP (fun c => decide (c < a)) < N.countP (fun c => decide (c < b)) by omega
  induction N with
  | nil => cases ha
  | cons c N ih =>
    have mono : N.countP (fun c => decide (c < a)) ≤ N.countP (fun c => decide (c < b)) := List.countP_mono_left fun x _ hx => by
      simp at hx ⊢; exact nm_trans hx hab
    rw [List.countP_cons, List.countP_cons]
    by_cases hc : c = a
    · subst hc
      rw [if_neg (by simp), if_pos (by simpa using hab)]; omega
    · have ha' : a ∈ N := by rcases List.mem_cons.1 ha with rfl | h; exact absurd rfl hc; exact h
      have ih := ih ha' (by rw [List.countP_eq_length_filter]) (by rw [List.countP_eq_length_filter])
      by_cases h1 : c < a
      · rw [if_pos (by simpa using h1), if_pos (by simpa using nm_trans h1 hab)]; omega
      · rw [if_neg (by simpa using h1)]; omega
theorem rank_inj {N : List Nm} {a b : Nm} (ha : a ∈ N) (hb : b ∈ N) (h : rank N a = rank N b) : a = b := by
  refine nm_tri (fun h1 => ?_) fun h1 => ?_
  · have := rank_rise ha h1; omega
  · have := rank_rise hb h1; omega
end Go.Proofs.Ytgajdfecajleiaa.Pl
/-
  Plain mathematics of layer 5: which lists of lines may be, told without an order of telling. No program is named here.
-/
namespace Go.Proofs.Ytgajdfecajleiaa.Pl
open Go It

theorem nodup_snoc {α : Type} {l : List α} {a : α} : (l ++ [a]).Nodup ↔ l.Nodup ∧ a ∉ l := by
  rw [List.nodup_append]
  constructor
  · intro ⟨h1, _, h3⟩
    exact ⟨h1, fun h => h3 a h a (by simp) rfl⟩
  · intro ⟨h1, h2⟩
    exact ⟨h1, by simp, fun b hb c hc e => h2 (by simp at hc; rw [← hc, ← e]; exact hb)⟩
/-- The ends that a line names. -/
def tips (x : Itm) : List Tp := if x.k = 7 then [x.e0, x.e1] else if x.k = 8 then [x.e0] else if x.k = 9 then [x.e0] else []
structure Ok (L : List Itm) : Prop where
  right : ∀ x ∈ L, It.right x = true
  nums : ((L.filter fun x => isNum x.k).map (·.k)).Nodup
  names : (nmS L).Nodup
  few : (secs L).length ≤ 24
  gnames : (nmG L).Nodup
  gends : ((sigs L).map (·.e0)).Nodup
  gfew : (sigs L).length ≤ 12
  ments : (ments L).Nodup
  told : ∀ M x N, L = M ++ x :: N → ∀ t ∈ tips x, t.n ∈ nmS M ∧ (endAt (ptOf M t.n) t.c).isSome = true

theorem right_kind {x : Itm} (h : It.right x = true) : 1 ≤ x.k ∧ x.k ≤ 9 := by
  have hp := Sh.right_parse h
  unfold It.parse at hp
  split at hp
  · cases hW : Ln.words (print x) with
    | nil => rw [hW] at hp; cases hp
    | cons a t =>
      rw [hW] at hp
      have hp' : parseK (kind a) t = some x := hp
      have h1 : x.k = kind a := by
        unfold parseK at hp'
        split at hp'
        · split at hp'
          · split at hp'
            · cases hp'; rfl
            · cases hp'
          · cases hp'
        · split at hp'
          · split at hp'
            · split at hp'
              · cases hp'; rfl
              · cases hp'
            · cases hp'
          · split at hp'
            · rename_i hk
              split at hp'
              · split at hp'
                · cases hp'; rfl
                · cases hp'
              · cases hp'
            · split at hp'
              · split at hp'
                · split at hp'
                  · cases hp'; rfl
                  · cases hp'
                · cases hp'
              · split at hp'
                · split at hp'
                  · split at hp'
                    · cases hp'; rfl
                    · cases hp'
                  · cases hp'
                · cases hp'
      have h2 := parseK_kind _ _ _ hp'
      rcases kind_cases a with ⟨h3, _⟩ | ⟨h3, h4, _⟩
      · exact absurd h3 h2
      · omega
  · cases hp
theorem kinds {x : Itm} (h : It.right x = true) : (isNum x.k = true ∧ isS x = false ∧ isG x = false ∧ x.k ≠ 7 ∧ x.k ≠ 8) ∨ (isNum x.k = false ∧ isS x = true ∧ isG x = false ∧ x.k ≠ 7 ∧ x.k ≠ 8) ∨ (isNum x.k = false ∧ isS x = false ∧ isG x = false ∧ x.k = 7) ∨
    (isNum x.k = false ∧ isS x = false ∧ isG x = false ∧ x.k = 8) ∨ (isNum x.k = false ∧ isS x = false ∧ isG x = true ∧ x.k = 9) := by
  obtain ⟨h1, h2⟩ := right_kind h
  unfold isS isG isNum isLen
  have : x.k = 1 ∨ x.k = 2 ∨ x.k = 3 ∨ x.k = 4 ∨ x.k = 5 ∨ x.k = 6 ∨ x.k = 7 ∨ x.k = 8 ∨ x.k = 9 := by omega
  rcases this with h | h | h | h | h | h | h | h | h <;> rw [h] <;> decide
theorem tipErr_zero {M : List Itm} {used : List Tp} {t : Tp} : tipErr M used t = 0 ↔ t.n ∈ nmS M ∧ (endAt (ptOf M t.n) t.c).isSome = true ∧ t ∉ used := by
  unfold tipErr
  by_cases h1 : t.n ∈ nmS M
  · rw [if_neg (fun h => h h1)]
    cases h2 : endAt (ptOf M t.n) t.c with
    | none => simp
    | some e =>
      rw [if_neg (by simp)]
      by_cases h3 : t ∈ used <;> simp [h1, h3]
  · rw [if_pos h1]; simp [h1]
theorem secs_snoc (M : List Itm) (x : Itm) : secs (M ++ [x]) = secs M ++ (if isS x then [x] else []) := by simp [secs, List.filter_append, List.filter_cons]
theorem sigs_snoc (M : List Itm) (x : Itm) : sigs (M ++ [x]) = sigs M ++ (if isG x then [x] else []) := by simp [sigs, List.filter_append, List.filter_cons]
theorem ments_snoc (M : List Itm) (x : Itm) : ments (M ++ [x]) = ments M ++ ment x := by simp [ments]
theorem nums_snoc (M : List Itm) (x : Itm) : ((M ++ [x]).filter fun x => isNum x.k) = (M.filter fun x => isNum x.k) ++ (if isNum x.k then [x] else []) := by simp [List.filter_append, List.filter_cons]
theorem any_nums {M : List Itm} {k : Int} (hk : isNum k = true) : M.any (fun y => decide (y.k = k)) = true ↔ k ∈ (M.filter fun x => isNum x.k).map (·.k) := by
  rw [List.any_eq_true, List.mem_map]
  constructor
  · rintro ⟨y, hy, e⟩
    have e := of_decide_eq_true e
    exact ⟨y, List.mem_filter.2 ⟨hy, by rw [e]; exact hk⟩, e⟩
  · rintro ⟨y, hy, e⟩
    exact ⟨y, (List.mem_filter.1 hy).1, by simpa using e⟩
theorem sigAt_none {M : List Itm} {t : Tp} : (sigAt M t).isSome = false ↔ t ∉ (sigs M).map (·.e0) := by
  unfold sigAt
  rw [Option.isSome_map, Option.isSome_eq_false_iff, Option.isNone_iff_eq_none, List.find?_eq_none]
  constructor
  · intro h hm
    obtain ⟨y, hy, e⟩ := List.mem_map.1 hm
    exact absurd e (by simpa using h y hy)
  · intro h y hy
    have : y.e0 ≠ t := fun e => h (List.mem_map.2 ⟨y, hy, e⟩)
    simpa using this
theorem told_snoc {M : List Itm} {x : Itm} (h : ∀ A y N, M = A ++ y :: N → ∀ t ∈ tips y, t.n ∈ nmS A ∧ (endAt (ptOf A t.n) t.c).isSome = true) (hx : ∀ t ∈ tips x, t.n ∈ nmS M ∧ (endAt (ptOf M t.n) t.c).isSome = true) :
    ∀ A y N, M ++ [x] = A ++ y :: N → ∀ t ∈ tips y, t.n ∈ nmS A ∧ (endAt (ptOf A t.n) t.c).isSome = true := fun A y N e => by
  rcases List.eq_nil_or_concat N with rfl | ⟨N', z, rfl⟩
  · obtain ⟨h1, h2⟩ := List.append_inj' e rfl
    cases h2
    subst h1
    exact hx
  · have e' : M ++ [x] = (A ++ y :: N') ++ [z] := by rw [e]; simp
    obtain ⟨h1, _⟩ := List.append_inj' e' rfl
    exact h A y N' h1
/-- A line more. -/
theorem Ok.snoc {M : List Itm} {x : Itm} (h : Ok M) (he : lineErr M x = 0) : Ok (M ++ [x]) := by
  unfold lineErr at he
  cases hr : It.right x with
  | false => rw [hr, if_pos rfl] at he; cases he
  | true =>
    rw [hr, if_neg (by simp)] at he
    have hR : ∀ y ∈ M ++ [x], It.right y = true := fun y hy => by
      rcases List.mem_append.1 hy with hy | hy
      · exact h.right y hy
      · obtain rfl : y = x := by simpa using hy
        exact hr
    rcases kinds hr with ⟨k1, k2, k3, k4, k5⟩ | ⟨k1, k2, k3, k4, k5⟩ | ⟨k1, k2, k3, k4⟩ | ⟨k1, k2, k3, k4⟩ | ⟨k1, k2, k3, k4⟩
    · rw [if_pos k1] at he
      have hn : ¬ (M.any (fun y => decide (y.k = x.k)) = true) := fun hc => by rw [if_pos hc] at he; cases he
      rw [any_nums k1] at hn
      have k6 : x.k ≠ 9 := fun e => by simp [isG, e] at k3
      refine ⟨hR, ?_, ?_, ?_, ?_, ?_, ?_, ?_, told_snoc h.told ?_⟩
      · rw [nums_snoc, if_pos k1, List.map_append]; exact nodup_snoc.2 ⟨h.nums, hn⟩
      · simpa [nmS, secs_snoc, k2] using h.names
      · simpa [secs_snoc, k2] using h.few
      · simpa [nmG, sigs_snoc, k3] using h.gnames
      · simpa [sigs_snoc, k3] using h.gends
      · simpa [sigs_snoc, k3] using h.gfew
      · rw [ments_snoc, ment, if_neg k4, if_neg k5, List.append_nil]; exact h.ments
      · intro t ht; rw [tips, if_neg k4, if_neg k5, if_neg k6] at ht; cases ht
    · rw [if_neg (by simp [k1]), if_pos k2] at he
      have hn : x.name ∉ nmS M := fun hc => by rw [if_pos hc] at he; cases he
      rw [if_neg hn] at he
      have hl : (secs M).length ≠ 24 := fun hc => by rw [if_pos hc] at he; cases he
      have := h.few
      have k6 : x.k ≠ 9 := fun e => by simp [isG, e] at k3
      refine ⟨hR, ?_, ?_, ?_, ?_, ?_, ?_, ?_, told_snoc h.told ?_⟩
      · rw [nums_snoc, if_neg (by simp [k1]), List.append_nil]; exact h.nums
      · rw [nmS, secs_snoc, if_pos k2, List.map_append]; exact nodup_snoc.2 ⟨h.names, hn⟩
      · rw [secs_snoc, if_pos k2, List.length_append, List.length_singleton]; omega
      · simpa [nmG, sigs_snoc, k3] using h.gnames
      · simpa [sigs_snoc, k3] using h.gends
      · simpa [sigs_snoc, k3] using h.gfew
      · rw [ments_snoc, ment, if_neg k4, if_neg k5, List.append_nil]; exact h.ments
      · intro t ht; rw [tips, if_neg k4, if_neg k5, if_neg k6] at ht; cases ht
    · rw [if_neg (by simp [k1]), if_neg (by simp [k2]), if_pos k4] at he
      unfold joinErr at he
      have h0 : tipErr M (Pl.ments M) x.e0 = 0 := Classical.byContradiction fun hc => by rw [if_pos hc] at he; exact hc he
      rw [if_neg (fun hc => hc h0)] at he
      rw [tipErr_zero] at h0 he
      refine ⟨hR, ?_, ?_, ?_, ?_, ?_, ?_, ?_, told_snoc h.told ?_⟩
      · rw [nums_snoc, if_neg (by simp [k1]), List.append_nil]; exact h.nums
      · simpa [nmS, secs_snoc, k2] using h.names
      · simpa [secs_snoc, k2] using h.few
      · simpa [nmG, sigs_snoc, k3] using h.gnames
      · simpa [sigs_snoc, k3] using h.gends
      · simpa [sigs_snoc, k3] using h.gfew
      · rw [ments_snoc, ment, if_pos k4, show [x.e0, x.e1] = [x.e0] ++ [x.e1] from rfl, ← List.append_assoc]
        exact nodup_snoc.2 ⟨nodup_snoc.2 ⟨h.ments, h0.2.2⟩, he.2.2⟩
      · intro t ht
        rw [tips, if_pos k4] at ht
        rcases List.mem_cons.1 ht with rfl | ht
        · exact ⟨h0.1, h0.2.1⟩
        · obtain rfl : t = x.e1 := by simpa using ht
          exact ⟨he.1, he.2.1⟩
    · have k7 : x.k ≠ 7 := by omega
      rw [if_neg (by simp [k1]), if_neg (by simp [k2]), if_neg k7, if_pos k4, tipErr_zero] at he
      refine ⟨hR, ?_, ?_, ?_, ?_, ?_, ?_, ?_, told_snoc h.told ?_⟩
      · rw [nums_snoc, if_neg (by simp [k1]), List.append_nil]; exact h.nums
      · simpa [nmS, secs_snoc, k2] using h.names
      · simpa [secs_snoc, k2] using h.few
      · simpa [nmG, sigs_snoc, k3] using h.gnames
      · simpa [sigs_snoc, k3] using h.gends
      · simpa [sigs_snoc, k3] using h.gfew
      · rw [ments_snoc, ment, if_neg k7, if_pos k4]; exact nodup_snoc.2 ⟨h.ments, he.2.2⟩
      · intro t ht
        rw [tips, if_neg k7, if_pos k4] at ht
        obtain rfl : t = x.e0 := by simpa using ht
        exact ⟨he.1, he.2.1⟩
    · have k7 : x.k ≠ 7 := by omega
      have k8 : x.k ≠ 8 := by omega
      rw [if_neg (by simp [k1]), if_neg (by simp [k2]), if_neg k7, if_neg k8] at he
      unfold sigErr at he
      have hn : x.name ∉ nmG M := fun hc => by rw [if_pos hc] at he; cases he
      rw [if_neg hn] at he
      have h0 : tipErr M [] x.e0 = 0 := Classical.byContradiction fun hc => by rw [if_pos hc] at he; exact hc he
      rw [if_neg (fun hc => hc h0)] at he
      rw [tipErr_zero] at h0
      have hs : (sigAt M x.e0).isSome = false := by
        cases hc : (sigAt M x.e0).isSome with
        | false => rfl
        | true => rw [hc, if_pos rfl] at he; cases he
      rw [hs, if_neg (by simp)] at he
      rw [sigAt_none] at hs
      have hl : (sigs M).length ≠ 12 := fun hc => by rw [if_pos hc] at he; cases he
      have := h.gfew
      refine ⟨hR, ?_, ?_, ?_, ?_, ?_, ?_, ?_, told_snoc h.told ?_⟩
      · rw [nums_snoc, if_neg (by simp [k1]), List.append_nil]; exact h.nums
      · simpa [nmS, secs_snoc, k2] using h.names
      · simpa [secs_snoc, k2] using h.few
      · rw [nmG, sigs_snoc, if_pos k3, List.map_append]; exact nodup_snoc.2 ⟨h.gnames, hn⟩
      · rw [sigs_snoc, if_pos k3, List.map_append]; exact nodup_snoc.2 ⟨h.gends, hs⟩
      · rw [sigs_snoc, if_pos k3, List.length_append, List.length_singleton]; omega
      · rw [ments_snoc, ment, if_neg k7, if_neg k8, List.append_nil]; exact h.ments
      · intro t ht
        rw [tips, if_neg k7, if_neg k8, if_pos k4] at ht
        obtain rfl : t = x.e0 := by simpa using ht
        exact ⟨h0.1, h0.2.1⟩
/-- What may be may be without its last line, which may come there. -/
theorem Ok.init {M : List Itm} {x : Itm} (h : Ok (M ++ [x])) : Ok M ∧ lineErr M x = 0 := by
  have hr : It.right x = true := h.right x (by simp)
  have hM : Ok M := by
    refine ⟨fun y hy => h.right y (by simp [hy]), ?_, ?_, ?_, ?_, ?_, ?_, ?_, fun A y N e => ?_⟩
    · have := h.nums; rw [nums_snoc, List.map_append] at this; exact (List.nodup_append.1 this).1
    · have := h.names; rw [nmS, secs_snoc, List.map_append] at this; exact (List.nodup_append.1 this).1
    · have := h.few; rw [secs_snoc, List.length_append] at this; omega
    · have := h.gnames; rw [nmG, sigs_snoc, List.map_append] at this; exact (List.nodup_append.1 this).1
    · have := h.gends; rw [sigs_snoc, List.map_append] at this; exact (List.nodup_append.1 this).1
    · have := h.gfew; rw [sigs_snoc, List.length_append] at this; omega
    · have := h.ments; rw [ments_snoc] at this; exact (List.nodup_append.1 this).1
    · exact h.told A y (N ++ [x]) (by rw [e]; simp)
  refine ⟨hM, ?_⟩
  have told := h.told M x [] rfl
  unfold lineErr
  rw [hr, if_neg (by simp)]
  rcases kinds hr with ⟨k1, k2, k3, k4, k5⟩ | ⟨k1, k2, k3, k4, k5⟩ | ⟨k1, k2, k3, k4⟩ | ⟨k1, k2, k3, k4⟩ | ⟨k1, k2, k3, k4⟩
  · rw [if_pos k1]
    have hn := h.nums
    rw [nums_snoc, if_pos k1, List.map_append] at hn
    have := (nodup_snoc.1 hn).2
    rw [← any_nums k1] at this
    rw [if_neg this]
  · rw [if_neg (by simp [k1]), if_pos k2]
    have hn := h.names
    rw [nmS, secs_snoc, if_pos k2, List.map_append] at hn
    have hl := h.few
    rw [secs_snoc, if_pos k2, List.length_append, List.length_singleton] at hl
    rw [if_neg (show x.name ∉ nmS M from (nodup_snoc.1 hn).2), if_neg (by omega)]
  · rw [if_neg (by simp [k1]), if_neg (by simp [k2]), if_pos k4]
    have hm := h.ments
    rw [ments_snoc, ment, if_pos k4, show [x.e0, x.e1] = [x.e0] ++ [x.e1] from rfl, ← List.append_assoc] at hm
    have hm2 := nodup_snoc.1 hm
    rw [tips, if_pos k4] at told
    have t0 := told x.e0 (by simp)
    have t1 := told x.e1 (by simp)
    unfold joinErr
    rw [tipErr_zero.2 ⟨t0.1, t0.2, (nodup_snoc.1 hm2.1).2⟩, if_neg (by simp)]
    exact tipErr_zero.2 ⟨t1.1, t1.2, hm2.2⟩
  · have k7 : x.k ≠ 7 := by omega
    rw [if_neg (by simp [k1]), if_neg (by simp [k2]), if_neg k7, if_pos k4]
    have hm := h.ments
    rw [ments_snoc, ment, if_neg k7, if_pos k4] at hm
    rw [tips, if_neg k7, if_pos k4] at told
    have t0 := told x.e0 (by simp)
    exact tipErr_zero.2 ⟨t0.1, t0.2, (nodup_snoc.1 hm).2⟩
  · have k7 : x.k ≠ 7 := by omega
    have k8 : x.k ≠ 8 := by omega
    rw [if_neg (by simp [k1]), if_neg (by simp [k2]), if_neg k7, if_neg k8]
    have hn := h.gnames
    rw [nmG, sigs_snoc, if_pos k3, List.map_append] at hn
    have hs := h.gends
    rw [sigs_snoc, if_pos k3, List.map_append] at hs
    have hl := h.gfew
    rw [sigs_snoc, if_pos k3, List.length_append, List.length_singleton] at hl
    rw [tips, if_neg k7, if_neg k8, if_pos k4] at told
    have t0 := told x.e0 (by simp)
    have hs' : (sigAt M x.e0).isSome = false := sigAt_none.2 (nodup_snoc.1 hs).2
    unfold sigErr
    rw [if_neg (show x.name ∉ nmG M from (nodup_snoc.1 hn).2), tipErr_zero.2 ⟨t0.1, t0.2, by simp⟩, if_neg (by simp), hs', if_neg (by simp), if_neg (by omega)]
theorem Ok.nil : Ok [] := by
  refine ⟨by simp, by simp, by simp [nmS, secs], by simp [secs], by simp [nmG, sigs], by simp [sigs], by simp [sigs], by simp [Pl.ments], fun A y N e => by simp at e⟩

theorem firstE_none {f : Nat → Int} {n : Nat} : firstE f n = none ↔ ∀ i < n, f i = 0 := by
  unfold firstE
  rw [List.find?_range_eq_none]
  simp
theorem firstE_some {f : Nat → Int} {n i : Nat} : firstE f n = some i ↔ i < n ∧ f i ≠ 0 ∧ ∀ j < i, f j = 0 := by
  unfold firstE
  rw [List.find?_range_eq_some]
  constructor
  · rintro ⟨h1, h2, h3⟩
    exact ⟨by simpa using h2, by simpa using h1, fun j hj => by simpa using h3 j hj⟩
  · rintro ⟨h1, h2, h3⟩
    exact ⟨by simpa using h2, by simpa using h1, fun j hj => by simpa using h3 j hj⟩
theorem errAt_left {M N : List Itm} {i : Nat} (h : i < M.length) : errAt (M ++ N) i = errAt M i := by
  unfold errAt
  rw [List.getElem?_append_left h, List.take_append_of_le_length (by omega)]
theorem errAt_snoc (M : List Itm) (x : Itm) : errAt (M ++ [x]) M.length = lineErr M x := by
  unfold errAt
  rw [List.getElem?_append_right (Nat.le_refl _), Nat.sub_self, List.take_append_of_le_length (Nat.le_refl _), List.take_length]
  rfl
/-- Line by line, or at once. -/
theorem ok_iff (L : List Itm) : (∀ i < L.length, errAt L i = 0) ↔ Ok L := by
  have : ∀ n, ∀ L : List Itm, L.length = n → ((∀ i < L.length, errAt L i = 0) ↔ Ok L) := by
    intro n
    induction n with
    | zero => intro L hL; obtain rfl := List.eq_nil_of_length_eq_zero hL; exact ⟨fun _ => Ok.nil, fun _ i hi => absurd hi (by simp)⟩
    | succ n ih =>
      intro L hL
      rcases List.eq_nil_or_concat L with rfl | ⟨M, x, rfl⟩
      · cases hL
      · rw [List.concat_eq_append] at hL ⊢
        have hM : M.length = n := by simpa using hL
        constructor
        · intro h
          have h1 : Ok M := (ih M hM).1 fun i hi => by rw [← errAt_left (N := [x]) hi]; exact h i (by simp; omega)
          have h2 := h M.length (by simp)
          rw [errAt_snoc] at h2
          exact h1.snoc h2
        · intro h i hi
          obtain ⟨h1, h2⟩ := h.init
          by_cases hi' : i < M.length
          · rw [errAt_left hi']; exact (ih M hM).2 h1 i hi'
          · obtain rfl : i = M.length := by simp at hi; omega
            rw [errAt_snoc]; exact h2
  exact this _ L rfl
/-- Nothing is lacking. -/
def Shut (L : List Itm) : Prop := ∀ x ∈ L, lackErr L x = 0
theorem build_ok {L : List Itm} (h : Ok L) (h2 : Shut L) : build L = (fin L, 0, 0) := by
  unfold build
  rw [firstE_none.2 ((ok_iff L).2 h)]
  simp only
  rw [firstE_none.2 fun i hi => by unfold lackAt; rw [List.getElem?_eq_getElem hi]; exact h2 _ (List.getElem_mem hi)]
theorem build_zero {L : List Itm} (h : (build L).2.1 = 0) : Ok L ∧ Shut L ∧ build L = (fin L, 0, 0) := by
  unfold build at h
  cases h1 : firstE (errAt L) L.length with
  | some i =>
    rw [h1] at h
    exact absurd h (firstE_some.1 h1).2.1
  | none =>
    rw [h1] at h
    simp only at h
    have hok := (ok_iff L).1 (firstE_none.1 h1)
    cases h2 : firstE (lackAt L) L.length with
    | some i => rw [h2] at h; exact absurd h (firstE_some.1 h2).2.1
    | none =>
      have hs : Shut L := fun x hx => by
        obtain ⟨i, hi, rfl⟩ := List.getElem_of_mem hx
        have := firstE_none.1 h2 i hi
        unfold lackAt at this
        rwa [List.getElem?_eq_getElem hi] at this
      exact ⟨hok, hs, build_ok hok hs⟩
end Go.Proofs.Ytgajdfecajleiaa.Pl
/-
  Plain mathematics of layer 5: whom an end is joined with, whatever the order of the lines; the same lines, the same station. No program is named here.
-/
namespace Go.Proofs.Ytgajdfecajleiaa.Pl
open Go It

def swap (x : Itm) : Itm := { x with e0 := x.e1, e1 := x.e0 }
theorem link_none {t : Tp} {x : Itm} : link t x = none ↔ t ∉ ment x := by
  unfold link ment
  by_cases h7 : x.k = 7
  · rw [if_pos h7, if_pos h7]
    by_cases h0 : x.e0 = t
    · rw [if_pos h0]; simp [h0]
    · rw [if_neg h0]
      by_cases h1 : x.e1 = t
      · rw [if_pos h1]; simp [h1]
      · rw [if_neg h1]; simp [Ne.symm h0, Ne.symm h1]
  · rw [if_neg h7, if_neg h7]
    by_cases h8 : x.k = 8
    · rw [if_pos h8]
      by_cases h0 : x.e0 = t
      · rw [if_pos ⟨h8, h0⟩]; simp [h0]
      · rw [if_neg fun h => h0 h.2]; simp [Ne.symm h0]
    · rw [if_neg fun h => h8 h.1, if_neg h8]; simp
theorem partner_none {M : List Itm} {t : Tp} : partner M t = none ↔ t ∉ ments M := by
  unfold partner ments
  rw [List.findSome?_eq_none_iff]
  constructor
  · intro h hm
    obtain ⟨x, hx, ht⟩ := List.mem_flatMap.1 hm
    exact link_none.1 (h x hx) ht
  · intro h x hx
    exact link_none.2 fun ht => h (List.mem_flatMap.2 ⟨x, hx, ht⟩)
theorem partner_mem : ∀ {M : List Itm} (_ : (ments M).Nodup) {x : Itm} (_ : x ∈ M) {t : Tp} (_ : t ∈ ment x), partner M t = link t x
  | y :: M, hn, x, hx, t, ht => by
    have hn' : (ment y ++ ments M).Nodup := by simpa [ments] using hn
    have hd := List.nodup_append.1 hn'
    unfold partner
    rw [List.findSome?_cons]
    rcases List.mem_cons.1 hx with rfl | hx
    · cases hl : link t x with
      | none => exact absurd ht (link_none.1 hl)
      | some v => rfl
    · have hy : t ∉ ment y := fun h => hd.2.2 t h t (List.mem_flatMap.2 ⟨x, hx, ht⟩) rfl
      rw [link_none.2 hy]
      exact partner_mem hd.2.1 hx ht
theorem partner_some {M : List Itm} {t : Tp} {v : Option Tp} (h : partner M t = some v) : ∃ x ∈ M, link t x = some v ∧ t ∈ ment x := by
  obtain ⟨x, hx, hl⟩ := List.exists_of_findSome?_eq_some h
  refine ⟨x, hx, hl, Classical.byContradiction fun hc => ?_⟩
  rw [link_none.2 hc] at hl; cases hl
theorem ment_nodup {M : List Itm} (hn : (ments M).Nodup) {x : Itm} (hx : x ∈ M) : (ment x).Nodup := by
  induction M with
  | nil => cases hx
  | cons y M ih =>
    have hn' : (ment y ++ ments M).Nodup := by simpa [ments] using hn
    rcases List.mem_cons.1 hx with rfl | hx
    · exact (List.nodup_append.1 hn').1
    · exact ih (List.nodup_append.1 hn').2.1 hx
theorem link_joined {t u : Tp} {x : Itm} (h : link t x = some (some u)) : x.k = 7 ∧ ((x.e0 = t ∧ x.e1 = u) ∨ (x.e1 = t ∧ x.e0 = u)) := by
  unfold link at h
  split at h
  · rename_i h7
    refine ⟨h7, ?_⟩
    split at h
    · rename_i h0; cases h; exact .inl ⟨h0, rfl⟩
    · split at h
      · rename_i h1; cases h; exact .inr ⟨h1, rfl⟩
      · cases h
  · split at h <;> cases h
theorem ment7 {x : Itm} (h : x.k = 7) : ment x = [x.e0, x.e1] := by rw [ment, if_pos h]
theorem ends_ne {M : List Itm} (hn : (ments M).Nodup) {x : Itm} (hx : x ∈ M) (h7 : x.k = 7) : x.e0 ≠ x.e1 := by
  have := ment_nodup hn hx
  rw [ment7 h7] at this
  simp at this
  exact this
/-- One is joined with whom one is joined with. -/
theorem partner_sym {M : List Itm} (hn : (ments M).Nodup) {t u : Tp} (h : partner M t = some (some u)) : partner M u = some (some t) ∧ t ≠ u := by
  obtain ⟨x, hx, hl, _⟩ := partner_some h
  obtain ⟨h7, ho⟩ := link_joined hl
  have hne := ends_ne hn hx h7
  rcases ho with ⟨rfl, rfl⟩ | ⟨rfl, rfl⟩
  · refine ⟨?_, hne⟩
    rw [partner_mem hn hx (by rw [ment7 h7]; simp), link, if_pos h7, if_neg hne, if_pos rfl]
  · refine ⟨?_, hne.symm⟩
    rw [partner_mem hn hx (by rw [ment7 h7]; simp), link, if_pos h7, if_pos rfl]
theorem mem_secs {M : List Itm} {x : Itm} : x ∈ secs M ↔ x ∈ M ∧ isS x = true := List.mem_filter
theorem mem_sigs {M : List Itm} {x : Itm} : x ∈ sigs M ↔ x ∈ M ∧ isG x = true := List.mem_filter
theorem mem_nmS {M : List Itm} {nm : Nm} : nm ∈ nmS M ↔ ∃ x ∈ secs M, x.name = nm := List.mem_map
theorem uniq {α : Type} {f : α → Nm} : ∀ {l : List α} (_ : (l.map f).Nodup) {a b : α} (_ : a ∈ l) (_ : b ∈ l) (_ : f a = f b), a = b
  | c :: l, hn, a, b, ha, hb, e => by
    rw [List.map_cons, List.nodup_cons] at hn
    rcases List.mem_cons.1 ha with rfl | ha'
    · rcases List.mem_cons.1 hb with rfl | hb'
      · rfl
      · exact absurd (e ▸ List.mem_map_of_mem hb') hn.1
    · rcases List.mem_cons.1 hb with rfl | hb'
      · exact absurd (e ▸ List.mem_map_of_mem ha') hn.1
      · exact uniq hn.2 ha' hb' e
theorem uniqT {α β : Type} {f : α → β} : ∀ {l : List α} (_ : (l.map f).Nodup) {a b : α} (_ : a ∈ l) (_ : b ∈ l) (_ : f a = f b), a = b
  | c :: l, hn, a, b, ha, hb, e => by
    rw [List.map_cons, List.nodup_cons] at hn
    rcases List.mem_cons.1 ha with rfl | ha'
    · rcases List.mem_cons.1 hb with rfl | hb'
      · rfl
      · exact absurd (e ▸ List.mem_map_of_mem hb') hn.1
    · rcases List.mem_cons.1 hb with rfl | hb'
      · exact absurd (e ▸ List.mem_map_of_mem ha') hn.1
      · exact uniqT hn.2 ha' hb' e
theorem find_uniq {α β : Type} [DecidableEq β] {f : α → β} {l : List α} (hn : (l.map f).Nodup) {a : α} (ha : a ∈ l) : (l.find? fun x => decide (f x = f a)) = some a := by
  cases h : l.find? fun x => decide (f x = f a) with
  | none => exact absurd (decide_eq_true (rfl : f a = f a)) (List.find?_eq_none.1 h a ha)
  | some b =>
    have h1 := List.find?_some h
    have h2 := List.mem_of_find?_eq_some h
    rw [uniqT hn h2 ha (of_decide_eq_true h1)]
theorem ptOf_eq {M : List Itm} (hn : (nmS M).Nodup) {x : Itm} (hx : x ∈ secs M) : ptOf M x.name = isPt x := by
  unfold ptOf
  rw [find_uniq (f := Itm.name) hn hx]; rfl
theorem sigAt_eq {M : List Itm} (hn : ((sigs M).map (·.e0)).Nodup) {x : Itm} (hx : x ∈ sigs M) : sigAt M x.e0 = some x.name := by
  unfold sigAt
  rw [find_uniq (f := Itm.e0) hn hx]; rfl
theorem sigAt_some {M : List Itm} {t : Tp} {g : Nm} (h : sigAt M t = some g) : ∃ x ∈ sigs M, x.e0 = t ∧ x.name = g := by
  unfold sigAt at h
  rw [Option.map_eq_some_iff] at h
  obtain ⟨x, hx, hg⟩ := h
  exact ⟨x, List.mem_of_find?_eq_some hx, by simpa using List.find?_some hx, hg⟩
end Go.Proofs.Ytgajdfecajleiaa.Pl
