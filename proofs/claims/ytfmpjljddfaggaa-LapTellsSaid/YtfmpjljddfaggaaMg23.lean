/-
  Texts of this claim, merged: LpPrA.
-/
import Derived.Test.YtfmpjljddfaggaaMg15
import Derived.Test.YtfmpjljddfaggaaMg22
/-
  The program's search of layer 8 in memory; which sections it bars; where it turns back.
-/
namespace Go.Proofs.Ytfmpjljddfaggaa
open Go.RowKit

abbrev findO (p : Pl.Plan) (A : Option Addr) (c : Nat) (A' : Option Addr) (c' : Nat) (b : Int) (v : Value) (n : Nat) (u : Value) : Obj := .cells #[.int .i64 p.ov, .int .i64 p.ap, .int .i64 p.se, .int .i64 p.ho, .slice A p.secs.length c, .slice A' p.sigs.length c', .int .i64 b, v, .int .i64 n, u] 70
/-- The program's search in memory. -/
def FindAt (p : Pl.Plan) (A : Option Addr) (c : Nat) (A' : Option Addr) (c' : Nat) (b : Int) (v : Value) (g : Nat) (w0 wr : World) (n : Nat) (u : Value) : Prop :=
  Below w0.heap.size w0 wr ∧ w0.heap.size ≤ g ∧ wr.heap[g]? = some (findO p A c A' c' b v n u)
abbrev PFind (x : Option Nat) (w w' : World) : Prop := Seeks 70 70 x w w'
/-- What an entering, or a leaving, leaves: it went too far; nothing is found; or an overlap is. -/
def FindGives (p : Pl.Plan) (A : Option Addr) (c : Nat) (A' : Option Addr) (c' : Nat) (b : Int) (v : Value) (g : Nat) (w0 : World) (r : Option (List Wk.Stp) × Nat) (B : Option Addr) (d : Nat) (st : List Wk.Stp) (u : Value) (w : World) (e : Ending) (w' : World) : Prop :=
  (400 < r.2 ∧ e = .returned (.bool true) ∧ ∃ m u', 400 < m ∧ FindAt p A c A' c' b v g w0 w' m u') ∨
  (r.2 ≤ 400 ∧ r.1 = none ∧ e = .returned (.bool false) ∧ FindAt p A c A' c' b v g w0 w' r.2 u ∧ OwnS w0.heap.size w' B d st ∧ PFind (blk B) w w') ∨
  (r.2 ≤ 400 ∧ ∃ l B' d', r.1 = some l ∧ e = .returned (.bool true) ∧ FindAt p A c A' c' b v g w0 w' r.2 (.slice B' l.length d') ∧ OwnS w0.heap.size w' B' d' l)
theorem frow10 {w : World} {g : Nat} {a b c d e f i j k l : Value} {t : TypeId} (h : w.heap[g]? = some (.cells #[a, b, c, d, e, f, i, j, k, l] t (0, 0))) :
    (w.cell? ⟨g, 0, none⟩ = some a ∧ w.cell? ⟨g, 1, none⟩ = some b ∧ w.cell? ⟨g, 2, none⟩ = some c ∧ w.cell? ⟨g, 3, none⟩ = some d ∧ w.cell? ⟨g, 4, none⟩ = some e ∧ w.cell? ⟨g, 5, none⟩ = some f ∧ w.cell? ⟨g, 6, none⟩ = some i ∧ w.cell? ⟨g, 7, none⟩ = some j ∧ w.cell? ⟨g, 8, none⟩ = some k ∧ w.cell? ⟨g, 9, none⟩ = some l) ∧
    (w.frozen? ⟨g, 8, none⟩ = false ∧ w.frozen? ⟨g, 9, none⟩ = false) ∧ g < w.heap.size :=
  ⟨⟨cell_of_row w g 0 _ t _ h, cell_of_row w g 1 _ t _ h, cell_of_row w g 2 _ t _ h, cell_of_row w g 3 _ t _ h, cell_of_row w g 4 _ t _ h, cell_of_row w g 5 _ t _ h, cell_of_row w g 6 _ t _ h, cell_of_row w g 7 _ t _ h, cell_of_row w g 8 _ t _ h, cell_of_row w g 9 _ t _ h⟩,
    ⟨frozen_of_row w g 8 _ t h, frozen_of_row w g 9 _ t h⟩, (Array.getElem?_eq_some_iff.1 h).1⟩
section
variable {p : Pl.Plan} {A : Option Addr} {c : Nat} {A' : Option Addr} {c' : Nat} {b : Int} {v u : Value} {g : Nat} {w0 wr : World} {n : Nat}
theorem FindAt.below {w2 : World} (hh : FindAt p A c A' c' b v g w0 wr n u) (hb : Below wr.heap.size wr w2) : FindAt p A c A' c' b v g w0 w2 n u := by
  obtain ⟨h1, h2, h3⟩ := hh
  exact ⟨h1.trans (hb.mono h1.size), h2, (hb.block _ (Array.getElem?_eq_some_iff.1 h3).1).trans h3⟩
/-- Entered: one more. -/
theorem FindAt.came (hh : FindAt p A c A' c' b v g w0 wr n u) : FindAt p A c A' c' b v g w0 (wr.setCell ⟨g, 8, none⟩ (.int .i64 ((n : Int) + 1))) (n + 1) u ∧ Tame 70 70 wr (wr.setCell ⟨g, 8, none⟩ (.int .i64 ((n : Int) + 1))) := by
  obtain ⟨h1, h2, h3⟩ := hh
  refine ⟨⟨h1.setCell h2 _, h2, ?_⟩, set_ptame h3⟩
  rw [heap_setCell_same _ _ _ _ _ _ h3]
  rfl
/-- Found. -/
theorem FindAt.met (hh : FindAt p A c A' c' b v g w0 wr n u) (u' : Value) : FindAt p A c A' c' b v g w0 (wr.setCell ⟨g, 9, none⟩ u') n u' ∧ Tame 70 70 wr (wr.setCell ⟨g, 9, none⟩ u') := by
  obtain ⟨h1, h2, h3⟩ := hh
  refine ⟨⟨h1.setCell h2 _, h2, ?_⟩, set_ptame h3⟩
  rw [heap_setCell_same _ _ _ _ _ _ h3]
  rfl
/-- Steps grow behind a row, in a block of steps. -/
theorem FindAt.grown {x : Option Nat} {w2 : World} (hh : FindAt p A c A' c' b v g w0 wr n u) (hg : wr.grownBy w2 x) (hb : Below w0.heap.size w0 w2) (hx : ∀ k, x = some k → ∃ cs, wr.heap[k]? = some (.cells cs 47 (0, 0))) : FindAt p A c A' c' b v g w0 w2 n u := by
  obtain ⟨h1, h2, h3⟩ := hh
  refine ⟨hb, h2, (hg.block g (Array.getElem?_eq_some_iff.1 h3).1 fun e => ?_).trans h3⟩
  obtain ⟨cs, hc⟩ := hx g e.symm
  rw [h3] at hc
  injection hc with hc
  injection hc with _ hc _
  revert hc
  decide
set_option maxHeartbeats 8000000 in
set_option maxRecDepth 100000 in
/-- Whether a section may not be entered. -/
theorem pBarred_any {way : List Wk.Stp} {Aw : Option Addr} {cw : Nat} (hway : LStp.Row wr Aw way) (hwl : way.length ≤ 1000) (s : Int) (st : List Wk.Stp) (B : Option Addr) (d : Nat) (hh : FindAt p A c A' c' b (.slice Aw way.length cw) g w0 wr n u) (hst : LStp.Row wr B st) (hl : st.length ≤ 16) :
    Calls Try.prog 35 #[.pointer (some ⟨g, 0, none⟩), .slice B st.length d, .int .i64 s] wr (OneIs (.bool (Lp.bars b way st s)) wr) := by
  --[
  obtain ⟨⟨-, -, -, -, -, -, p6, p7, -, -⟩, -, gg⟩ := frow10 hh.2.2
  have CW := Lib.hid (pwWithin_any Aw cw way s wr hway (by omega))
  have CS := Lib.hid (fun W (hb : Below wr.heap.size wr W) => pwWithin_any B d st s W (hst.below rfl hb) (by omega))
  have B0 := Lib.hid (Below.refl wr.heap.size wr)
  clear hh hway hst
  by_cases hs : s = b
  · have E : (s == b) = true := by rw [beq_iff_eq]; exact hs
    have P := Lib.hid (show Lp.bars b way st s = true by unfold Lp.bars; rw [decide_eq_true hs]; rfl)
    clear hs
    go_enter Try.func35, Try.ntmps35
    go_wp2_with fail
    go_ret
    exact ⟨by rw [P.out]; rfl, B0.out⟩
  have E : (s == b) = false := by rw [beq_eq_false_iff_ne]; exact hs
  have P := Lib.hid (show Lp.bars b way st s = (Wk.within way s || Wk.within st s) by unfold Lp.bars; rw [decide_eq_false hs]; rfl)
  clear hs
  cases hw : Wk.within way s with
  | true =>
    rw [hw] at CW P
    go_enter Try.func35, Try.ntmps35
    go_wp2_with fail
    refine CW.out.mono ?_; rintro e w1 ⟨rfl, hb1⟩
    have B1 := Lib.hid hb1
    clear hb1
    go_wp2_with fail
    go_ret
    exact ⟨by rw [P.out]; rfl, B1.out⟩
  | false =>
    rw [hw] at CW P
    generalize Wk.within st s = q at CS P
    go_enter Try.func35, Try.ntmps35
    go_wp2_with fail
    refine CW.out.mono ?_; rintro e w1 ⟨rfl, hb1⟩
    have B1 := Lib.hid hb1
    clear hb1
    go_wp2_with fail
    refine (CS.out _ B1.out).mono ?_; rintro e w2 ⟨rfl, hb2⟩
    have B2 := Lib.hid (B1.out.trans (hb2.mono B1.out.size))
    clear hb2
    go_wp2_with fail
    go_ret
    exact ⟨by rw [P.out, Bool.false_or]; rfl, B2.out⟩
  --]
set_option maxHeartbeats 8000000 in
set_option maxRecDepth 100000 in
/-- Where the search turns back. -/
theorem plEnter_turn {way : List Wk.Stp} {Aw : Option Addr} {cw : Nat} (hway : LStp.Row w0 Aw way) (hwl : way.length ≤ 1000) (s f : Int) (st : List Wk.Stp) (B : Option Addr) (d : Nat) (hh : FindAt p A c A' c' b (.slice Aw way.length cw) g w0 wr n u) (ho : OwnS w0.heap.size wr B d st) (hl : st.length ≤ 16) (ht : n ≤ 1000000)
    (hT : (decide (400 < n + 1) || Lp.bars b way st s) = true ∨ st.length = 16) :
    Calls Try.prog 24 #[.pointer (some ⟨g, 0, none⟩), .slice B st.length d, .int .i64 s, .int .i64 f] wr (FindGives p A c A' c' b (.slice Aw way.length cw) g w0 (none, n + 1) B d st u wr) := by
  --[
  obtain ⟨⟨-, -, -, -, -, -, -, -, p8, -⟩, ⟨f8, -⟩, gg⟩ := frow10 hh.2.2
  have q1 : IntKind.i64.wrap ((n : Int) + 1) = (n : Int) + 1 := IntWalk.i64_in _ (by omega)
  have HC := Lib.hid hh.came
  have OC := Lib.hid (own_tame ho HC.out.2 (by decide) (by decide))
  have CB := Lib.hid (pBarred_any (hway.below rfl HC.out.1.1) hwl s st B d HC.out.1 (OwnS.row OC.out) hl)
  clear hh ho hway
  by_cases hm : 400 < n + 1
  · have D : decide (400 < (n : Int) + 1) = true := dec_t (by omega)
    have FIN := Lib.hid (show FindGives p A c A' c' b (.slice Aw way.length cw) g w0 (none, n + 1) B d st u wr (.returned (.bool true)) (wr.setCell ⟨g, 8, none⟩ (.int .i64 ((n : Int) + 1))) from .inl ⟨hm, rfl, n + 1, u, hm, HC.out.1⟩)
    clear hT hm
    go_enter Try.func24, Try.ntmps24
    go_wp2_with fail
    go_ret
    exact FIN.out
  have D : decide (400 < (n : Int) + 1) = false := dec_f (by omega)
  have FIN := Lib.hid (fun W (hb : Below (wr.setCell ⟨g, 8, none⟩ (.int .i64 ((n : Int) + 1))).heap.size (wr.setCell ⟨g, 8, none⟩ (.int .i64 ((n : Int) + 1))) W) => show FindGives p A c A' c' b (.slice Aw way.length cw) g w0 (none, n + 1) B d st u wr (.returned (.bool false)) W from
    .inr (.inl ⟨by simp only; omega, rfl, rfl, HC.out.1.below hb, ownsRow_below OC.out hb, (HC.out.2.trans (Below.tame hb _ _)).seeks _⟩))
  have B0 := Lib.hid (Below.refl (wr.setCell ⟨g, 8, none⟩ (.int .i64 ((n : Int) + 1))).heap.size (wr.setCell ⟨g, 8, none⟩ (.int .i64 ((n : Int) + 1))))
  by_cases h16 : st.length = 16
  · have E : ((st.length : Int) == 16) = true := by rw [beq_iff_eq]; omega
    clear hT hm h16
    go_enter Try.func24, Try.ntmps24
    go_wp2_with fail
    go_ret
    exact FIN.out _ B0.out
  have E : ((st.length : Int) == 16) = false := by rw [beq_eq_false_iff_ne]; omega
  have hbr : Lp.bars b way st s = true := by
    rcases hT with hT | hT
    · rw [decide_eq_false hm, Bool.false_or] at hT; exact hT
    · exact absurd hT h16
  rw [hbr] at CB
  clear hT hm h16 hbr
  go_enter Try.func24, Try.ntmps24
  go_wp2_with fail
  refine CB.out.mono ?_; rintro e w1 ⟨rfl, hb1⟩
  have B1 := Lib.hid hb1
  clear hb1
  go_wp2_with fail
  go_ret
  exact FIN.out _ B1.out
  --]
end
end Go.Proofs.Ytfmpjljddfaggaa
