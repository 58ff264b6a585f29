/-
  Texts of this claim, merged: WkPrA, WkPrB, WkProg, WkAwake, WkArr, WkOpen.
-/
import Derived.Test.YtgbeebjbmbikiaaMg01
import Derived.Test.YtgbeebjbmbikiaaMg14
import Derived.Test.YtgbeebjbmbikiaaRows
import Derived.BigQuiet
import Derived.Carry
import Derived.Deep.DeepHandedRow
import Derived.Deep.LoopGhost
import Derived.Deep.Slices
import Derived.Lib.LaidTab
import Derived.OpenShut
import Derived.ProofKit
import Derived.Shelf.Abstract
import Derived.Stop.LaidErr
import Derived.WalkKit
/-
  The walks of the program's layer 6: a section's ends, and one of them.
-/
namespace Go.Proofs.Ytgbeebjbmbikiaa
open Go.RowKit

/-- A section's ends, and how many there are of them. -/
def endsAt (p : Pl.Plan) (s : Int) : Pl.Sec × Nat :=
  match Wk.secAt p s with
  | none => (⟨[], false, 0, ⟨0, 0, 0⟩, ⟨0, 0, 0⟩, ⟨0, 0, 0⟩⟩, 0)
  | some x => (x, if x.pt then 3 else 2)
theorem endsAt_le (p : Pl.Plan) (s : Int) : (endsAt p s).2 ≤ 3 := by
  unfold endsAt
  split
  · exact Nat.zero_le _
  · split
    · exact Nat.le_refl _
    · exact Nat.le_succ _
theorem endOf_ends (p : Pl.Plan) (s e : Int) : Wk.endOf p s e = if 0 ≤ e ∧ e < ((endsAt p s).2 : Int) then some ((endsAt p s).1.get e.toNat) else none := by
  unfold Wk.endOf endsAt
  cases Wk.secAt p s with
  | none =>
    simp only
    rw [if_neg (by omega)]
  | some x =>
    simp only
    unfold Wk.isEnd
    cases x.pt
    · simp only [Bool.or_false, Bool.and_eq_true, decide_eq_true_eq, Bool.false_eq_true, if_false]
      by_cases h : 0 ≤ e ∧ e ≤ 2 ∧ e ≠ 2
      · rw [if_pos h, if_pos (by omega)]
      · rw [if_neg h, if_neg (by omega)]
    · simp only [Bool.or_true, Bool.and_true, Bool.and_eq_true, decide_eq_true_eq, if_true]
      by_cases h : 0 ≤ e ∧ e ≤ 2
      · rw [if_pos h, if_pos (by omega)]
      · rw [if_neg h, if_neg (by omega)]
abbrev wkEV (x : Pl.Sec) : Value := .agg #[.int .i64 x.e0.goes, .int .i64 x.e0.at_, .int .i64 x.e0.sig, .int .i64 x.e1.goes, .int .i64 x.e1.at_, .int .i64 x.e1.sig, .int .i64 x.e2.goes, .int .i64 x.e2.at_, .int .i64 x.e2.sig]
abbrev wkEO (x : Pl.Sec) : Obj := .cells #[.int .i64 x.e0.goes, .int .i64 x.e0.at_, .int .i64 x.e0.sig, .int .i64 x.e1.goes, .int .i64 x.e1.at_, .int .i64 x.e1.sig, .int .i64 x.e2.goes, .int .i64 x.e2.at_, .int .i64 x.e2.sig] 43
abbrev wkEZ : Obj := .cells #[.int .i64 0, .int .i64 0, .int .i64 0, .int .i64 0, .int .i64 0, .int .i64 0, .int .i64 0, .int .i64 0, .int .i64 0] 43
abbrev wkSO (x : Pl.Sec) : Obj := .cells #[.string (txt x.name), .bool x.pt, .int .i64 x.len, .int .i64 x.e0.goes, .int .i64 x.e0.at_, .int .i64 x.e0.sig, .int .i64 x.e1.goes, .int .i64 x.e1.at_, .int .i64 x.e1.sig, .int .i64 x.e2.goes, .int .i64 x.e2.at_, .int .i64 x.e2.sig] 45
/-- A section's ends that a call leaves. -/
def EndsAre (x : Pl.Sec × Nat) (w : World) (e : Ending) (w' : World) : Prop := e = .returned (.tuple #[wkEV x.1, .int .i64 x.2]) ∧ Below w.heap.size w w'
theorem three_new (w : World) (a b c : Obj) : (((w.alloc a).alloc b).alloc c).heap[w.heap.size]? = some a ∧ (((w.alloc a).alloc b).alloc c).heap[w.heap.size + 1]? = some b ∧ (((w.alloc a).alloc b).alloc c).heap[w.heap.size + 2]? = some c ∧ Below w.heap.size w (((w.alloc a).alloc b).alloc c) := by
  have s1 : (w.alloc a).heap.size = w.heap.size + 1 := by simp
  have s2 : ((w.alloc a).alloc b).heap.size = w.heap.size + 2 := by simp
  refine ⟨?_, ?_, ?_, (((Below.refl _ _).alloc (Nat.le_refl _) _).alloc (by omega) _).alloc (by omega) _⟩
  · rw [heap_alloc_old _ _ (by omega), heap_alloc_old _ _ (by omega)]; exact heap_alloc_new _ _
  · rw [heap_alloc_old _ _ (by omega), ← s1]; exact heap_alloc_new _ _
  · rw [← s2]; exact heap_alloc_new _ _
theorem row9 {w : World} {g : Nat} {a b c d e f i j k : Value} {t : TypeId} (h : w.heap[g]? = some (.cells #[a, b, c, d, e, f, i, j, k] t (0, 0))) :
    (w.cell? ⟨g, 0, none⟩ = some a ∧ w.cell? ⟨g, 1, none⟩ = some b ∧ w.cell? ⟨g, 2, none⟩ = some c ∧ w.cell? ⟨g, 3, none⟩ = some d ∧ w.cell? ⟨g, 4, none⟩ = some e ∧ w.cell? ⟨g, 5, none⟩ = some f ∧ w.cell? ⟨g, 6, none⟩ = some i ∧ w.cell? ⟨g, 7, none⟩ = some j ∧ w.cell? ⟨g, 8, none⟩ = some k) ∧
    (w.frozen? ⟨g, 0, none⟩ = false ∧ w.frozen? ⟨g, 1, none⟩ = false ∧ w.frozen? ⟨g, 2, none⟩ = false ∧ w.frozen? ⟨g, 3, none⟩ = false ∧ w.frozen? ⟨g, 4, none⟩ = false ∧ w.frozen? ⟨g, 5, none⟩ = false ∧ w.frozen? ⟨g, 6, none⟩ = false ∧ w.frozen? ⟨g, 7, none⟩ = false ∧ w.frozen? ⟨g, 8, none⟩ = false) ∧ g < w.heap.size :=
  ⟨⟨cell_of_row w g 0 _ t _ h, cell_of_row w g 1 _ t _ h, cell_of_row w g 2 _ t _ h, cell_of_row w g 3 _ t _ h, cell_of_row w g 4 _ t _ h, cell_of_row w g 5 _ t _ h, cell_of_row w g 6 _ t _ h, cell_of_row w g 7 _ t _ h, cell_of_row w g 8 _ t _ h⟩,
    ⟨frozen_of_row w g 0 _ t h, frozen_of_row w g 1 _ t h, frozen_of_row w g 2 _ t h, frozen_of_row w g 3 _ t h, frozen_of_row w g 4 _ t h, frozen_of_row w g 5 _ t h, frozen_of_row w g 6 _ t h, frozen_of_row w g 7 _ t h, frozen_of_row w g 8 _ t h⟩, (Array.getElem?_eq_some_iff.1 h).1⟩
/-- The cells of a section that lies whole. -/
theorem row_sec {w : World} {g : Nat} {x : Pl.Sec} (h : w.heap[g]? = some (wkSO x)) :
    w.cell? ⟨g, 1, none⟩ = some (.bool x.pt) ∧ w.cell? ⟨g, 3, none⟩ = some (.int .i64 x.e0.goes) ∧ w.cell? ⟨g, 4, none⟩ = some (.int .i64 x.e0.at_) ∧ w.cell? ⟨g, 5, none⟩ = some (.int .i64 x.e0.sig) ∧ w.cell? ⟨g, 6, none⟩ = some (.int .i64 x.e1.goes) ∧ w.cell? ⟨g, 7, none⟩ = some (.int .i64 x.e1.at_) ∧
      w.cell? ⟨g, 8, none⟩ = some (.int .i64 x.e1.sig) ∧ w.cell? ⟨g, 9, none⟩ = some (.int .i64 x.e2.goes) ∧ w.cell? ⟨g, 10, none⟩ = some (.int .i64 x.e2.at_) ∧ w.cell? ⟨g, 11, none⟩ = some (.int .i64 x.e2.sig) ∧ g < w.heap.size :=
  ⟨cell_of_row w g 1 _ _ _ h, cell_of_row w g 3 _ _ _ h, cell_of_row w g 4 _ _ _ h, cell_of_row w g 5 _ _ _ h, cell_of_row w g 6 _ _ _ h, cell_of_row w g 7 _ _ _ h, cell_of_row w g 8 _ _ _ h, cell_of_row w g 9 _ _ _ h, cell_of_row w g 10 _ _ _ h, cell_of_row w g 11 _ _ _ h, (Array.getElem?_eq_some_iff.1 h).1⟩
set_option maxHeartbeats 8000000 in
set_option maxRecDepth 100000 in
theorem pwEnds_any (p : Pl.Plan) (A : Option Addr) (c : Nat) (A' : Option Addr) (c' : Nat) (s : Int) (w : World) (h : PlanIn w p A A') :
    Calls Try.prog 24 #[planV p A c A' c', .int .i64 s] w (EndsAre (endsAt p s) w) := by
  --[
  obtain ⟨R0, R1, XX, XS⟩ := two_blocks w (planO p A c A' c') wkEZ
  have X0 := Lib.hid XX
  obtain ⟨⟨-, -, -, -, p4, -⟩, -, gp⟩ := row6 R0
  obtain ⟨⟨z0, z1, z2, z3, z4, z5, z6, z7, z8⟩, ⟨f0, f1, f2, f3, f4, f5, f6, f7, f8⟩, gz⟩ := row9 R1
  have HI := Lib.hid (h.below XX)
  clear R0 R1 XX h
  rcases Wk.sec_ways p s with ⟨hs, hn⟩ | ⟨k, rfl, ⟨hk, hn⟩ | ⟨x, hx, hn⟩⟩
  · have D : decide (s < 0) = true := dec_t hs
    have E : endsAt p s = (⟨[], false, 0, ⟨0, 0, 0⟩, ⟨0, 0, 0⟩, ⟨0, 0, 0⟩⟩, 0) := by unfold endsAt; rw [hn]
    rw [E]
    clear hs hn E
    go_enter Try.func24, Try.ntmps24
    go_wp2_with fail
    refine bodyPost_ret ?_ rfl ⟨rfl, ?_⟩
    · simp [results, Try.results24, go_sem, *]
    · (repeat (with_reducible refine Below.setCell ?_ (by exact Nat.le_succ _) _)); exact X0.out
  · have D0 : decide ((k : Int) < 0) = false := dec_f (by omega)
    have D1 : decide ((p.secs.length : Int) ≤ (k : Int)) = true := dec_t (by omega)
    have E : endsAt p k = (⟨[], false, 0, ⟨0, 0, 0⟩, ⟨0, 0, 0⟩, ⟨0, 0, 0⟩⟩, 0) := by unfold endsAt; rw [hn]
    rw [E]
    clear hn E
    go_enter Try.func24, Try.ntmps24
    go_wp2_with fail
    refine bodyPost_ret ?_ rfl ⟨rfl, ?_⟩
    · simp [results, Try.results24, go_sem, *]
    · (repeat (with_reducible refine Below.setCell ?_ (by exact Nat.le_succ _) _)); exact X0.out
  · have hlt : k < p.secs.length := (List.getElem?_eq_some_iff.1 hx).1
    have D0 : decide ((k : Int) < 0) = false := dec_f (by omega)
    have D1 : decide ((p.secs.length : Int) ≤ (k : Int)) = false := dec_f (by omega)
    have N1 : ¬ p.secs.length ≤ k := by omega
    have E : endsAt p k = (x, if x.pt then 3 else 2) := by unfold endsAt; rw [hn]
    rw [E]
    obtain ⟨b, o, rfl, hb, on⟩ := sec_cells HI.out.1 hx
    obtain ⟨a0, a1, a2, a3, a4, a5, a6, a7, a8, a9, a10, a11⟩ := sec_on on
    obtain ⟨-, R1, R2, -⟩ := three_new w (planO p (some ⟨b, o, none⟩) c A' c') wkEZ (wkSO x)
    obtain ⟨⟨y0, y1, y2, y3, y4, y5, y6, y7, y8⟩, ⟨q0, q1, q2, q3, q4, q5, q6, q7, q8⟩, gy⟩ := row9 R1
    obtain ⟨t1, t3, t4, t5, t6, t7, t8, t9, t10, t11, gt⟩ := row_sec R2
    clear hn on hx E R1 R2 X0
    cases hpt : x.pt
    · rw [hpt] at a1 t1
      simp only [Bool.false_eq_true, if_false]
      clear hpt
      go_enter Try.func24, Try.ntmps24
      go_wp2_with fail
      refine bodyPost_ret ?_ rfl ⟨rfl, ?_⟩
      · simp [results, Try.results24, go_sem, *]
      · exact (three_new w _ _ _).2.2.2
    · rw [hpt] at a1 t1
      simp only [if_true]
      clear hpt
      go_enter Try.func24, Try.ntmps24
      go_wp2_with fail
      refine bodyPost_ret ?_ rfl ⟨rfl, ?_⟩
      · simp [results, Try.results24, go_sem, *]
      · exact (three_new w _ _ _).2.2.2
  --]
/-- Ends that lie in a block of their own, by number. -/
theorem ends_at3 {w : World} {g : Nat} {x : Pl.Sec} (h : w.heap[g]? = some (wkEO x)) {e : Nat} (he : e < 3) : w.cell? ⟨g, e * 3, none⟩ = some (.int .i64 (x.get e).goes) ∧ w.cell? ⟨g, e * 3 + 1, none⟩ = some (.int .i64 (x.get e).at_) ∧ w.cell? ⟨g, e * 3 + 2, none⟩ = some (.int .i64 (x.get e).sig) := by
  obtain ⟨⟨a3, a4, a5, a6, a7, a8, a9, a10, a11⟩, -, -⟩ := row9 h
  have : e = 0 ∨ e = 1 ∨ e = 2 := by omega
  rcases this with rfl | rfl | rfl
  · exact ⟨a3, a4, a5⟩
  · exact ⟨a6, a7, a8⟩
  · exact ⟨a9, a10, a11⟩
set_option maxHeartbeats 8000000 in
set_option maxRecDepth 100000 in
theorem pwTip_any (p : Pl.Plan) (A : Option Addr) (c : Nat) (A' : Option Addr) (c' : Nat) (s e : Int) (w : World) (h : PlanIn w p A A') :
    Calls Try.prog 22 #[planV p A c A' c', .int .i64 s, .int .i64 e] w (EndIs (Wk.endOf p s e) w) := by
  --[
  obtain ⟨R0, R1, XX, XS⟩ := two_blocks w (planO p A c A' c') endZ
  have X0 := Lib.hid XX
  obtain ⟨⟨p0, p1, p2, p3, p4, p5⟩, -, gp⟩ := row6 R0
  have HR1 := Lib.hid R1
  have EN := Lib.hid (pwEnds_any p A c A' c' s _ (h.below XX))
  have hle := endsAt_le p s
  rw [endOf_ends]
  clear R0 R1 XX h
  generalize endsAt p s = q at EN hle
  obtain ⟨x, n⟩ := q
  simp only at hle
  have fin2 : ∀ w1, Below ((w.alloc (planO p A c A' c')).alloc endZ).heap.size ((w.alloc (planO p A c A' c')).alloc endZ) w1 → (w1.alloc (wkEO x)).heap[w.heap.size + 1]? = some endZ ∧ (w1.alloc (wkEO x)).heap[w1.heap.size]? = some (wkEO x) ∧ Below w.heap.size w (w1.alloc (wkEO x)) := fun w1 hb => by
    have hsz := hb.size
    refine ⟨?_, heap_alloc_new _ _, (X0.out.trans (hb.mono X0.out.size)).alloc (X0.out.trans (hb.mono X0.out.size)).size _⟩
    rw [heap_alloc_old _ _ (by omega), hb.block _ (by omega)]
    exact HR1.out
  have F2 := Lib.hid fin2
  clear fin2 HR1
  by_cases h0 : e < 0
  · have D2 : decide (e < 0) = true := dec_t h0
    rw [if_neg (by omega)]
    clear h0
    go_enter Try.func22, Try.ntmps22
    go_wp2_with fail
    refine EN.out.mono ?_; rintro e w1 ⟨rfl, hb1⟩
    obtain ⟨R1, R2, B2⟩ := F2.out w1 hb1
    obtain ⟨⟨z0, z1, z2⟩, ⟨f0, f1, f2⟩, gz⟩ := row3 R1
    have H2 := Lib.hid B2
    clear p0 p1 p2 p3 p4 p5 hb1 R1 R2 B2 F2 EN
    go_wp2_with fail
    refine bodyPost_ret ?_ rfl ⟨rfl, ?_⟩
    · simp [results, Try.results22, go_sem, *]
    · (repeat (with_reducible refine Below.setCell ?_ (by exact Nat.le_succ _) _)); exact H2.out
  have D2 : decide (e < 0) = false := dec_f h0
  obtain ⟨j, rfl⟩ : ∃ j : Nat, e = j := ⟨e.toNat, by omega⟩
  by_cases h2 : n ≤ j
  · have D3 : decide ((n : Int) ≤ (j : Int)) = true := dec_t (by omega)
    rw [if_neg (by simp only; omega)]
    clear h0
    go_enter Try.func22, Try.ntmps22
    go_wp2_with fail
    refine EN.out.mono ?_; rintro e w1 ⟨rfl, hb1⟩
    obtain ⟨R1, R2, B2⟩ := F2.out w1 hb1
    obtain ⟨⟨z0, z1, z2⟩, ⟨f0, f1, f2⟩, gz⟩ := row3 R1
    have H2 := Lib.hid B2
    clear p0 p1 p2 p3 p4 p5 hb1 R1 R2 B2 F2 EN
    go_wp2_with fail
    refine bodyPost_ret ?_ rfl ⟨rfl, ?_⟩
    · simp [results, Try.results22, go_sem, *]
    · (repeat (with_reducible refine Below.setCell ?_ (by exact Nat.le_succ _) _)); exact H2.out
  · have D3 : decide ((n : Int) ≤ (j : Int)) = false := dec_f (by omega)
    have N3 : ¬ n ≤ j := h2
    have j3 : (j : Int) < 3 := by omega
    have j3' : j < 3 := by omega
    rw [if_pos (by simp only; omega), Int.toNat_natCast]
    obtain ⟨⟨y0, y1, y2⟩, hy⟩ : ∃ y, y = x.get j := ⟨_, rfl⟩
    have HY := Lib.hid hy.symm
    simp only
    rw [← hy]
    clear h0 h2 hy
    go_enter Try.func22, Try.ntmps22
    go_wp2_with fail
    refine EN.out.mono ?_; rintro e w1 ⟨rfl, hb1⟩
    obtain ⟨R1, R2, B2⟩ := F2.out w1 hb1
    obtain ⟨⟨z0, z1, z2⟩, ⟨f0, f1, f2⟩, gz⟩ := row3 R1
    obtain ⟨k0, k1, k2⟩ := ends_at3 R2 j3'
    have gk := (Array.getElem?_eq_some_iff.1 R2).1
    rw [HY.out] at k0 k1 k2
    simp only at k0 k1 k2
    have H2 := Lib.hid B2
    clear p0 p1 p2 p3 p4 p5 hb1 R1 R2 B2 F2 EN
    go_wp2_with fail
    refine bodyPost_ret ?_ rfl ⟨rfl, ?_⟩
    · simp [results, Try.results22, go_sem, *]
    · (repeat (with_reducible refine Below.setCell ?_ (by exact Nat.le_succ _) _)); exact H2.out
  --]
end Go.Proofs.Ytgbeebjbmbikiaa
/-
  The walks of the program's layer 6: which position a step asks, whether steps go through a section.
-/
namespace Go.Proofs.Ytgbeebjbmbikiaa
open Go.RowKit

set_option maxHeartbeats 8000000 in
set_option maxRecDepth 100000 in
theorem pwPosition_any (p : Pl.Plan) (A : Option Addr) (c : Nat) (A' : Option Addr) (c' : Nat) (x : Wk.Stp) (w : World) (h : PlanIn w p A A') (_hl : p.secs.length ≤ 24) :
    Calls Try.prog 16 #[planV p A c A' c', stpV x] w (OneIs (.int .i64 (Wk.position p x)) w) := by
  --[
  obtain ⟨s, f, t⟩ := x
  obtain ⟨R0, R1, XX, XS⟩ := two_blocks w (planO p A c A' c') (stpO ⟨s, f, t⟩)
  have X0 := Lib.hid XX
  obtain ⟨⟨-, -, -, -, p4, -⟩, -, gp⟩ := row6 R0
  obtain ⟨⟨z0, z1, z2⟩, -, gz⟩ := row3 R1
  have HI := Lib.hid (h.below XX)
  clear R0 R1 XX h
  have E : ∀ s, Wk.position p ⟨s, f, t⟩ = if ((Wk.secAt p s).map Pl.Sec.pt).getD false then max (max f t) 0 else 0 := fun _ => rfl
  rcases Wk.sec_ways p s with ⟨hs, hn⟩ | ⟨k, rfl, ⟨hk, hn⟩ | ⟨x, hx, hn⟩⟩
  · have D : decide (s < 0) = true := dec_t hs
    rw [E, hn]
    clear hs hn E
    go_enter Try.func16, Try.ntmps16
    go_wp2_with fail
    go_ret
    exact ⟨rfl, X0.out⟩
  · have D0 : decide ((k : Int) < 0) = false := dec_f (by omega)
    have D1 : decide ((p.secs.length : Int) ≤ (k : Int)) = true := dec_t (by omega)
    rw [E, hn]
    clear hn E
    go_enter Try.func16, Try.ntmps16
    go_wp2_with fail
    go_ret
    exact ⟨rfl, X0.out⟩
  · have hlt : k < p.secs.length := (List.getElem?_eq_some_iff.1 hx).1
    have D0 : decide ((k : Int) < 0) = false := dec_f (by omega)
    have D1 : decide ((p.secs.length : Int) ≤ (k : Int)) = false := dec_f (by omega)
    have N1 : ¬ p.secs.length ≤ k := by omega
    obtain ⟨b, o, rfl, hb, on⟩ := sec_cells HI.out.1 hx
    obtain ⟨-, a1, -⟩ := sec_on on
    rw [E, hn]
    clear hn on hx E
    cases hpt : x.pt
    · rw [hpt] at a1
      simp only [Option.map_some, Option.getD_some, hpt]
      clear hpt
      go_enter Try.func16, Try.ntmps16
      go_wp2_with fail
      go_ret
      exact ⟨rfl, X0.out⟩
    · rw [hpt] at a1
      simp only [Option.map_some, Option.getD_some, hpt]
      clear hpt
      go_enter Try.func16, Try.ntmps16
      go_wp2_with fail
      all_goals refine bodyPost_ret (v := .int .i64 (max f (max t 0))) ?_ rfl ⟨rfl, X0.out⟩
      all_goals simp [results, Try.results16, go_sem]
      all_goals omega
  --]
set_option maxHeartbeats 4000000 in
set_option maxRecDepth 100000 in
/-- Is a step of the section whose number lies in that cell? -/
theorem pStepOf (x : Wk.Stp) (s : Int) (g : Nat) (W : World) (hg : g < W.heap.size) (hc : W.cell? ⟨g, 0, none⟩ = some (.int .i64 s)) :
    Calls Try.prog 26 #[stpV x, .pointer (some ⟨g, 0, none⟩)] W fun e w' => e = .returned (.bool (x.s == s)) ∧ Below W.heap.size W w' := by
  --[
  obtain ⟨a, b, d⟩ := x
  have hne : g ≠ W.heap.size := by omega
  have X := Lib.hid ((Below.refl W.heap.size W).alloc (Nat.le_refl _) (stpO ⟨a, b, d⟩))
  show Calls Try.prog 26 #[.agg #[.int .i64 a, .int .i64 b, .int .i64 d], .pointer (some ⟨g, 0, none⟩)] W fun e w' => e = .returned (.bool (a == s)) ∧ Below W.heap.size W w'
  cases h1 : (a == s)
  · go_enter Try.func26, Try.ntmps26
    go_wp2
    go_ret
    exact ⟨rfl, X.out⟩
  · go_enter Try.func26, Try.ntmps26
    go_wp2
    go_ret
    exact ⟨rfl, X.out⟩
  --]
/-- The number that says whether a list has one: below 0 if it has none. -/
def HitIs (b : Bool) (w : World) (e : Ending) (w' : World) : Prop := ∃ i : Int, e = .returned (.int .i64 i) ∧ (b = true → decide (0 ≤ i) = true) ∧ (b = false → i = -1) ∧ Below w.heap.size w w'
set_option maxHeartbeats 4000000 in
set_option maxRecDepth 100000 in
theorem pIndexStep (A : Option Addr) (c : Nat) (L : List Wk.Stp) (s : Int) (g : Nat) (w : World) (h : LStp.Row w A L) (hl : L.length ≤ 1000000) (hg : g < w.heap.size) (hc : w.cell? ⟨g, 0, none⟩ = some (.int .i64 s)) :
    Calls Try.prog 33 #[.slice A L.length c, .func (.func 26) #[] #[.pointer (some ⟨g, 0, none⟩)]] w (HitIs (Wk.within L s) w) := by
  --[
  have eg : ∀ args w, (callFunc 26 args).run Try.prog w = .ok (.enter 26 args) w := enters_of Try.func26 (by kernel_rfl) rfl
  have IA := Lib.hid h
  have CL := Lib.hid (fun x W (hb : Below w.heap.size w W) => pStepOf x s g W (Nat.lt_of_lt_of_le hg hb.size) ((hb.cell (p := ⟨g, 0, none⟩) hg).trans hc))
  clear h hc
  go_enter Try.func33, Try.ntmps33
  go_wp2
  go_loopg [5, 8] L.length (fun gg _ s8 wr => ∃ k : Nat, k ≤ L.length ∧ L.length - k ≤ gg ∧ s8 = .int .i64 k ∧ Below w.heap.size w wr ∧ ∀ j < k, ∀ t, L[j]? = some t → t.s ≠ s)
  case atStart => exact ⟨0, Nat.zero_le _, by omega, rfl, Below.refl _ w, fun j hj => absurd hj (Nat.not_lt_zero _)⟩
  case round =>
    obtain ⟨k, hk, hgg, rfl, hB, h0⟩ := hrel
    have HB := Lib.hid hB
    have H0 := Lib.hid h0
    clear hB h0
    by_cases hlt : k < L.length
    · have d1 : decide ((k : Int) < (L.length : Int)) = true := dec_t (by omega)
      have hx := List.getElem?_eq_getElem hlt
      obtain ⟨b, o, rfl, hb, on⟩ := (IA.out.below rfl HB.out).at hlt
      generalize L[k] = x at hx on
      obtain ⟨a0, a1, a2⟩ := stp_on on
      rw [show k * LStp.m = k * 3 from rfl] at a0 a1 a2
      have HX := Lib.hid hx
      have CX := Lib.hid (CL.out x wr HB.out)
      clear on hx
      by_cases he : x.s = s
      · have h1 : (x.s == s) = true := by rw [beq_iff_eq]; exact he
        have P := Lib.hid (within_at HX.out he)
        rw [h1] at CX
        clear he h1
        go_wp2_with (go_at_fn 26; refine CX.out.mono ?_; rintro e w' ⟨rfl, hb'⟩; have HB2 := Lib.hid (HB.out.trans (hb'.mono HB.out.size)); clear hb')
        go_ret
        exact ⟨(k : Int), rfl, (fun _ => dec_t (by omega)), (fun h => absurd (P.out.symm.trans h) (by decide)), HB2.out⟩
      · have h1 : (x.s == s) = false := by rw [beq_eq_false_iff_ne]; exact he
        have N := Lib.hid (fun j (hj : j < k + 1) t (ht : L[j]? = some t) => (show t.s ≠ s from by
          by_cases hjk : j = k
          · subst hjk
            rw [HX.out] at ht
            cases ht
            exact he
          · exact H0.out j (by omega) t ht))
        rw [h1] at CX
        clear he h1
        go_wp2_with (go_at_fn 26; refine CX.out.mono ?_; rintro e w' ⟨rfl, hb'⟩; have HB2 := Lib.hid (HB.out.trans (hb'.mono HB.out.size)); clear hb')
        go_roundg (L.length - (k + 1))
        case measure => omega
        case rel => exact ⟨k + 1, by omega, by omega, by go_num, HB2.out, N.out⟩
    · obtain rfl : k = L.length := by omega
      have P := Lib.hid (within_none H0.out)
      go_wp2
      go_ret
      exact ⟨-1, rfl, (fun h => absurd (P.out.symm.trans h) (by decide)), (fun _ => rfl), HB.out⟩
  --]
set_option maxHeartbeats 4000000 in
set_option maxRecDepth 100000 in
theorem pHasStep (A : Option Addr) (c : Nat) (L : List Wk.Stp) (s : Int) (g : Nat) (w : World) (h : LStp.Row w A L) (hl : L.length ≤ 1000000) (hg : g < w.heap.size) (hc : w.cell? ⟨g, 0, none⟩ = some (.int .i64 s)) :
    Calls Try.prog 25 #[.slice A L.length c, .func (.func 26) #[] #[.pointer (some ⟨g, 0, none⟩)]] w (OneIs (.bool (Wk.within L s)) w) := by
  --[
  have HC := Lib.hid (pIndexStep A c L s g w h hl hg hc)
  clear h hc hg
  cases hb : Wk.within L s with
  | true =>
    rw [hb] at HC
    clear hb
    go_enter Try.func25, Try.ntmps25
    go_wp2_with fail
    refine HC.out.mono ?_; rintro e w' ⟨i, rfl, h1, -, hb'⟩
    have D := h1 rfl
    have HB := Lib.hid hb'
    clear h1 hb' HC
    go_wp2_with fail
    go_ret
    exact ⟨rfl, HB.out⟩
  | false =>
    rw [hb] at HC
    clear hb
    go_enter Try.func25, Try.ntmps25
    go_wp2_with fail
    refine HC.out.mono ?_; rintro e w' ⟨i, rfl, -, h2, hb'⟩
    obtain rfl := h2 rfl
    have HB := Lib.hid hb'
    clear h2 hb' HC
    go_wp2_with fail
    go_ret
    exact ⟨rfl, HB.out⟩
  --]
set_option maxHeartbeats 4000000 in
set_option maxRecDepth 100000 in
theorem pwWithin_any (A : Option Addr) (c : Nat) (L : List Wk.Stp) (s : Int) (w : World) (h : LStp.Row w A L) (hl : L.length ≤ 1000000) :
    Calls Try.prog 18 #[.slice A L.length c, .int .i64 s] w (OneIs (.bool (Wk.within L s)) w) := by
  --[
  have hb0 := (Below.refl w.heap.size w).alloc (Nat.le_refl _) (.cells #[.int .i64 s] 3)
  have HC := Lib.hid (pHasStep A c L s w.heap.size _ (h.below rfl hb0) hl (by simp) (cell_of_row _ _ 0 _ _ _ (heap_alloc_new w (.cells #[.int .i64 s] 3))))
  have HB0 := Lib.hid hb0
  clear h hb0
  go_enter Try.func18, Try.ntmps18
  go_wp2_with fail
  refine HC.out.mono ?_; rintro e w' ⟨rfl, hb'⟩
  go_wp2_with fail
  go_ret
  exact ⟨rfl, HB0.out.trans (hb'.mono HB0.out.size)⟩
  --]
end Go.Proofs.Ytgbeebjbmbikiaa
/-
  The walks of the program's layer 6: where an end leads, what stands there, the steps through a section.
-/
namespace Go.Proofs.Ytgbeebjbmbikiaa
open Go.RowKit

set_option maxHeartbeats 8000000 in
set_option maxRecDepth 100000 in
theorem pwNext_any (p : Pl.Plan) (A : Option Addr) (c : Nat) (A' : Option Addr) (c' : Nat) (s e : Int) (w : World) (h : PlanIn w p A A') (_hl : p.secs.length ≤ 24) :
    Calls Try.prog 9 #[planV p A c A' c', .int .i64 s, .int .i64 e] w (NextIs (Wk.next p s e) w) := by
  --[
  have R0 := heap_alloc_new w (planO p A c A' c')
  have XX := (Below.refl w.heap.size w).alloc (Nat.le_refl _) (planO p A c A' c')
  have X0 := Lib.hid XX
  obtain ⟨⟨p0, p1, p2, p3, p4, p5⟩, -, gp⟩ := row6 R0
  have AT := Lib.hid (pwTip_any p A c A' c' s e _ (h.below XX))
  have E : Wk.next p s e = match Wk.endOf p s e with | none => (0, 0, false) | some x => if x.goes < 0 then (0, 0, false) else (x.goes, x.at_, true) := rfl
  rw [E]
  clear R0 XX h E
  cases hx : Wk.endOf p s e with
  | none =>
    rw [hx] at AT
    clear hx
    go_enter Try.func9, Try.ntmps9
    go_wp2_with fail
    refine AT.out.mono ?_; rintro e w1 ⟨rfl, hb1⟩
    have B1 := Lib.hid ((X0.out.trans (hb1.mono X0.out.size)).alloc (X0.out.trans (hb1.mono X0.out.size)).size endZ)
    clear p0 p1 p2 p3 p4 p5 hb1
    go_wp2_with fail
    refine bodyPost_ret ?_ rfl ⟨rfl, B1.out⟩
    simp [results, Try.results9, go_sem]
  | some y =>
    rw [hx] at AT
    obtain ⟨y0, y1, y2⟩ := y
    by_cases h0 : y0 < 0
    · have D : decide (y0 < 0) = true := dec_t h0
      simp only
      rw [if_pos h0]
      clear hx h0
      go_enter Try.func9, Try.ntmps9
      go_wp2_with fail
      refine AT.out.mono ?_; rintro e w1 ⟨rfl, hb1⟩
      have B1 := Lib.hid ((X0.out.trans (hb1.mono X0.out.size)).alloc (X0.out.trans (hb1.mono X0.out.size)).size (.cells #[.int .i64 y0, .int .i64 y1, .int .i64 y2] 42))
      obtain ⟨⟨k0, k1, k2⟩, -, -⟩ := row3 (heap_alloc_new w1 (.cells #[.int .i64 y0, .int .i64 y1, .int .i64 y2] 42))
      clear p0 p1 p2 p3 p4 p5 hb1
      go_wp2_with fail
      refine bodyPost_ret ?_ rfl ⟨rfl, B1.out⟩
      simp [results, Try.results9, go_sem]
    · have D : decide (y0 < 0) = false := dec_f h0
      simp only
      rw [if_neg h0]
      clear hx h0
      go_enter Try.func9, Try.ntmps9
      go_wp2_with fail
      refine AT.out.mono ?_; rintro e w1 ⟨rfl, hb1⟩
      have B1 := Lib.hid ((X0.out.trans (hb1.mono X0.out.size)).alloc (X0.out.trans (hb1.mono X0.out.size)).size (.cells #[.int .i64 y0, .int .i64 y1, .int .i64 y2] 42))
      obtain ⟨⟨k0, k1, k2⟩, -, -⟩ := row3 (heap_alloc_new w1 (.cells #[.int .i64 y0, .int .i64 y1, .int .i64 y2] 42))
      clear p0 p1 p2 p3 p4 p5 hb1
      go_wp2_with fail
      go_quiet (fail)
      go_wp2_with fail
      refine bodyPost_ret ?_ rfl ⟨rfl, below_drewN B1.out _⟩
      simp [results, Try.results9, go_sem]
  --]
set_option maxHeartbeats 8000000 in
set_option maxRecDepth 100000 in
theorem pwSignal_any (p : Pl.Plan) (A : Option Addr) (c : Nat) (A' : Option Addr) (c' : Nat) (s e : Int) (w : World) (h : PlanIn w p A A') (_hl : p.secs.length ≤ 24) :
    Calls Try.prog 14 #[planV p A c A' c', .int .i64 s, .int .i64 e] w (OneIs (.int .i64 (Wk.signal p s e)) w) := by
  --[
  have R0 := heap_alloc_new w (planO p A c A' c')
  have XX := (Below.refl w.heap.size w).alloc (Nat.le_refl _) (planO p A c A' c')
  have X0 := Lib.hid XX
  obtain ⟨⟨p0, p1, p2, p3, p4, p5⟩, -, gp⟩ := row6 R0
  have AT := Lib.hid (pwTip_any p A c A' c' s e _ (h.below XX))
  have E : Wk.signal p s e = match Wk.endOf p s e with | none => -1 | some x => x.sig := rfl
  rw [E]
  clear R0 XX h E
  cases hx : Wk.endOf p s e with
  | none =>
    rw [hx] at AT
    clear hx
    go_enter Try.func14, Try.ntmps14
    go_wp2_with fail
    refine AT.out.mono ?_; rintro e w1 ⟨rfl, hb1⟩
    have B1 := Lib.hid ((X0.out.trans (hb1.mono X0.out.size)).alloc (X0.out.trans (hb1.mono X0.out.size)).size endZ)
    clear p0 p1 p2 p3 p4 p5 hb1
    go_wp2_with fail
    go_ret
    exact ⟨rfl, B1.out⟩
  | some y =>
    rw [hx] at AT
    obtain ⟨y0, y1, y2⟩ := y
    clear hx
    go_enter Try.func14, Try.ntmps14
    go_wp2_with fail
    refine AT.out.mono ?_; rintro e w1 ⟨rfl, hb1⟩
    have B1 := Lib.hid ((X0.out.trans (hb1.mono X0.out.size)).alloc (X0.out.trans (hb1.mono X0.out.size)).size (.cells #[.int .i64 y0, .int .i64 y1, .int .i64 y2] 42))
    obtain ⟨⟨k0, k1, k2⟩, -, -⟩ := row3 (heap_alloc_new w1 (.cells #[.int .i64 y0, .int .i64 y1, .int .i64 y2] 42))
    clear p0 p1 p2 p3 p4 p5 hb1
    go_wp2_with fail
    go_ret
    exact ⟨rfl, B1.out⟩
  --]
theorem infoStp : (Try.prog.info? 34).map (fun i => (i.zero, i.size, i.bytes)) = some (some (.agg #[.int .i64 0, .int .i64 0, .int .i64 0]), 3, 24) := by kernel_rfl
/-- The first k steps of a section from its end 0. -/
def legsTo (s : Int) (k : Nat) : List Wk.Stp := (List.range k).map fun (i : Nat) => (⟨s, 0, (i : Int) + 1⟩ : Wk.Stp)
theorem legsTo_succ (s : Int) (k : Nat) : legsTo s (k + 1) = legsTo s k ++ [⟨s, 0, (k : Int) + 1⟩] := by
  unfold legsTo
  rw [List.range_succ, List.map_append]; rfl
theorem legsTo_len (s : Int) (k : Nat) : (legsTo s k).length = k := by unfold legsTo; rw [List.length_map, List.length_range]
theorem outs_ends (p : Pl.Plan) (s f : Int) : Wk.outs p s f = if f < 0 ∨ ((endsAt p s).2 : Int) ≤ f then [] else if 0 < f then [⟨s, f, 0⟩] else legsTo s ((endsAt p s).2 - 1) := by
  unfold Wk.outs endsAt
  cases Wk.secAt p s with
  | none =>
    simp only
    rw [if_pos (by omega)]
  | some x =>
    simp only
    cases x.pt
    · simp only [Bool.false_eq_true, if_false]
      by_cases h0 : f = 0
      · subst h0; rfl
      by_cases h1 : f = 1
      · subst h1; rfl
      rw [if_neg (by omega), if_pos (by omega)]
    · simp only [if_true]
      by_cases h0 : f = 0
      · subst h0; rfl
      by_cases h1 : f = 1 ∨ f = 2
      · rw [if_neg h0, if_pos h1, if_neg (by omega), if_pos (by omega)]
      rw [if_neg h0, if_neg h1, if_pos (by omega)]
/-- Steps of the call's own, while they are found. -/
def LegSt (w wr : World) (v : Value) (L : List Wk.Stp) : Prop := Below w.heap.size w wr ∧ wr.ownsRow w.heap.size 34 LStp.m v L.length (LStp.all L)
set_option maxHeartbeats 8000000 in
set_option maxRecDepth 100000 in
theorem pwOuts_any (p : Pl.Plan) (A : Option Addr) (c : Nat) (A' : Option Addr) (c' : Nat) (s f : Int) (w : World) (h : PlanIn w p A A') (_hl : p.secs.length ≤ 24) :
    Calls Try.prog 12 #[planV p A c A' c', .int .i64 s, .int .i64 f] w (StepsYes (Wk.outs p s f) w) := by
  --[
  obtain ⟨i0, hi, hz0, hz1, hz2⟩ := info_parts infoStp
  have R0 := heap_alloc_new w (planO p A c A' c')
  have XX := (Below.refl w.heap.size w).alloc (Nat.le_refl _) (planO p A c A' c')
  have X0 := Lib.hid XX
  obtain ⟨⟨p0, p1, p2, p3, p4, p5⟩, -, gp⟩ := row6 R0
  have EN := Lib.hid (pwEnds_any p A c A' c' s _ (h.below XX))
  have hle := endsAt_le p s
  rw [outs_ends]
  clear R0 XX h
  generalize endsAt p s = q at EN hle
  obtain ⟨x, n⟩ := q
  simp only at hle
  simp only
  by_cases h0 : f < 0
  · have D2 : decide (f < 0) = true := dec_t h0
    rw [if_pos (.inl h0)]
    clear h0
    go_enter Try.func12, Try.ntmps12
    go_wp2_with fail
    refine EN.out.mono ?_; rintro e w1 ⟨rfl, hb1⟩
    have B1 := Lib.hid ((X0.out.trans (hb1.mono X0.out.size)).alloc (X0.out.trans (hb1.mono X0.out.size)).size (wkEO x))
    clear p0 p1 p2 p3 p4 p5 hb1 EN
    go_wp2_with fail
    go_ret
    exact ⟨none, 0, rfl, .inl rfl, B1.out⟩
  have D2 : decide (f < 0) = false := dec_f h0
  by_cases h2 : (n : Int) ≤ f
  · have D3 : decide ((n : Int) ≤ f) = true := dec_t h2
    rw [if_pos (.inr h2)]
    clear h0 h2
    go_enter Try.func12, Try.ntmps12
    go_wp2_with fail
    refine EN.out.mono ?_; rintro e w1 ⟨rfl, hb1⟩
    have B1 := Lib.hid ((X0.out.trans (hb1.mono X0.out.size)).alloc (X0.out.trans (hb1.mono X0.out.size)).size (wkEO x))
    clear p0 p1 p2 p3 p4 p5 hb1 EN
    go_wp2_with fail
    go_ret
    exact ⟨none, 0, rfl, .inl rfl, B1.out⟩
  have D3 : decide ((n : Int) ≤ f) = false := dec_f h2
  rw [if_neg (by omega)]
  by_cases h1 : 0 < f
  · have D4 : decide (0 < f) = true := dec_t h1
    rw [if_pos h1]
    clear h0 h2 h1
    go_enter Try.func12, Try.ntmps12
    go_wp2_with fail
    refine EN.out.mono ?_; rintro e w1 ⟨rfl, hb1⟩
    have B1 := Lib.hid ((X0.out.trans (hb1.mono X0.out.size)).alloc (X0.out.trans (hb1.mono X0.out.size)).size (wkEO x))
    clear p0 p1 p2 p3 p4 p5 hb1 EN
    go_wp2_with fail
    go_ret
    exact ⟨_, _, rfl, row_one (w1.alloc (wkEO x)) ⟨s, f, 0⟩ (by simp), B1.out.alloc B1.out.size _⟩
  · have D4 : decide (0 < f) = false := dec_f h1
    rw [if_neg h1]
    obtain rfl : f = 0 := by omega
    have hn1 : 1 ≤ n := by omega
    clear h0 h2 h1
    go_enter Try.func12, Try.ntmps12
    go_wp2_with fail
    refine EN.out.mono ?_; rintro e w1 ⟨rfl, hb1⟩
    have B1 := Lib.hid ((X0.out.trans (hb1.mono X0.out.size)).alloc (X0.out.trans (hb1.mono X0.out.size)).size (wkEO x))
    clear p0 p1 p2 p3 p4 p5 hb1 EN
    go_wp2_with fail
    go_loopw [9, 10] (fun v i wr => ∃ k : Nat, k + 1 ≤ n ∧ i = .int .i64 ((k + 1 : Nat) : Int) ∧ LegSt w wr v (legsTo s k)) (fun _ i _ => n - (intOf i).toNat)
    case atStart => exact ⟨0, hn1, rfl, B1.out, World.ownsRow_nil _ _ _ _⟩
    case round =>
      clear B1
      obtain ⟨k, hk, rfl, hS⟩ := hrel
      have HS := Lib.hid hS
      have hS1 := hS.1.size
      have hlen := legsTo_len s k
      clear hS
      by_cases hlt : k + 1 < n
      · have d1 : decide (((k + 1 : Nat) : Int) < (n : Int)) = true := dec_t (by omega)
        have HN := Lib.hid (legsTo_succ s k)
        have HX := Lib.hid ((Below.refl wr.heap.size wr).alloc (Nat.le_refl _) (stpO ⟨s, 0, ((k + 1 : Nat) : Int)⟩))
        have NW := Lib.hid (row_one wr ⟨s, 0, ((k + 1 : Nat) : Int)⟩ rfl)
        have OW := Lib.hid (ownsRow_below HS.out.2 HX.out)
        go_wp2_with (at_builtin; refine wpList_append_row LStp _ rfl (.tmp 35) (.tmp 39) 23 rfl w.heap.size 34 i0 _ 24 Try.underlying23 hi hz0 hz1 hz2 rfl _ _ _ rfl OW.out (some ⟨wr.heap.size, 0, none⟩) 1 1 [⟨s, 0, ((k + 1 : Nat) : Int)⟩] rfl (by decide) rfl NW.out (by omega) (by omega) (by simp; omega) ?_; intro g1 cap1 w3 hown1 hg1 hb1)
        have H3 := Lib.hid (show LegSt w w3 (.slice (some ⟨g1, 0, none⟩) (k + 1) cap1) (legsTo s (k + 1)) from by
          refine ⟨(HS.out.1.trans (HX.out.mono HS.out.1.size)).grown hg1 (Nat.le_trans HS.out.1.size HX.out.size) (fun b hb => (OW.out.lt b hb).1), ?_⟩
          rw [hlen] at hown1
          rw [HN.out, LStp.all_append, List.length_append, hlen]
          exact hown1)
        clear hown1 hg1 hb1
        go_wp2_with fail
        go_roundw
        case rel => exact ⟨k + 1, by omega, by go_num, H3.out⟩
        case measure => simp [intOf]; omega
      · have d1 : decide (((k + 1 : Nat) : Int) < (n : Int)) = false := dec_f (by omega)
        obtain rfl : n = k + 1 := by omega
        obtain ⟨-, B, cp, rfl, -, hR⟩ := Lies.Row.of_own HS.out.2
        have HR := Lib.hid hR
        clear hR
        go_wp2_with fail
        go_ret
        exact ⟨B, cp, rfl, HR.out, HS.out.1⟩
  --]
end Go.Proofs.Ytgbeebjbmbikiaa
/-
  The walk of layer 6's examples: they are as the document says.
-/
namespace Go.Proofs.Ytgbeebjbmbikiaa
open Go.RowKit

theorem made_ex : madeP exB.data.toList = some awP := by
  unfold madeP
  rw [ex_built]
  exact if_pos ⟨by decide +kernel, rfl⟩
theorem aw_few : awP.secs.length ≤ 24 := by decide
/-- Steps, made behind a world that stands. -/
def StepsMade (W0 : World) (n : Nat) (L : List Wk.Stp) (W : World) (e : Ending) (w' : World) : Prop := ∃ B d, e = .returned (.slice B n d) ∧ LStp.Row w' B L ∧ Below W.heap.size W w' ∧ Below W0.heap.size W0 w' ∧ W.heap.size ≤ w'.heap.size
theorem StepsMade.of {W0 W : World} {n : Nat} {L M : List Wk.Stp} {f : FuncId} {xs : Array Value} (h : Below W0.heap.size W0 W) (hL : M = L) (hn : L.length = n) (hc : Calls Try.prog f xs W (StepsYes M W)) : Calls Try.prog f xs W (StepsMade W0 n L W) :=
  hc.mono fun e w' ⟨B, d, he, hr, hb⟩ => by
    subst hL hn
    exact ⟨B, d, he, hr, hb, h.trans (hb.mono h.size), hb.size⟩
theorem Made.one {W0 W : World} {v u : Value} {f : FuncId} {xs : Array Value} (h : Below W0.heap.size W0 W) (hv : u = v) (hc : Calls Try.prog f xs W (OneIs u W)) : Calls Try.prog f xs W (Made W0 v W) := Made.of h (by subst hv; exact hc)
set_option maxHeartbeats 8000000 in
set_option maxRecDepth 100000 in
theorem wkAwake_any (w : World) : Calls Try.prog 8 #[] w (OneIs (.bool true) w) := by
  have CM := Lib.hid (fun W => made_some made_ex W)
  go_enter Try.func8, Try.ntmps8
  go_wp2_with fail
  refine (CM.out _).mono ?_; rintro e w1 ⟨A, c, A', c', rfl, pin, hb1⟩
  have X1 := (Below.refl w1.heap.size w1).alloc (Nat.le_refl _) (planO awP A c A' c')
  have B5 := Lib.hid (hb1.trans (X1.mono hb1.size))
  have I5 := Lib.hid (pin.below X1)
  have RP := Lib.hid (heap_alloc_new w1 (planO awP A c A' c'))
  have gx := (Array.getElem?_eq_some_iff.1 RP.out).1
  generalize hw5 : w1.alloc (planO awP A c A' c') = w5 at B5 I5 RP gx
  have KP := Lib.hid (fun W (hW : Below w5.heap.size w5 W) => show W.cell? ⟨w1.heap.size, 0, none⟩ = some (.int .i64 awP.ov) ∧ W.cell? ⟨w1.heap.size, 1, none⟩ = some (.int .i64 awP.ap) ∧ W.cell? ⟨w1.heap.size, 2, none⟩ = some (.int .i64 awP.se) ∧ W.cell? ⟨w1.heap.size, 3, none⟩ = some (.int .i64 awP.ho) ∧ W.cell? ⟨w1.heap.size, 4, none⟩ = some (.slice A awP.secs.length c) ∧ W.cell? ⟨w1.heap.size, 5, none⟩ = some (.slice A' awP.sigs.length c') from (row6 ((hW.block _ gx).trans RP.out)).1)
  have T0 := Lib.hid (Below.refl w5.heap.size w5)
  obtain ⟨p0, p1, p2, p3, p4, p5⟩ := KP.out _ T0.out
  have C1 := Lib.hid (StepsMade.of (n := 2) (L := [⟨0, 0, 1⟩, ⟨0, 0, 2⟩]) T0.out (by decide) rfl (pwOuts_any awP A c A' c' 0 0 w5 I5.out aw_few))
  have C2 := Lib.hid (fun W (hW : Below w5.heap.size w5 W) => (show Calls Try.prog 9 #[planV awP A c A' c', .int .i64 3, .int .i64 1] W (NextIs (0, 0, true) W) from pwNext_any awP A c A' c' 3 1 W (I5.out.below hW) aw_few))
  have C3 := Lib.hid (fun W (hW : Below w5.heap.size w5 W) => (show Calls Try.prog 9 #[planV awP A c A' c', .int .i64 3, .int .i64 0] W (NextIs (0, 0, false) W) from pwNext_any awP A c A' c' 3 0 W (I5.out.below hW) aw_few))
  subst hw5
  clear hb1 X1 pin CM
  go_wp2_with fail
  generalize w1.alloc (planO awP A c A' c') = w5 at B5 I5 KP T0 C1 C2 C3 p0 p1 p2 p3 p4 p5 gx RP
  refine C1.out.mono ?_; rintro e v1 ⟨B, d, rfl, hr, -, hb, -⟩
  have T1 := Lib.hid hb
  have RW := Lib.hid hr
  clear p0 p1 p2 p3 p4 p5 hb hr
  obtain ⟨p0, p1, p2, p3, p4, p5⟩ := KP.out _ T1.out
  go_wp2_with fail
  refine (C2.out _ T1.out).mono ?_; rintro e v2 ⟨rfl, hb⟩
  have T2 := Lib.hid (T1.out.trans (hb.mono T1.out.size))
  have RW2 := Lib.hid (RW.out.below rfl hb)
  clear p0 p1 p2 p3 p4 p5 hb
  obtain ⟨p0, p1, p2, p3, p4, p5⟩ := KP.out _ T2.out
  go_wp2_with fail
  refine (C3.out _ T2.out).mono ?_; rintro e v3 ⟨rfl, hb⟩
  have T3 := Lib.hid (T2.out.trans (hb.mono T2.out.size))
  have RW3 := Lib.hid (RW2.out.below rfl hb)
  clear p0 p1 p2 p3 p4 p5 hb
  obtain ⟨b, o, rfl, gb, on⟩ := RW3.out.at (k := 1) (by decide)
  have on' := stp_on on
  rw [show o + 1 * LStp.m = o + 3 from rfl] at on'
  have KS := Lib.hid (fun W (hW : Below v3.heap.size v3 W) => show (W.cell? ⟨w1.heap.size, 0, none⟩ = some (.int .i64 awP.ov) ∧ W.cell? ⟨w1.heap.size, 1, none⟩ = some (.int .i64 awP.ap) ∧ W.cell? ⟨w1.heap.size, 2, none⟩ = some (.int .i64 awP.se) ∧ W.cell? ⟨w1.heap.size, 3, none⟩ = some (.int .i64 awP.ho) ∧ W.cell? ⟨w1.heap.size, 4, none⟩ = some (.slice A awP.secs.length c) ∧ W.cell? ⟨w1.heap.size, 5, none⟩ = some (.slice A' awP.sigs.length c')) ∧ W.cell? ⟨b, o + 3, none⟩ = some (.int .i64 0) ∧ W.cell? ⟨b, o + 3 + 1, none⟩ = some (.int .i64 0) ∧ W.cell? ⟨b, o + 3 + 2, none⟩ = some (.int .i64 2) from
    ⟨KP.out _ (T3.out.trans (hW.mono T3.out.size)), (hW.cell (p := ⟨b, o + 3, none⟩) gb).trans on'.1, (hW.cell (p := ⟨b, o + 3 + 1, none⟩) gb).trans on'.2.1, (hW.cell (p := ⟨b, o + 3 + 2, none⟩) gb).trans on'.2.2⟩)
  have TW := Lib.hid (fun W (hW : Below v3.heap.size v3 W) => T3.out.trans (hW.mono T3.out.size))
  have G1 := Lib.hid (fun W hW => Made.one (W0 := v3) hW (v := .int .i64 0) rfl (pwSignal_any awP A c A' c' 3 1 W (I5.out.below (TW.out W hW)) aw_few))
  have G2 := Lib.hid (fun W hW => Made.one (W0 := v3) hW (v := .int .i64 (-1)) rfl (pwSignal_any awP A c A' c' 3 0 W (I5.out.below (TW.out W hW)) aw_few))
  have G3 := Lib.hid (fun W hW => Made.one (W0 := v3) hW (v := .int .i64 (-1)) rfl (pwSignal_any awP A c A' c' 9 0 W (I5.out.below (TW.out W hW)) aw_few))
  have G4 := Lib.hid (fun W hW => Made.one (W0 := v3) hW (v := .int .i64 2) rfl (pwPosition_any awP A c A' c' ⟨0, 0, 2⟩ W (I5.out.below (TW.out W hW)) aw_few))
  have G5 := Lib.hid (fun W hW => Made.one (W0 := v3) hW (v := .int .i64 0) rfl (pwPosition_any awP A c A' c' ⟨3, 0, 1⟩ W (I5.out.below (TW.out W hW)) aw_few))
  have G6 := Lib.hid (fun W hW => StepsMade.of (W0 := v3) (n := 0) (L := []) hW (by decide) rfl (pwOuts_any awP A c A' c' 3 2 W (I5.out.below (TW.out W hW)) aw_few))
  have G7 := Lib.hid (fun W hW => show Calls Try.prog 18 #[.slice (some ⟨b, o, none⟩) 2 d, .int .i64 0] W (Made v3 (.bool true) W) from Made.one (W0 := v3) hW (v := .bool true) rfl (pwWithin_any (some ⟨b, o, none⟩) d [⟨0, 0, 1⟩, ⟨0, 0, 2⟩] 0 W (RW3.out.below rfl hW) (by decide)))
  have G8 := Lib.hid (fun W hW => show Calls Try.prog 18 #[.slice (some ⟨b, o, none⟩) 2 d, .int .i64 1] W (Made v3 (.bool false) W) from Made.one (W0 := v3) hW (v := .bool false) rfl (pwWithin_any (some ⟨b, o, none⟩) d [⟨0, 0, 1⟩, ⟨0, 0, 2⟩] 1 W (RW3.out.below rfl hW) (by decide)))
  have W0 := Lib.hid (Below.refl v3.heap.size v3)
  have EQ : ∀ W, Sem.run Try.prog (binOp .eql 34 (.agg #[.int .i64 0, .int .i64 0, .int .i64 2]) (.agg #[.int .i64 0, .int .i64 0, .int .i64 2])) W = .ok (.bool true) W := fun W => bin_stps W ⟨0, 0, 2⟩ ⟨0, 0, 2⟩
  clear on on' gb
  go_wp2_with fail
  dsimp only [List.append]
  go_region_held3 (fun W => (W.cell? ⟨w1.heap.size, 0, none⟩ = some (.int .i64 awP.ov) ∧ W.cell? ⟨w1.heap.size, 1, none⟩ = some (.int .i64 awP.ap) ∧ W.cell? ⟨w1.heap.size, 2, none⟩ = some (.int .i64 awP.se) ∧ W.cell? ⟨w1.heap.size, 3, none⟩ = some (.int .i64 awP.ho) ∧ W.cell? ⟨w1.heap.size, 4, none⟩ = some (.slice A awP.secs.length c) ∧ W.cell? ⟨w1.heap.size, 5, none⟩ = some (.slice A' awP.sigs.length c')) ∧ W.cell? ⟨b, o + 3, none⟩ = some (.int .i64 0) ∧ W.cell? ⟨b, o + 3 + 1, none⟩ = some (.int .i64 0) ∧ W.cell? ⟨b, o + 3 + 2, none⟩ = some (.int .i64 2))
    (first | with_reducible exact KS.out _ W0.out.drew | with_reducible exact KS.out _ hacc)
    (first
      | (go_at_call 14; (with_reducible refine (G1.out _ W0.out.drew).mono ?_); rintro e w' ⟨rfl, hbl, hacc, hz⟩)
      | (go_at_call 14; (with_reducible refine (G2.out _ hacc).mono ?_); rintro e w' ⟨rfl, hbl, hacc, hz⟩)
      | (go_at_call 14; (with_reducible refine (G3.out _ hacc).mono ?_); rintro e w' ⟨rfl, hbl, hacc, hz⟩)
      | (go_at_call 16; (with_reducible refine (G4.out _ hacc).mono ?_); rintro e w' ⟨rfl, hbl, hacc, hz⟩)
      | (go_at_call 16; (with_reducible refine (G5.out _ hacc).mono ?_); rintro e w' ⟨rfl, hbl, hacc, hz⟩)
      | (go_at_call 12; (with_reducible refine (G6.out _ hacc).mono ?_); rintro e w' ⟨B2, d2, rfl, -, hbl, hacc, hz⟩)
      | (go_at_call 18; (with_reducible refine (G7.out _ hacc).mono ?_); rintro e w' ⟨rfl, hbl, hacc, hz⟩)
      | (go_at_call 18; (with_reducible refine (G8.out _ hacc).mono ?_); rintro e w' ⟨rfl, hbl, hacc, hz⟩))
  all_goals go_wp2_with fail
  all_goals go_ret
  all_goals exact ⟨rfl, B5.out.trans ((TW.out _ hacc).mono B5.out.size)⟩
end Go.Proofs.Ytgbeebjbmbikiaa
/-
  == and != of arrays of numbers.
-/
namespace Go.Proofs.Ytgbeebjbmbikiaa
open Go.RowKit

abbrev atO (a b c : Int) : Obj := .cells #[.int .i64 a, .int .i64 b, .int .i64 c] 22
theorem cint : Try.prog.cellsOf 3 = 1 := by kernel_rfl
theorem eq_int_in (W : World) (d : Nat) (a b : Int) : Sem.run Try.prog (Op.equalIn (d + 1) 3 (.int .i64 a) (.int .i64 b)) W = .ok (a == b) W := by
  cases h : a == b <;> go_simp
theorem part_int {vs : Array Value} {k : Nat} {v : Value} (h : vs[k]? = some v) (W : World) : Sem.run Try.prog (part 3 vs k) W = .ok v W := by
  simp only [part, isAgg, go_sem]
  rw [h]
  simp [go_sem]
theorem part_i30 (W : World) (a b c : Value) : Sem.run Try.prog (part 3 #[a, b, c] 0) W = .ok a W := part_int rfl W
theorem part_i31 (W : World) (a b c : Value) : Sem.run Try.prog (part 3 #[a, b, c] 1) W = .ok b W := part_int rfl W
theorem part_i32 (W : World) (a b c : Value) : Sem.run Try.prog (part 3 #[a, b, c] 2) W = .ok c W := part_int rfl W
theorem part_i20 (W : World) (a b : Value) : Sem.run Try.prog (part 3 #[a, b] 0) W = .ok a W := part_int rfl W
theorem part_i21 (W : World) (a b : Value) : Sem.run Try.prog (part 3 #[a, b] 1) W = .ok b W := part_int rfl W
theorem eq_arr3 (W : World) (d : Nat) (a b c a' b' c' : Int) : Sem.run Try.prog (Op.equalIn (d + 2) 22 (.agg #[.int .i64 a, .int .i64 b, .int .i64 c]) (.agg #[.int .i64 a', .int .i64 b', .int .i64 c'])) W = .ok (a == a' && (b == b' && c == c')) W := by
  obtain ⟨inf, hi⟩ := info_of_underlying (P := Try.prog) Try.underlying3
  rw [run_equalIn_array W (d + 1) _ _ Try.underlying22 hi, cint]
  have T1 := eq_int_in W d a a'
  have T2 := eq_int_in W d b b'
  have T3 := eq_int_in W d c c'
  generalize (a == a') = p at T1 ⊢
  generalize (b == b') = q at T2 ⊢
  generalize (c == c') = r at T3 ⊢
  cases p <;> cases q <;> cases r <;> simp [Op.eqItems, List.range, List.range.loop, part_i30, part_i31, part_i32, T1, T2, T3]
theorem ne_arr3 (W : World) (a b c a' b' c' : Int) : Sem.run Try.prog (binOp .neq 22 (.agg #[.int .i64 a, .int .i64 b, .int .i64 c]) (.agg #[.int .i64 a', .int .i64 b', .int .i64 c'])) W = .ok (.bool (!(a == a' && (b == b' && c == c')))) W := by
  rw [run_neq_struct, show (10000 : Nat) = 9998 + 2 from rfl, eq_arr3]; rfl
theorem eq_arr2 (W : World) (d : Nat) (a b a' b' : Int) : Sem.run Try.prog (Op.equalIn (d + 2) 48 (.agg #[.int .i64 a, .int .i64 b]) (.agg #[.int .i64 a', .int .i64 b'])) W = .ok (a == a' && b == b') W := by
  obtain ⟨inf, hi⟩ := info_of_underlying (P := Try.prog) Try.underlying3
  rw [run_equalIn_array W (d + 1) _ _ Try.underlying48 hi, cint]
  have T1 := eq_int_in W d a a'
  have T2 := eq_int_in W d b b'
  generalize (a == a') = p at T1 ⊢
  generalize (b == b') = q at T2 ⊢
  cases p <;> cases q <;> simp [Op.eqItems, List.range, List.range.loop, part_i20, part_i21, T1, T2]
theorem bin_arr2 (W : World) (a b a' b' : Int) : Sem.run Try.prog (binOp .eql 48 (.agg #[.int .i64 a, .int .i64 b]) (.agg #[.int .i64 a', .int .i64 b'])) W = .ok (.bool (a == a' && b == b')) W := by
  rw [run_eql_struct, show (10000 : Nat) = 9998 + 2 from rfl, eq_arr2]; rfl
end Go.Proofs.Ytgbeebjbmbikiaa
/-
  A law's arguments opened: three numbers in an array; a slice of steps.
-/
namespace Go.Proofs.Ytgbeebjbmbikiaa
open Go.ChangeShapes Go.WideShapes Go.ChangeAt Go.RowKit

theorem okWide_array {P : Program} {w : World} {r : Reach} {base : Nat} {t : TypeId} {v : Value} {n : Nat} {e : TypeId} (ht : P.underlying t = some (.array n e)) (h : Value.okWide P w r base t v) : ∃ cs, v = .agg cs ∧ cs.size = P.cellsOf t := by
  simp only [Value.okWide, ht] at h
  obtain ⟨cs, h1, h2, _⟩ := h
  exact ⟨cs, h1, h2⟩
theorem cstp : Try.prog.cellsOf 34 = 3 := by kernel_rfl
set_option maxRecDepth 100000 in
/-- Cells that read as a step. -/
theorem trod_stp {H : Type} {enc : TypeId × Value → H} {w : World} {base : Nat} {sp : Nat → Bool} {held : Bool} {fuel : Nat} {cs : List Value} {x : DataW H × List MemPlace}
    (hf : DataW.trod enc Try.prog w base sp held fuel 34 cs = some x) : ∃ a b c : Int, cs = [.int .i64 a, .int .i64 b, .int .i64 c] := by
  obtain ⟨xs, n, _, _, hl, hlen, hg⟩ := DataW.trod_struct Try.underlying34 hf
  rw [cstp] at hl
  match cs, hl with
  | [c0, c1, c2], _ =>
    match xs, hlen with
    | [y0, y1, y2], _ =>
      have h0 := hg 0 _ rfl
      have h1 := hg 1 _ rfl
      have h2 := hg 2 _ rfl
      simp [cint] at h0 h1 h2
      obtain ⟨k, hk, _, _⟩ := DataW.trod_int Try.underlying3 h0
      obtain ⟨m, hm, _, _⟩ := DataW.trod_int Try.underlying3 h1
      obtain ⟨n, hn, _, _⟩ := DataW.trod_int Try.underlying3 h2
      simp only [List.cons.injEq, and_true] at hk hm hn
      subst hk hm hn
      exact ⟨k, m, n, rfl⟩
set_option maxRecDepth 100000 in
theorem open_arr3 {H : Type} {enc : TypeId × Value → H} {w : World} {base b0 : Nat} {r : Reach} {sp : Nat → Bool} {held : Bool} {v : Value} {d : DataW H} {p : List MemPlace}
    (hval : Value.okWide Try.prog w r b0 22 v) (hd : DataW.Trod enc Try.prog w base sp held 22 v d p) : ∃ a b c : Int, v = .agg #[.int .i64 a, .int .i64 b, .int .i64 c] := by
  obtain ⟨cs, rfl, _⟩ := okWide_array Try.underlying22 hval
  obtain ⟨fuel, hf⟩ := hd
  obtain ⟨xs, f, _, _, hl, hlen, hi⟩ := DataW.trod_array Try.underlying22 hf
  obtain ⟨l⟩ := cs
  rw [show Try.prog.cellsOf 22 = 3 by kernel_rfl] at hl
  match l, hl with
  | [c0, c1, c2], _ =>
    match xs, hlen with
    | [y0, y1, y2], _ =>
      have h0 := hi 0 (by omega)
      have h1 := hi 1 (by omega)
      have h2 := hi 2 (by omega)
      simp [cint, Value.cells] at h0 h1 h2
      obtain ⟨k, hk, _, _⟩ := DataW.trod_int Try.underlying3 h0
      obtain ⟨m, hm, _, _⟩ := DataW.trod_int Try.underlying3 h1
      obtain ⟨n, hn, _, _⟩ := DataW.trod_int Try.underlying3 h2
      simp only [List.cons.injEq, and_true] at hk hm hn
      subst hk hm hn
      exact ⟨k, m, n, rfl⟩
theorem pick_steps {w : World} {b o : Nat} : ∀ (n : Nat), (∀ i, i < n → ∃ y, LStp.On w b (o + i * 3) y) → ∃ L : List Wk.Stp, L.length = n ∧ ∀ k y, L[k]? = some y → LStp.On w b (o + k * 3) y
  | 0, _ => ⟨[], rfl, fun k y h => by simp at h⟩
  | n + 1, h => by
    obtain ⟨L, hl, h1⟩ := pick_steps n fun i hi => h i (by omega)
    obtain ⟨y, hy⟩ := h n (by omega)
    refine ⟨L ++ [y], by simp [hl], fun k z hz => ?_⟩
    rcases Nat.lt_or_ge k L.length with hk | hk
    · rw [List.getElem?_append_left hk] at hz; exact h1 k z hz
    · rw [List.getElem?_append_right hk] at hz
      have hk0 : k = n := by
        have := (List.getElem?_eq_some_iff.1 hz).1
        simp at this; omega
      subst hk0
      rw [hl, Nat.sub_self] at hz
      obtain rfl : y = z := by simpa using hz
      exact hy
set_option maxRecDepth 100000 in
theorem step_cells {H : Type} {enc : TypeId × Value → H} {w : World} {base : Nat} {sp : Nat → Bool} {held : Bool} {fuel : Nat} {b o : Nat} {cs : List Value} {x : DataW H × List MemPlace}
    (hc : w.cells? base ⟨b, o, none⟩ 3 = some cs) (hf : DataW.trod enc Try.prog w base sp held fuel 34 cs = some x) : ∃ y, LStp.On w b o y := by
  obtain ⟨a, f, t, rfl⟩ := trod_stp hf
  refine ⟨⟨a, f, t⟩, fun j v hv => ?_⟩
  have hj : j < 3 := by
    have := (List.getElem?_eq_some_iff.1 hv).1
    rwa [LStp.len] at this
  obtain ⟨_, _, hg⟩ := World.cells?_some hc
  have := hg j hj
  rw [Go.WideShapes.add_plain] at this
  rw [this]
  exact hv
set_option maxRecDepth 100000 in
theorem open_steps {H : Type} {enc : TypeId × Value → H} {w : World} {base b0 : Nat} {r : Reach} {sp : Nat → Bool} {held : Bool} {v : Value} {d : DataW H} {p : List MemPlace}
    (hval : Value.okWide Try.prog w r b0 23 v) (hd : DataW.Trod enc Try.prog w base sp held 23 v d p) :
    ∃ A c n L, v = .slice A n c ∧ L.length = n ∧ LStp.Row w A L ∧ n ≤ c ∧ n ≤ maxLen := by
  obtain ⟨a0, n0, c0, rfl⟩ := okWide_slice Try.underlying23 hval
  obtain ⟨fuel, hf⟩ := hd
  rcases Go.Deep.open_slice Try.underlying23 hf with ⟨h, _⟩ | ⟨a, len, cap, m, f, D, Pl, h, hb, hl, hm, hmm, _, hx⟩
  · simp [Value.cells] at h
    obtain ⟨rfl, rfl, rfl⟩ := h
    exact ⟨none, 0, 0, [], rfl, rfl, .inl rfl, Nat.le_refl _, Nat.zero_le _⟩
  · simp [Value.cells] at h
    obtain ⟨rfl, rfl, rfl⟩ := h
    have hlm : n0 ≤ m := by rw [hmm]; split <;> omega
    by_cases h0 : n0 = 0
    · subst h0
      exact ⟨some a, c0, 0, [], rfl, rfl, .inl rfl, hl, Nat.zero_le _⟩
    rw [cstp] at hx
    obtain ⟨b, o, sp'⟩ := a
    have hsp : sp' = none := by
      obtain ⟨cs, hc, _⟩ := hx 0 (by omega)
      obtain ⟨_, hlen, hg⟩ := World.cells?_some hc
      have := hg 0 (by omega)
      rw [List.getElem?_eq_getElem (by omega)] at this
      have := World.cell?_spot this
      simpa [Addr.add] using this
    subst hsp
    obtain ⟨L, hL, h1⟩ := pick_steps (w := w) (b := b) (o := o) n0 fun i hi => by
      obtain ⟨cs, hc, ht⟩ := hx i (by omega)
      rw [Go.WideShapes.add_plain] at hc
      exact step_cells hc ht
    refine ⟨some ⟨b, o, none⟩, c0, n0, L, rfl, hL, .inr ⟨b, o, rfl, ?_, h1⟩, hl, by omega⟩
    have h7 := h1 0 _ (List.getElem?_eq_getElem (by omega)) 0 _ rfl
    exact World.block_lt_of_cell? _ _ h7
end Go.Proofs.Ytgbeebjbmbikiaa
