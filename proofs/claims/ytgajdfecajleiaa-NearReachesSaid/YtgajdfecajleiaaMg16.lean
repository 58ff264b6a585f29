/-
  Texts of this claim, merged: WkPrA, WkProg, CrSpec, CrFacts, CrWays.
-/
import Derived.Test.YtgajdfecajleiaaMg13
import Derived.Test.YtgajdfecajleiaaMg15
import Derived.BigQuiet
import Derived.Deep.LoopGhost
import Derived.Shelf.Abstract
/-
  The walks of the program's layer 6: a section's ends, and one of them.
-/
namespace Go.Proofs.Ytgajdfecajleiaa
open Go.RowKit

/-- A section's ends, and how many there are of them. -/
def endsAt (p : Pl.Plan) (s : Int) : Pl.Sec × Nat :=
  match Wk.secAt p s with
  | none => (⟨[], false, 0, ⟨0, 0, 0⟩, ⟨0, 0, 0⟩, ⟨0, 0, 0⟩⟩, 0)
  | some x => (x, if x.pt then 3 else 2)
theorem endsAt_le (p : Pl.Plan) (s : Int) : (endsAt p s).2 ≤ 3 := by
  unfold endsAt
  split
  · exact Nat.zero_le _
  · split
    · exact Nat.le_refl _
    · exact Nat.le_succ _
theorem endOf_ends (p : Pl.Plan) (s e : Int) : Wk.endOf p s e = if 0 ≤ e ∧ e < ((endsAt p s).2 : Int) then some ((endsAt p s).1.get e.toNat) else none := by
  unfold Wk.endOf endsAt
  cases Wk.secAt p s with
  | none =>
    simp only
    rw [if_neg (by omega)]
  | some x =>
    simp only
    unfold Wk.isEnd
    cases x.pt
    · simp only [Bool.or_false, Bool.and_eq_true, decide_eq_true_eq, Bool.false_eq_true, if_false]
      by_cases h : 0 ≤ e ∧ e ≤ 2 ∧ e ≠ 2
      · rw [if_pos h, if_pos (by omega)]
      · rw [if_neg h, if_neg (by omega)]
    · simp only [Bool.or_true, Bool.and_true, Bool.and_eq_true, decide_eq_true_eq, if_true]
      by_cases h : 0 ≤ e ∧ e ≤ 2
      · rw [if_pos h, if_pos (by omega)]
      · rw [if_neg h, if_neg (by omega)]
abbrev wkEV (x : Pl.Sec) : Value := .agg #[.int .i64 x.e0.goes, .int .i64 x.e0.at_, .int .i64 x.e0.sig, .int .i64 x.e1.goes, .int .i64 x.e1.at_, .int .i64 x.e1.sig, .int .i64 x.e2.goes, .int .i64 x.e2.at_, .int .i64 x.e2.sig]
abbrev wkEO (x : Pl.Sec) : Obj := .cells #[.int .i64 x.e0.goes, .int .i64 x.e0.at_, .int .i64 x.e0.sig, .int .i64 x.e1.goes, .int .i64 x.e1.at_, .int .i64 x.e1.sig, .int .i64 x.e2.goes, .int .i64 x.e2.at_, .int .i64 x.e2.sig] 37
abbrev wkEZ : Obj := .cells #[.int .i64 0, .int .i64 0, .int .i64 0, .int .i64 0, .int .i64 0, .int .i64 0, .int .i64 0, .int .i64 0, .int .i64 0] 37
abbrev wkSO (x : Pl.Sec) : Obj := .cells #[.string (txt x.name), .bool x.pt, .int .i64 x.len, .int .i64 x.e0.goes, .int .i64 x.e0.at_, .int .i64 x.e0.sig, .int .i64 x.e1.goes, .int .i64 x.e1.at_, .int .i64 x.e1.sig, .int .i64 x.e2.goes, .int .i64 x.e2.at_, .int .i64 x.e2.sig] 39
/-- A section's ends that a call leaves. -/
def EndsAre (x : Pl.Sec × Nat) (w : World) (e : Ending) (w' : World) : Prop := e = .returned (.tuple #[wkEV x.1, .int .i64 x.2]) ∧ Below w.heap.size w w'
theorem three_new (w : World) (a b c : Obj) : (((w.alloc a).alloc b).alloc c).heap[w.heap.size]? = some a ∧ (((w.alloc a).alloc b).alloc c).heap[w.heap.size + 1]? = some b ∧ (((w.alloc a).alloc b).alloc c).heap[w.heap.size + 2]? = some c ∧ Below w.heap.size w (((w.alloc a).alloc b).alloc c) := by
  have s1 : (w.alloc a).heap.size = w.heap.size + 1 := by simp
  have s2 : ((w.alloc a).alloc b).heap.size = w.heap.size + 2 := by simp
  refine ⟨?_, ?_, ?_, (((Below.refl _ _).alloc (Nat.le_refl _) _).alloc (by omega) _).alloc (by omega) _⟩
  · rw [heap_alloc_old _ _ (by omega), heap_alloc_old _ _ (by omega)]; exact heap_alloc_new _ _
  · rw [heap_alloc_old _ _ (by omega), ← s1]; exact heap_alloc_new _ _
  · rw [← s2]; exact heap_alloc_new _ _
theorem row9 {w : World} {g : Nat} {a b c d e f i j k : Value} {t : TypeId} (h : w.heap[g]? = some (.cells #[a, b, c, d, e, f, i, j, k] t (0, 0))) :
    (w.cell? ⟨g, 0, none⟩ = some a ∧ w.cell? ⟨g, 1, none⟩ = some b ∧ w.cell? ⟨g, 2, none⟩ = some c ∧ w.cell? ⟨g, 3, none⟩ = some d ∧ w.cell? ⟨g, 4, none⟩ = some e ∧ w.cell? ⟨g, 5, none⟩ = some f ∧ w.cell? ⟨g, 6, none⟩ = some i ∧ w.cell? ⟨g, 7, none⟩ = some j ∧ w.cell? ⟨g, 8, none⟩ = some k) ∧
    (w.frozen? ⟨g, 0, none⟩ = false ∧ w.frozen? ⟨g, 1, none⟩ = false ∧ w.frozen? ⟨g, 2, none⟩ = false ∧ w.frozen? ⟨g, 3, none⟩ = false ∧ w.frozen? ⟨g, 4, none⟩ = false ∧ w.frozen? ⟨g, 5, none⟩ = false ∧ w.frozen? ⟨g, 6, none⟩ = false ∧ w.frozen? ⟨g, 7, none⟩ = false ∧ w.frozen? ⟨g, 8, none⟩ = false) ∧ g < w.heap.size :=
  ⟨⟨cell_of_row w g 0 _ t _ h, cell_of_row w g 1 _ t _ h, cell_of_row w g 2 _ t _ h, cell_of_row w g 3 _ t _ h, cell_of_row w g 4 _ t _ h, cell_of_row w g 5 _ t _ h, cell_of_row w g 6 _ t _ h, cell_of_row w g 7 _ t _ h, cell_of_row w g 8 _ t _ h⟩,
    ⟨frozen_of_row w g 0 _ t h, frozen_of_row w g 1 _ t h, frozen_of_row w g 2 _ t h, frozen_of_row w g 3 _ t h, frozen_of_row w g 4 _ t h, frozen_of_row w g 5 _ t h, frozen_of_row w g 6 _ t h, frozen_of_row w g 7 _ t h, frozen_of_row w g 8 _ t h⟩, (Array.getElem?_eq_some_iff.1 h).1⟩
/-- The cells of a section that lies whole. -/
theorem row_sec {w : World} {g : Nat} {x : Pl.Sec} (h : w.heap[g]? = some (wkSO x)) :
    w.cell? ⟨g, 1, none⟩ = some (.bool x.pt) ∧ w.cell? ⟨g, 3, none⟩ = some (.int .i64 x.e0.goes) ∧ w.cell? ⟨g, 4, none⟩ = some (.int .i64 x.e0.at_) ∧ w.cell? ⟨g, 5, none⟩ = some (.int .i64 x.e0.sig) ∧ w.cell? ⟨g, 6, none⟩ = some (.int .i64 x.e1.goes) ∧ w.cell? ⟨g, 7, none⟩ = some (.int .i64 x.e1.at_) ∧
      w.cell? ⟨g, 8, none⟩ = some (.int .i64 x.e1.sig) ∧ w.cell? ⟨g, 9, none⟩ = some (.int .i64 x.e2.goes) ∧ w.cell? ⟨g, 10, none⟩ = some (.int .i64 x.e2.at_) ∧ w.cell? ⟨g, 11, none⟩ = some (.int .i64 x.e2.sig) ∧ g < w.heap.size :=
  ⟨cell_of_row w g 1 _ _ _ h, cell_of_row w g 3 _ _ _ h, cell_of_row w g 4 _ _ _ h, cell_of_row w g 5 _ _ _ h, cell_of_row w g 6 _ _ _ h, cell_of_row w g 7 _ _ _ h, cell_of_row w g 8 _ _ _ h, cell_of_row w g 9 _ _ _ h, cell_of_row w g 10 _ _ _ h, cell_of_row w g 11 _ _ _ h, (Array.getElem?_eq_some_iff.1 h).1⟩
set_option maxHeartbeats 8000000 in
set_option maxRecDepth 100000 in
theorem pwEnds_any (p : Pl.Plan) (A : Option Addr) (c : Nat) (A' : Option Addr) (c' : Nat) (s : Int) (w : World) (h : PlanIn w p A A') :
    Calls Try.prog 57 #[planV p A c A' c', .int .i64 s] w (EndsAre (endsAt p s) w) := by
  --[
  obtain ⟨R0, R1, XX, XS⟩ := two_blocks w (planO p A c A' c') wkEZ
  have X0 := Lib.hid XX
  obtain ⟨⟨-, -, -, -, p4, -⟩, -, gp⟩ := row6 R0
  obtain ⟨⟨z0, z1, z2, z3, z4, z5, z6, z7, z8⟩, ⟨f0, f1, f2, f3, f4, f5, f6, f7, f8⟩, gz⟩ := row9 R1
  have HI := Lib.hid (h.below XX)
  clear R0 R1 XX h
  rcases Wk.sec_ways p s with ⟨hs, hn⟩ | ⟨k, rfl, ⟨hk, hn⟩ | ⟨x, hx, hn⟩⟩
  · have D : decide (s < 0) = true := dec_t hs
    have E : endsAt p s = (⟨[], false, 0, ⟨0, 0, 0⟩, ⟨0, 0, 0⟩, ⟨0, 0, 0⟩⟩, 0) := by unfold endsAt; rw [hn]
    rw [E]
    clear hs hn E
    go_enter Try.func57, Try.ntmps57
    go_wp2_with fail
    refine bodyPost_ret ?_ rfl ⟨rfl, ?_⟩
    · simp [results, Try.results57, go_sem, *]
    · (repeat (with_reducible refine Below.setCell ?_ (by exact Nat.le_succ _) _)); exact X0.out
  · have D0 : decide ((k : Int) < 0) = false := dec_f (by omega)
    have D1 : decide ((p.secs.length : Int) ≤ (k : Int)) = true := dec_t (by omega)
    have E : endsAt p k = (⟨[], false, 0, ⟨0, 0, 0⟩, ⟨0, 0, 0⟩, ⟨0, 0, 0⟩⟩, 0) := by unfold endsAt; rw [hn]
    rw [E]
    clear hn E
    go_enter Try.func57, Try.ntmps57
    go_wp2_with fail
    refine bodyPost_ret ?_ rfl ⟨rfl, ?_⟩
    · simp [results, Try.results57, go_sem, *]
    · (repeat (with_reducible refine Below.setCell ?_ (by exact Nat.le_succ _) _)); exact X0.out
  · have hlt : k < p.secs.length := (List.getElem?_eq_some_iff.1 hx).1
    have D0 : decide ((k : Int) < 0) = false := dec_f (by omega)
    have D1 : decide ((p.secs.length : Int) ≤ (k : Int)) = false := dec_f (by omega)
    have N1 : ¬ p.secs.length ≤ k := by omega
    have E : endsAt p k = (x, if x.pt then 3 else 2) := by unfold endsAt; rw [hn]
    rw [E]
    obtain ⟨b, o, rfl, hb, on⟩ := sec_cells HI.out.1 hx
    obtain ⟨a0, a1, a2, a3, a4, a5, a6, a7, a8, a9, a10, a11⟩ := sec_on on
    obtain ⟨-, R1, R2, -⟩ := three_new w (planO p (some ⟨b, o, none⟩) c A' c') wkEZ (wkSO x)
    obtain ⟨⟨y0, y1, y2, y3, y4, y5, y6, y7, y8⟩, ⟨q0, q1, q2, q3, q4, q5, q6, q7, q8⟩, gy⟩ := row9 R1
    obtain ⟨t1, t3, t4, t5, t6, t7, t8, t9, t10, t11, gt⟩ := row_sec R2
    clear hn on hx E R1 R2 X0
    cases hpt : x.pt
    · rw [hpt] at a1 t1
      simp only [Bool.false_eq_true, if_false]
      clear hpt
      go_enter Try.func57, Try.ntmps57
      go_wp2_with fail
      refine bodyPost_ret ?_ rfl ⟨rfl, ?_⟩
      · simp [results, Try.results57, go_sem, *]
      · exact (three_new w _ _ _).2.2.2
    · rw [hpt] at a1 t1
      simp only [if_true]
      clear hpt
      go_enter Try.func57, Try.ntmps57
      go_wp2_with fail
      refine bodyPost_ret ?_ rfl ⟨rfl, ?_⟩
      · simp [results, Try.results57, go_sem, *]
      · exact (three_new w _ _ _).2.2.2
  --]
/-- Ends that lie in a block of their own, by number. -/
theorem ends_at3 {w : World} {g : Nat} {x : Pl.Sec} (h : w.heap[g]? = some (wkEO x)) {e : Nat} (he : e < 3) : w.cell? ⟨g, e * 3, none⟩ = some (.int .i64 (x.get e).goes) ∧ w.cell? ⟨g, e * 3 + 1, none⟩ = some (.int .i64 (x.get e).at_) ∧ w.cell? ⟨g, e * 3 + 2, none⟩ = some (.int .i64 (x.get e).sig) := by
  obtain ⟨⟨a3, a4, a5, a6, a7, a8, a9, a10, a11⟩, -, -⟩ := row9 h
  have : e = 0 ∨ e = 1 ∨ e = 2 := by omega
  rcases this with rfl | rfl | rfl
  · exact ⟨a3, a4, a5⟩
  · exact ⟨a6, a7, a8⟩
  · exact ⟨a9, a10, a11⟩
set_option maxHeartbeats 8000000 in
set_option maxRecDepth 100000 in
theorem pwTip_any (p : Pl.Plan) (A : Option Addr) (c : Nat) (A' : Option Addr) (c' : Nat) (s e : Int) (w : World) (h : PlanIn w p A A') :
    Calls Try.prog 56 #[planV p A c A' c', .int .i64 s, .int .i64 e] w (EndIs (Wk.endOf p s e) w) := by
  --[
  obtain ⟨R0, R1, XX, XS⟩ := two_blocks w (planO p A c A' c') endZ
  have X0 := Lib.hid XX
  obtain ⟨⟨p0, p1, p2, p3, p4, p5⟩, -, gp⟩ := row6 R0
  have HR1 := Lib.hid R1
  have EN := Lib.hid (pwEnds_any p A c A' c' s _ (h.below XX))
  have hle := endsAt_le p s
  rw [endOf_ends]
  clear R0 R1 XX h
  generalize endsAt p s = q at EN hle
  obtain ⟨x, n⟩ := q
  simp only at hle
  have fin2 : ∀ w1, Below ((w.alloc (planO p A c A' c')).alloc endZ).heap.size ((w.alloc (planO p A c A' c')).alloc endZ) w1 → (w1.alloc (wkEO x)).heap[w.heap.size + 1]? = some endZ ∧ (w1.alloc (wkEO x)).heap[w1.heap.size]? = some (wkEO x) ∧ Below w.heap.size w (w1.alloc (wkEO x)) := fun w1 hb => by
    have hsz := hb.size
    refine ⟨?_, heap_alloc_new _ _, (X0.out.trans (hb.mono X0.out.size)).alloc (X0.out.trans (hb.mono X0.out.size)).size _⟩
    rw [heap_alloc_old _ _ (by omega), hb.block _ (by omega)]
    exact HR1.out
  have F2 := Lib.hid fin2
  clear fin2 HR1
  by_cases h0 : e < 0
  · have D2 : decide (e < 0) = true := dec_t h0
    rw [if_neg (by omega)]
    clear h0
    go_enter Try.func56, Try.ntmps56
    go_wp2_with fail
    refine EN.out.mono ?_; rintro e w1 ⟨rfl, hb1⟩
    obtain ⟨R1, R2, B2⟩ := F2.out w1 hb1
    obtain ⟨⟨z0, z1, z2⟩, ⟨f0, f1, f2⟩, gz⟩ := row3 R1
    have H2 := Lib.hid B2
    clear p0 p1 p2 p3 p4 p5 hb1 R1 R2 B2 F2 EN
    go_wp2_with fail
    refine bodyPost_ret ?_ rfl ⟨rfl, ?_⟩
    · simp [results, Try.results56, go_sem, *]
    · (repeat (with_reducible refine Below.setCell ?_ (by exact Nat.le_succ _) _)); exact H2.out
  have D2 : decide (e < 0) = false := dec_f h0
  obtain ⟨j, rfl⟩ : ∃ j : Nat, e = j := ⟨e.toNat, by omega⟩
  by_cases h2 : n ≤ j
  · have D3 : decide ((n : Int) ≤ (j : Int)) = true := dec_t (by omega)
    rw [if_neg (by simp only; omega)]
    clear h0
    go_enter Try.func56, Try.ntmps56
    go_wp2_with fail
    refine EN.out.mono ?_; rintro e w1 ⟨rfl, hb1⟩
    obtain ⟨R1, R2, B2⟩ := F2.out w1 hb1
    obtain ⟨⟨z0, z1, z2⟩, ⟨f0, f1, f2⟩, gz⟩ := row3 R1
    have H2 := Lib.hid B2
    clear p0 p1 p2 p3 p4 p5 hb1 R1 R2 B2 F2 EN
    go_wp2_with fail
    refine bodyPost_ret ?_ rfl ⟨rfl, ?_⟩
    · simp [results, Try.results56, go_sem, *]
    · (repeat (with_reducible refine Below.setCell ?_ (by exact Nat.le_succ _) _)); exact H2.out
  · have D3 : decide ((n : Int) ≤ (j : Int)) = false := dec_f (by omega)
    have N3 : ¬ n ≤ j := h2
    have j3 : (j : Int) < 3 := by omega
    have j3' : j < 3 := by omega
    rw [if_pos (by simp only; omega), Int.toNat_natCast]
    obtain ⟨⟨y0, y1, y2⟩, hy⟩ : ∃ y, y = x.get j := ⟨_, rfl⟩
    have HY := Lib.hid hy.symm
    simp only
    rw [← hy]
    clear h0 h2 hy
    go_enter Try.func56, Try.ntmps56
    go_wp2_with fail
    refine EN.out.mono ?_; rintro e w1 ⟨rfl, hb1⟩
    obtain ⟨R1, R2, B2⟩ := F2.out w1 hb1
    obtain ⟨⟨z0, z1, z2⟩, ⟨f0, f1, f2⟩, gz⟩ := row3 R1
    obtain ⟨k0, k1, k2⟩ := ends_at3 R2 j3'
    have gk := (Array.getElem?_eq_some_iff.1 R2).1
    rw [HY.out] at k0 k1 k2
    simp only at k0 k1 k2
    have H2 := Lib.hid B2
    clear p0 p1 p2 p3 p4 p5 hb1 R1 R2 B2 F2 EN
    go_wp2_with fail
    refine bodyPost_ret ?_ rfl ⟨rfl, ?_⟩
    · simp [results, Try.results56, go_sem, *]
    · (repeat (with_reducible refine Below.setCell ?_ (by exact Nat.le_succ _) _)); exact H2.out
  --]
end Go.Proofs.Ytgajdfecajleiaa
/-
  The walks of the program's layer 6: where an end leads, what stands there, the steps through a section.
-/
namespace Go.Proofs.Ytgajdfecajleiaa
open Go.RowKit

set_option maxHeartbeats 8000000 in
set_option maxRecDepth 100000 in
theorem pwNext_any (p : Pl.Plan) (A : Option Addr) (c : Nat) (A' : Option Addr) (c' : Nat) (s e : Int) (w : World) (h : PlanIn w p A A') (_hl : p.secs.length ≤ 24) :
    Calls Try.prog 44 #[planV p A c A' c', .int .i64 s, .int .i64 e] w (NextIs (Wk.next p s e) w) := by
  --[
  have R0 := heap_alloc_new w (planO p A c A' c')
  have XX := (Below.refl w.heap.size w).alloc (Nat.le_refl _) (planO p A c A' c')
  have X0 := Lib.hid XX
  obtain ⟨⟨p0, p1, p2, p3, p4, p5⟩, -, gp⟩ := row6 R0
  have AT := Lib.hid (pwTip_any p A c A' c' s e _ (h.below XX))
  have E : Wk.next p s e = match Wk.endOf p s e with | none => (0, 0, false) | some x => if x.goes < 0 then (0, 0, false) else (x.goes, x.at_, true) := rfl
  rw [E]
  clear R0 XX h E
  cases hx : Wk.endOf p s e with
  | none =>
    rw [hx] at AT
    clear hx
    go_enter Try.func44, Try.ntmps44
    go_wp2_with fail
    refine AT.out.mono ?_; rintro e w1 ⟨rfl, hb1⟩
    have B1 := Lib.hid ((X0.out.trans (hb1.mono X0.out.size)).alloc (X0.out.trans (hb1.mono X0.out.size)).size endZ)
    clear p0 p1 p2 p3 p4 p5 hb1
    go_wp2_with fail
    refine bodyPost_ret ?_ rfl ⟨rfl, B1.out⟩
    simp [results, Try.results44, go_sem]
  | some y =>
    rw [hx] at AT
    obtain ⟨y0, y1, y2⟩ := y
    by_cases h0 : y0 < 0
    · have D : decide (y0 < 0) = true := dec_t h0
      simp only
      rw [if_pos h0]
      clear hx h0
      go_enter Try.func44, Try.ntmps44
      go_wp2_with fail
      refine AT.out.mono ?_; rintro e w1 ⟨rfl, hb1⟩
      have B1 := Lib.hid ((X0.out.trans (hb1.mono X0.out.size)).alloc (X0.out.trans (hb1.mono X0.out.size)).size (.cells #[.int .i64 y0, .int .i64 y1, .int .i64 y2] 36))
      obtain ⟨⟨k0, k1, k2⟩, -, -⟩ := row3 (heap_alloc_new w1 (.cells #[.int .i64 y0, .int .i64 y1, .int .i64 y2] 36))
      clear p0 p1 p2 p3 p4 p5 hb1
      go_wp2_with fail
      refine bodyPost_ret ?_ rfl ⟨rfl, B1.out⟩
      simp [results, Try.results44, go_sem]
    · have D : decide (y0 < 0) = false := dec_f h0
      simp only
      rw [if_neg h0]
      clear hx h0
      go_enter Try.func44, Try.ntmps44
      go_wp2_with fail
      refine AT.out.mono ?_; rintro e w1 ⟨rfl, hb1⟩
      have B1 := Lib.hid ((X0.out.trans (hb1.mono X0.out.size)).alloc (X0.out.trans (hb1.mono X0.out.size)).size (.cells #[.int .i64 y0, .int .i64 y1, .int .i64 y2] 36))
      obtain ⟨⟨k0, k1, k2⟩, -, -⟩ := row3 (heap_alloc_new w1 (.cells #[.int .i64 y0, .int .i64 y1, .int .i64 y2] 36))
      clear p0 p1 p2 p3 p4 p5 hb1
      go_wp2_with fail
      go_quiet (fail)
      go_wp2_with fail
      refine bodyPost_ret ?_ rfl ⟨rfl, below_drewN B1.out _⟩
      simp [results, Try.results44, go_sem]
  --]
theorem infoStp : (Try.prog.info? 51).map (fun i => (i.zero, i.size, i.bytes)) = some (some (.agg #[.int .i64 0, .int .i64 0, .int .i64 0]), 3, 24) := by kernel_rfl
/-- The first k steps of a section from its end 0. -/
def legsTo (s : Int) (k : Nat) : List Wk.Stp := (List.range k).map fun (i : Nat) => (⟨s, 0, (i : Int) + 1⟩ : Wk.Stp)
theorem legsTo_succ (s : Int) (k : Nat) : legsTo s (k + 1) = legsTo s k ++ [⟨s, 0, (k : Int) + 1⟩] := by
  unfold legsTo
  rw [List.range_succ, List.map_append]; rfl
theorem legsTo_len (s : Int) (k : Nat) : (legsTo s k).length = k := by unfold legsTo; rw [List.length_map, List.length_range]
theorem outs_ends (p : Pl.Plan) (s f : Int) : Wk.outs p s f = if f < 0 ∨ ((endsAt p s).2 : Int) ≤ f then [] else if 0 < f then [⟨s, f, 0⟩] else legsTo s ((endsAt p s).2 - 1) := by
  unfold Wk.outs endsAt
  cases Wk.secAt p s with
  | none =>
    simp only
    rw [if_pos (by omega)]
  | some x =>
    simp only
    cases x.pt
    · simp only [Bool.false_eq_true, if_false]
      by_cases h0 : f = 0
      · subst h0; rfl
      by_cases h1 : f = 1
      · subst h1; rfl
      rw [if_neg (by omega), if_pos (by omega)]
    · simp only [if_true]
      by_cases h0 : f = 0
      · subst h0; rfl
      by_cases h1 : f = 1 ∨ f = 2
      · rw [if_neg h0, if_pos h1, if_neg (by omega), if_pos (by omega)]
      rw [if_neg h0, if_neg h1, if_pos (by omega)]
/-- Steps of the call's own, while they are found. -/
def LegSt (w wr : World) (v : Value) (L : List Wk.Stp) : Prop := Below w.heap.size w wr ∧ wr.ownsRow w.heap.size 51 LStp.m v L.length (LStp.all L)
set_option maxHeartbeats 8000000 in
set_option maxRecDepth 100000 in
theorem pwOuts_any (p : Pl.Plan) (A : Option Addr) (c : Nat) (A' : Option Addr) (c' : Nat) (s f : Int) (w : World) (h : PlanIn w p A A') (_hl : p.secs.length ≤ 24) :
    Calls Try.prog 45 #[planV p A c A' c', .int .i64 s, .int .i64 f] w (StepsYes (Wk.outs p s f) w) := by
  --[
  obtain ⟨i0, hi, hz0, hz1, hz2⟩ := info_parts infoStp
  have R0 := heap_alloc_new w (planO p A c A' c')
  have XX := (Below.refl w.heap.size w).alloc (Nat.le_refl _) (planO p A c A' c')
  have X0 := Lib.hid XX
  obtain ⟨⟨p0, p1, p2, p3, p4, p5⟩, -, gp⟩ := row6 R0
  have EN := Lib.hid (pwEnds_any p A c A' c' s _ (h.below XX))
  have hle := endsAt_le p s
  rw [outs_ends]
  clear R0 XX h
  generalize endsAt p s = q at EN hle
  obtain ⟨x, n⟩ := q
  simp only at hle
  simp only
  by_cases h0 : f < 0
  · have D2 : decide (f < 0) = true := dec_t h0
    rw [if_pos (.inl h0)]
    clear h0
    go_enter Try.func45, Try.ntmps45
    go_wp2_with fail
    refine EN.out.mono ?_; rintro e w1 ⟨rfl, hb1⟩
    have B1 := Lib.hid ((X0.out.trans (hb1.mono X0.out.size)).alloc (X0.out.trans (hb1.mono X0.out.size)).size (wkEO x))
    clear p0 p1 p2 p3 p4 p5 hb1 EN
    go_wp2_with fail
    go_ret
    exact ⟨none, 0, rfl, .inl rfl, B1.out⟩
  have D2 : decide (f < 0) = false := dec_f h0
  by_cases h2 : (n : Int) ≤ f
  · have D3 : decide ((n : Int) ≤ f) = true := dec_t h2
    rw [if_pos (.inr h2)]
    clear h0 h2
    go_enter Try.func45, Try.ntmps45
    go_wp2_with fail
    refine EN.out.mono ?_; rintro e w1 ⟨rfl, hb1⟩
    have B1 := Lib.hid ((X0.out.trans (hb1.mono X0.out.size)).alloc (X0.out.trans (hb1.mono X0.out.size)).size (wkEO x))
    clear p0 p1 p2 p3 p4 p5 hb1 EN
    go_wp2_with fail
    go_ret
    exact ⟨none, 0, rfl, .inl rfl, B1.out⟩
  have D3 : decide ((n : Int) ≤ f) = false := dec_f h2
  rw [if_neg (by omega)]
  by_cases h1 : 0 < f
  · have D4 : decide (0 < f) = true := dec_t h1
    rw [if_pos h1]
    clear h0 h2 h1
    go_enter Try.func45, Try.ntmps45
    go_wp2_with fail
    refine EN.out.mono ?_; rintro e w1 ⟨rfl, hb1⟩
    have B1 := Lib.hid ((X0.out.trans (hb1.mono X0.out.size)).alloc (X0.out.trans (hb1.mono X0.out.size)).size (wkEO x))
    clear p0 p1 p2 p3 p4 p5 hb1 EN
    go_wp2_with fail
    go_ret
    exact ⟨_, _, rfl, row_one (w1.alloc (wkEO x)) ⟨s, f, 0⟩ (by simp), B1.out.alloc B1.out.size _⟩
  · have D4 : decide (0 < f) = false := dec_f h1
    rw [if_neg h1]
    obtain rfl : f = 0 := by omega
    have hn1 : 1 ≤ n := by omega
    clear h0 h2 h1
    go_enter Try.func45, Try.ntmps45
    go_wp2_with fail
    refine EN.out.mono ?_; rintro e w1 ⟨rfl, hb1⟩
    have B1 := Lib.hid ((X0.out.trans (hb1.mono X0.out.size)).alloc (X0.out.trans (hb1.mono X0.out.size)).size (wkEO x))
    clear p0 p1 p2 p3 p4 p5 hb1 EN
    go_wp2_with fail
    go_loopw [9, 10] (fun v i wr => ∃ k : Nat, k + 1 ≤ n ∧ i = .int .i64 ((k + 1 : Nat) : Int) ∧ LegSt w wr v (legsTo s k)) (fun _ i _ => n - (intOf i).toNat)
    case atStart => exact ⟨0, hn1, rfl, B1.out, World.ownsRow_nil _ _ _ _⟩
    case round =>
      clear B1
      obtain ⟨k, hk, rfl, hS⟩ := hrel
      have HS := Lib.hid hS
      have hS1 := hS.1.size
      have hlen := legsTo_len s k
      clear hS
      by_cases hlt : k + 1 < n
      · have d1 : decide (((k + 1 : Nat) : Int) < (n : Int)) = true := dec_t (by omega)
        have HN := Lib.hid (legsTo_succ s k)
        have HX := Lib.hid ((Below.refl wr.heap.size wr).alloc (Nat.le_refl _) (stpO ⟨s, 0, ((k + 1 : Nat) : Int)⟩))
        have NW := Lib.hid (row_one wr ⟨s, 0, ((k + 1 : Nat) : Int)⟩ rfl)
        have OW := Lib.hid (ownsRow_below HS.out.2 HX.out)
        go_wp2_with (at_builtin; refine wpList_append_row LStp _ rfl (.tmp 35) (.tmp 39) 48 rfl w.heap.size 51 i0 _ 24 Try.underlying48 hi hz0 hz1 hz2 rfl _ _ _ rfl OW.out (some ⟨wr.heap.size, 0, none⟩) 1 1 [⟨s, 0, ((k + 1 : Nat) : Int)⟩] rfl (by decide) rfl NW.out (by omega) (by omega) (by simp; omega) ?_; intro g1 cap1 w3 hown1 hg1 hb1)
        have H3 := Lib.hid (show LegSt w w3 (.slice (some ⟨g1, 0, none⟩) (k + 1) cap1) (legsTo s (k + 1)) from by
          refine ⟨(HS.out.1.trans (HX.out.mono HS.out.1.size)).grown hg1 (Nat.le_trans HS.out.1.size HX.out.size) (fun b hb => (OW.out.lt b hb).1), ?_⟩
          rw [hlen] at hown1
          rw [HN.out, LStp.all_append, List.length_append, hlen]
          exact hown1)
        clear hown1 hg1 hb1
        go_wp2_with fail
        go_roundw
        case rel => exact ⟨k + 1, by omega, by go_num, H3.out⟩
        case measure => simp [intOf]; omega
      · have d1 : decide (((k + 1 : Nat) : Int) < (n : Int)) = false := dec_f (by omega)
        obtain rfl : n = k + 1 := by omega
        obtain ⟨-, B, cp, rfl, -, hR⟩ := Lies.Row.of_own HS.out.2
        have HR := Lib.hid hR
        clear hR
        go_wp2_with fail
        go_ret
        exact ⟨B, cp, rfl, HR.out, HS.out.1⟩
  --]
end Go.Proofs.Ytgajdfecajleiaa
/-
  Plain mathematics of layer 7: ways from a signal, as a search finds them. No program is named here.
-/
namespace Go.Proofs.Ytgajdfecajleiaa.Cr
open Go Pl Wk

structure Way where
  steps : List Stp
  exit : Int
deriving DecidableEq
/-- A search: how many sections it entered, whether it went too far, what it found. -/
structure HSt where
  tries : Nat
  long : Bool
  out : List Way
def came (h : HSt) : HSt := ⟨h.tries + 1, h.long || decide (400 < h.tries + 1), h.out⟩
/-- Does the search turn back where it enters? -/
def turns (b s : Int) (st : List Stp) (h : HSt) : Bool := (came h).long || (decide (s = b) || within st s)
/-- Does a way end behind that step? -/
def lasts (p : Plan) (s : Int) (x : Stp) : Bool := decide (0 ≤ signal p s x.t) || !(next p s x.t).2.2
def gone (p : Plan) (go : Int → Int → List Stp → HSt → HSt) (s : Int) (st : List Stp) (h : HSt) (x : Stp) : HSt :=
  if lasts p s x then ⟨h.tries, h.long, h.out ++ [⟨st ++ [x], signal p s x.t⟩]⟩ else go (next p s x.t).1 (next p s x.t).2.1 (st ++ [x]) h
def enter (p : Plan) (b : Int) : Nat → Int → Int → List Stp → HSt → HSt
  | 0, s, _, st, h => if turns b s st h then came h else ⟨h.tries + 1, true, h.out⟩
  | k + 1, s, f, st, h => if turns b s st h then came h else (outs p s f).foldl (gone p (enter p b k) s st) (came h)
def hunt0 : HSt := ⟨0, false, []⟩
def hunt (p : Plan) (g : Sig) : HSt := if (next p g.sec g.en).2.2 then enter p g.sec 16 (next p g.sec g.en).1 (next p g.sec g.en).2.1 [] hunt0 else hunt0
def sigAt (p : Plan) (i : Int) : Option Sig := if i < 0 then none else p.sigs[i.toNat]?
def ofSig (p : Plan) (g : Sig) : List Way × Int := if (hunt p g).long then ([], 10) else ((hunt p g).out, 0)
/-- The ways from a signal, or the error. -/
def of (p : Plan) (i : Int) : List Way × Int :=
  match sigAt p i with
  | none => ([], 4)
  | some g => ofSig p g
theorem came_out (h : HSt) : (came h).out = h.out := rfl
theorem came_tries (h : HSt) : (came h).tries = h.tries + 1 := rfl
/-- What is found stays found; what is too long stays so; tries are but more. -/
def Grows (a b : HSt) : Prop := a.tries ≤ b.tries ∧ (a.long = true → b.long = true) ∧ ∃ N, b.out = a.out ++ N
theorem Grows.refl (a : HSt) : Grows a a := ⟨Nat.le_refl _, id, [], (List.append_nil _).symm⟩
theorem Grows.trans {a b c : HSt} (h : Grows a b) (h' : Grows b c) : Grows a c := by
  obtain ⟨t1, l1, N1, o1⟩ := h
  obtain ⟨t2, l2, N2, o2⟩ := h'
  exact ⟨Nat.le_trans t1 t2, fun x => l2 (l1 x), N1 ++ N2, by rw [o2, o1, List.append_assoc]⟩
theorem Grows.came (h : HSt) : Grows h (came h) := ⟨Nat.le_succ _, fun x => by unfold Cr.came; simp [x], [], (List.append_nil _).symm⟩
theorem Grows.gone {p : Plan} {go : Int → Int → List Stp → HSt → HSt} (hg : ∀ s f st h, Grows h (go s f st h)) (s : Int) (st : List Stp) (h : HSt) (x : Stp) : Grows h (gone p go s st h x) := by
  unfold Cr.gone
  split
  · exact ⟨Nat.le_refl _, id, _, rfl⟩
  · exact hg _ _ _ _
/-- How much a search may grow: each section entered leads to two at most. -/
theorem fold_le (p : Plan) (go : Int → Int → List Stp → HSt → HSt) (s : Int) (st : List Stp) (B C : Nat) (hC : 1 ≤ C)
    (hs : ∀ s f st h, (go s f st h).tries ≤ h.tries + B ∧ (go s f st h).out.length ≤ h.out.length + C) : ∀ (l : List Stp) (h : HSt), (l.foldl (gone p go s st) h).tries ≤ h.tries + l.length * B ∧ (l.foldl (gone p go s st) h).out.length ≤ h.out.length + l.length * C
  | [], h => ⟨Nat.le_add_right _ _, Nat.le_add_right _ _⟩
  | x :: l, h => by
    obtain ⟨h1, h2⟩ := fold_le p go s st B C hC hs l (gone p go s st h x)
    have h3 : (gone p go s st h x).tries ≤ h.tries + B ∧ (gone p go s st h x).out.length ≤ h.out.length + C := by
      unfold gone
      split
      · exact ⟨Nat.le_add_right _ _, by simp only [List.length_append, List.length_singleton]; omega⟩
      · exact hs _ _ _ _
    rw [List.foldl_cons, List.length_cons, Nat.succ_mul, Nat.succ_mul]
    omega
theorem enter_le (p : Plan) (b : Int) : ∀ (k : Nat) (s f : Int) (st : List Stp) (h : HSt), (enter p b k s f st h).tries ≤ h.tries + (2 ^ (k + 1) - 1) ∧ (enter p b k s f st h).out.length ≤ h.out.length + 2 ^ k
  | 0, s, f, st, h => by
    unfold enter
    split
    · exact ⟨by rw [came_tries]; omega, by rw [came_out]; omega⟩
    · exact ⟨by simp only; omega, by simp only; omega⟩
  | k + 1, s, f, st, h => by
    have hp : 1 ≤ 2 ^ k := Nat.one_le_two_pow
    have e1 : 2 ^ (k + 1) = 2 * 2 ^ k := by rw [Nat.pow_succ, Nat.mul_comm]
    have e2 : 2 ^ (k + 1 + 1) = 2 * 2 ^ (k + 1) := by rw [Nat.pow_succ, Nat.mul_comm]
    unfold enter
    split
    · exact ⟨by rw [came_tries]; omega, by rw [came_out]; omega⟩
    · have hl := outs_len p s f
      obtain ⟨h1, h2⟩ := fold_le p (enter p b k) s st (2 ^ (k + 1) - 1) (2 ^ k) hp (fun s f st h => enter_le p b k s f st h) (outs p s f) (came h)
      rw [came_tries] at h1
      rw [came_out] at h2
      have q1 : (outs p s f).length * (2 ^ (k + 1) - 1) ≤ 2 * (2 ^ (k + 1) - 1) := Nat.mul_le_mul_right _ hl
      have q2 : (outs p s f).length * 2 ^ k ≤ 2 * 2 ^ k := Nat.mul_le_mul_right _ hl
      omega
end Go.Proofs.Ytgajdfecajleiaa.Cr
/-
  Plain mathematics of layer 7: what a search finds are ways, each one, in order; all of them, if it doesn't go too far; a station with a signal more is searched no farther. No program is named here.
-/
namespace Go.Proofs.Ytgajdfecajleiaa.Cr
open Go Pl Wk

/-- From a section entered at an end, behind some steps, these steps go on, and end as a way does. -/
def Chain (p : Plan) (b : Int) : Int → Int → List Stp → List Stp → Int → Prop
  | _, _, _, [], _ => False
  | s, f, st, x :: t, e => (s ≠ b ∧ within st s = false ∧ x ∈ outs p s f) ∧ ((lasts p s x = true ∧ t = [] ∧ e = signal p s x.t) ∨ (lasts p s x = false ∧ Chain p b (next p s x.t).1 (next p s x.t).2.1 (st ++ [x]) t e))
/-- Two ways that a point's toe parts, the normal leg's first. -/
def Part (a b : Way) : Prop := ∃ l x y ta tb, a.steps = l ++ x :: ta ∧ b.steps = l ++ y :: tb ∧ x.s = y.s ∧ x.f = 0 ∧ y.f = 0 ∧ x.t = 1 ∧ y.t = 2
/-- A station with a signal more: as the other one in all else. -/
structure More (p q : Plan) : Prop where
  outs : ∀ s f, outs q s f = outs p s f
  next : ∀ s e, next q s e = next p s e
  sig : ∀ s e, signal q s e = signal p s e ∨ 0 ≤ signal q s e
theorem More.lasts {p q : Plan} (h : More p q) {s : Int} {x : Stp} (hl : lasts p s x = true) : lasts q s x = true := by
  unfold Cr.lasts at hl ⊢
  rw [h.next]
  rcases h.sig s x.t with h1 | h1
  · rw [h1]; exact hl
  · rw [decide_eq_true h1, Bool.true_or]
end Go.Proofs.Ytgajdfecajleiaa.Cr
/-
  Plain mathematics of layer 7: each way from a signal, step by step; where two part; what a signal more does. No program is named here.
-/
namespace Go.Proofs.Ytgajdfecajleiaa.Cr
open Go Pl Wk

theorem ofSig_ways (p : Plan) (g : Sig) : ((ofSig p g).2 = 10 ∧ (ofSig p g).1 = []) ∨ ((ofSig p g).2 = 0 ∧ (hunt p g).long = false ∧ (ofSig p g).1 = (hunt p g).out) := by
  unfold ofSig
  cases h : (hunt p g).long with
  | true => exact .inl ⟨rfl, rfl⟩
  | false => exact .inr ⟨rfl, rfl, rfl⟩
theorem hunt_len (p : Plan) (g : Sig) : (hunt p g).out.length ≤ 65536 := by
  unfold hunt
  split
  · have := (enter_le p g.sec 16 (next p g.sec g.en).1 (next p g.sec g.en).2.1 [] hunt0).2
    rw [show hunt0.out.length = 0 from rfl] at this
    omega
  · exact Nat.zero_le _
theorem of_len (p : Plan) (i : Int) : (of p i).1.length ≤ 65536 := by
  unfold of
  split
  · exact Nat.zero_le _
  · rename_i g _
    rcases ofSig_ways p g with ⟨-, h⟩ | ⟨-, -, h⟩
    · rw [h]; exact Nat.zero_le _
    · rw [h]; exact hunt_len p g
/-- Where one stands behind k steps of a way: it goes on from there, or ends there. -/
def Reach (p : Plan) (b : Int) (w : Way) (k : Nat) (at_ en : Int) : Prop :=
  (k < w.steps.length ∧ (next p at_ en).2.2 = true ∧ Chain p b (next p at_ en).1 (next p at_ en).2.1 (w.steps.take k) (w.steps.drop k) w.exit) ∨
    (k = w.steps.length ∧ (0 ≤ signal p at_ en ∨ (next p at_ en).2.2 = false) ∧ w.exit = signal p at_ en)
end Go.Proofs.Ytgajdfecajleiaa.Cr
