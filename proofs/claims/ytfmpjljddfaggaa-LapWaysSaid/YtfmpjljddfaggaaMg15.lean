/-
  Texts of this claim, merged: WkRef, WkRefB, WkRefC, WkPrA, WkPrB, WkProg, CrSpec.
-/
import Derived.Test.YtfmpjljddfaggaaMg12
import Derived.Test.YtfmpjljddfaggaaMg13
import Derived.Test.YtfmpjljddfaggaaMg14
import Derived.BigQuiet
import Derived.Deep.LoopGhost
import Derived.Shelf.Abstract
/-
  The walks of the document's answers of layer 6.
-/
namespace Go.Proofs.Ytfmpjljddfaggaa
open Go.RowKit

abbrev endZ : Obj := .cells #[.int .i64 0, .int .i64 0, .int .i64 0] 50
/-- An end, or none: what a call leaves. -/
def EndIs (x : Option Pl.En) (w : World) (e : Ending) (w' : World) : Prop := e = .returned (.tuple #[endV (x.getD ⟨0, 0, 0⟩), .bool x.isSome]) ∧ Below w.heap.size w w'
theorem row3 {w : World} {g : Nat} {a b c : Value} {t : TypeId} (h : w.heap[g]? = some (.cells #[a, b, c] t (0, 0))) :
    (w.cell? ⟨g, 0, none⟩ = some a ∧ w.cell? ⟨g, 1, none⟩ = some b ∧ w.cell? ⟨g, 2, none⟩ = some c) ∧ (w.frozen? ⟨g, 0, none⟩ = false ∧ w.frozen? ⟨g, 1, none⟩ = false ∧ w.frozen? ⟨g, 2, none⟩ = false) ∧ g < w.heap.size :=
  ⟨⟨cell_of_row w g 0 _ t _ h, cell_of_row w g 1 _ t _ h, cell_of_row w g 2 _ t _ h⟩, ⟨frozen_of_row w g 0 _ t h, frozen_of_row w g 1 _ t h, frozen_of_row w g 2 _ t h⟩, (Array.getElem?_eq_some_iff.1 h).1⟩
set_option maxHeartbeats 8000000 in
set_option maxRecDepth 100000 in
theorem rwAt_any (p : Pl.Plan) (A : Option Addr) (c : Nat) (A' : Option Addr) (c' : Nat) (s e : Int) (w : World) (h : PlanIn w p A A') :
    Calls Try.prog 26 #[planV p A c A' c', .int .i64 s, .int .i64 e] w (EndIs (Wk.endOf p s e) w) := by
  obtain ⟨R0, R1, XX, XS⟩ := two_blocks w (planO p A c A' c') endZ
  have X0 := Lib.hid XX
  obtain ⟨⟨-, -, -, -, p4, -⟩, -, gp⟩ := row6 R0
  obtain ⟨⟨z0, z1, z2⟩, ⟨f0, f1, f2⟩, gz⟩ := row3 R1
  have HI := Lib.hid (h.below XX)
  clear R0 R1 XX h
  rcases Wk.sec_ways p s with ⟨hs, hn⟩ | ⟨k, rfl, ⟨hk, hn⟩ | ⟨x, hx, hn⟩⟩
  · have D : decide (s < 0) = true := dec_t hs
    have E : Wk.endOf p s e = none := by unfold Wk.endOf; rw [hn]
    rw [E]
    clear hs hn E
    go_enter Try.func26, Try.ntmps26
    go_wp2_with fail
    refine bodyPost_ret ?_ rfl ⟨rfl, ?_⟩
    · simp [results, Try.results26, go_sem, *]
    · (repeat (with_reducible refine Below.setCell ?_ (by exact Nat.le_succ _) _)); exact X0.out
  · have D0 : decide ((k : Int) < 0) = false := dec_f (by omega)
    have D1 : decide ((p.secs.length : Int) ≤ (k : Int)) = true := dec_t (by omega)
    have E : Wk.endOf p k e = none := by unfold Wk.endOf; rw [hn]
    rw [E]
    clear hn E
    go_enter Try.func26, Try.ntmps26
    go_wp2_with fail
    refine bodyPost_ret ?_ rfl ⟨rfl, ?_⟩
    · simp [results, Try.results26, go_sem, *]
    · (repeat (with_reducible refine Below.setCell ?_ (by exact Nat.le_succ _) _)); exact X0.out
  · have hlt : k < p.secs.length := (List.getElem?_eq_some_iff.1 hx).1
    have D0 : decide ((k : Int) < 0) = false := dec_f (by omega)
    have D1 : decide ((p.secs.length : Int) ≤ (k : Int)) = false := dec_f (by omega)
    have N1 : ¬ p.secs.length ≤ k := by omega
    have E : Wk.endOf p k e = if Wk.isEnd x e then some (x.get e.toNat) else none := by unfold Wk.endOf; rw [hn]
    obtain ⟨b, o, rfl, hb, on⟩ := sec_cells HI.out.1 hx
    have HON := Lib.hid on
    obtain ⟨-, a1, -⟩ := sec_on on
    rw [E]
    clear hn E on
    by_cases h0 : e < 0
    · have D2 : decide (e < 0) = true := dec_t h0
      have E : Wk.isEnd x e = false := by unfold Wk.isEnd; rw [decide_eq_false (by omega)]; rfl
      rw [E]
      clear h0 hx E a1
      go_enter Try.func26, Try.ntmps26
      go_wp2_with fail
      refine bodyPost_ret ?_ rfl ⟨rfl, ?_⟩
      · simp [results, Try.results26, go_sem, *]
      · (repeat (with_reducible refine Below.setCell ?_ (by exact Nat.le_succ _) _)); exact X0.out
    have D2 : decide (e < 0) = false := dec_f h0
    by_cases h2 : 2 < e
    · have D3 : decide (2 < e) = true := dec_t h2
      have E : Wk.isEnd x e = false := by unfold Wk.isEnd; rw [decide_eq_false (show ¬ e ≤ 2 by omega), Bool.false_and, Bool.and_false]
      rw [E]
      clear h0 h2 hx E a1
      go_enter Try.func26, Try.ntmps26
      go_wp2_with fail
      refine bodyPost_ret ?_ rfl ⟨rfl, ?_⟩
      · simp [results, Try.results26, go_sem, *]
      · (repeat (with_reducible refine Below.setCell ?_ (by exact Nat.le_succ _) _)); exact X0.out
    have D3 : decide (2 < e) = false := dec_f h2
    obtain ⟨j, rfl⟩ : ∃ j : Nat, e = j := ⟨e.toNat, by omega⟩
    have hj : j < 3 := by omega
    by_cases hc : j = 2 ∧ x.pt = false
    · obtain ⟨rfl, hpt⟩ := hc
      have E : Wk.isEnd x (2 : Nat) = false := by unfold Wk.isEnd; rw [hpt]; rfl
      rw [hpt] at a1
      rw [E]
      clear h0 h2 hx E hpt HON D2 D3 hj
      go_enter Try.func26, Try.ntmps26
      go_wp2_with fail
      refine bodyPost_ret ?_ rfl ⟨rfl, ?_⟩
      · simp [results, Try.results26, go_sem, *]
      · (repeat (with_reducible refine Below.setCell ?_ (by exact Nat.le_succ _) _)); exact X0.out
    · obtain ⟨c0, c1, c2⟩ := on_end3 HON.out hj
      have hz : ((j : Int) = 2 → x.pt = true) := fun h => by
        cases hpt : x.pt
        · exact absurd ⟨by omega, hpt⟩ hc
        · rfl
      have E : Wk.isEnd x (j : Int) = true := by
        unfold Wk.isEnd
        rw [decide_eq_true (show (0 : Int) ≤ j by omega), decide_eq_true (show (j : Int) ≤ 2 by omega), Bool.true_and, Bool.true_and]
        by_cases hj2 : (j : Int) = 2
        · rw [hz hj2, Bool.or_true]
        · rw [decide_eq_true hj2, Bool.true_or]
      rw [E, if_pos rfl, Int.toNat_natCast]
      generalize x.get j = y at c0 c1 c2
      obtain ⟨y0, y1, y2⟩ := y
      simp only at c0 c1 c2
      have j3 : (j : Int) < 3 := by omega
      by_cases hj2 : j = 2
      · subst hj2
        rw [hz rfl] at a1
        clear h0 h2 hx E HON D2 D3 hj hz hc
        go_enter Try.func26, Try.ntmps26
        go_wp2_with fail
        refine bodyPost_ret ?_ rfl ⟨rfl, ?_⟩
        · simp [results, Try.results26, go_sem, *]
        · exact (two_blocks w _ _).2.2.1
      · have D4 : ((j : Int) == 2) = false := by rw [beq_eq_false_iff_ne]; omega
        clear h0 h2 hx E HON hz hc hj2 a1
        go_enter Try.func26, Try.ntmps26
        go_wp2_with fail
        refine bodyPost_ret ?_ rfl ⟨rfl, ?_⟩
        · simp [results, Try.results26, go_sem, *]
        · exact (two_blocks w _ _).2.2.1
end Go.Proofs.Ytfmpjljddfaggaa
/-
  The walks of the document's answers of layer 6: where an end leads, what stands there, what a step asks, through what steps go.
-/
namespace Go.Proofs.Ytfmpjljddfaggaa
open Go.RowKit

/-- Where an end leads: what a call leaves. -/
def NextIs (x : Int × Int × Bool) (w : World) (e : Ending) (w' : World) : Prop := e = .returned (.tuple #[.int .i64 x.1, .int .i64 x.2.1, .bool x.2.2]) ∧ Below w.heap.size w w'
/-- A value that a call leaves, with memory made. -/
def OneIs (v : Value) (w : World) (e : Ending) (w' : World) : Prop := e = .returned v ∧ Below w.heap.size w w'
set_option maxHeartbeats 8000000 in
set_option maxRecDepth 100000 in
theorem rwNext_any (p : Pl.Plan) (A : Option Addr) (c : Nat) (A' : Option Addr) (c' : Nat) (s e : Int) (w : World) (h : PlanIn w p A A') :
    Calls Try.prog 15 #[planV p A c A' c', .int .i64 s, .int .i64 e] w (NextIs (Wk.next p s e) w) := by
  have R0 := heap_alloc_new w (planO p A c A' c')
  have XX := (Below.refl w.heap.size w).alloc (Nat.le_refl _) (planO p A c A' c')
  have X0 := Lib.hid XX
  obtain ⟨⟨p0, p1, p2, p3, p4, p5⟩, -, gp⟩ := row6 R0
  have AT := Lib.hid (rwAt_any p A c A' c' s e _ (h.below XX))
  have E : Wk.next p s e = match Wk.endOf p s e with | none => (0, 0, false) | some x => if x.goes < 0 then (0, 0, false) else (x.goes, x.at_, true) := rfl
  rw [E]
  clear R0 XX h E
  cases hx : Wk.endOf p s e with
  | none =>
    rw [hx] at AT
    clear hx
    go_enter Try.func15, Try.ntmps15
    go_wp2_with fail
    refine AT.out.mono ?_; rintro e w1 ⟨rfl, hb1⟩
    have B1 := Lib.hid ((X0.out.trans (hb1.mono X0.out.size)).alloc (X0.out.trans (hb1.mono X0.out.size)).size endZ)
    clear p0 p1 p2 p3 p4 p5 hb1
    go_wp2_with fail
    refine bodyPost_ret ?_ rfl ⟨rfl, B1.out⟩
    simp [results, Try.results15, go_sem]
  | some y =>
    rw [hx] at AT
    obtain ⟨y0, y1, y2⟩ := y
    by_cases h0 : y0 < 0
    · have D : decide (y0 < 0) = true := dec_t h0
      simp only
      rw [if_pos h0]
      clear hx h0
      go_enter Try.func15, Try.ntmps15
      go_wp2_with fail
      refine AT.out.mono ?_; rintro e w1 ⟨rfl, hb1⟩
      have B1 := Lib.hid ((X0.out.trans (hb1.mono X0.out.size)).alloc (X0.out.trans (hb1.mono X0.out.size)).size (.cells #[.int .i64 y0, .int .i64 y1, .int .i64 y2] 50))
      clear p0 p1 p2 p3 p4 p5 hb1
      go_wp2_with fail
      refine bodyPost_ret ?_ rfl ⟨rfl, B1.out⟩
      simp [results, Try.results15, go_sem]
    · have D : decide (y0 < 0) = false := dec_f h0
      simp only
      rw [if_neg h0]
      clear hx h0
      go_enter Try.func15, Try.ntmps15
      go_wp2_with fail
      refine AT.out.mono ?_; rintro e w1 ⟨rfl, hb1⟩
      have B1 := Lib.hid ((X0.out.trans (hb1.mono X0.out.size)).alloc (X0.out.trans (hb1.mono X0.out.size)).size (.cells #[.int .i64 y0, .int .i64 y1, .int .i64 y2] 50))
      obtain ⟨⟨k0, k1, k2⟩, -, -⟩ := row3 (heap_alloc_new w1 (.cells #[.int .i64 y0, .int .i64 y1, .int .i64 y2] 50))
      clear p0 p1 p2 p3 p4 p5 hb1
      go_wp2_with fail
      go_quiet (fail)
      go_wp2_with fail
      refine bodyPost_ret ?_ rfl ⟨rfl, below_drewN B1.out _⟩
      simp [results, Try.results15, go_sem]
set_option maxHeartbeats 8000000 in
set_option maxRecDepth 100000 in
theorem rwSignal_any (p : Pl.Plan) (A : Option Addr) (c : Nat) (A' : Option Addr) (c' : Nat) (s e : Int) (w : World) (h : PlanIn w p A A') :
    Calls Try.prog 51 #[planV p A c A' c', .int .i64 s, .int .i64 e] w (OneIs (.int .i64 (Wk.signal p s e)) w) := by
  have R0 := heap_alloc_new w (planO p A c A' c')
  have XX := (Below.refl w.heap.size w).alloc (Nat.le_refl _) (planO p A c A' c')
  have X0 := Lib.hid XX
  obtain ⟨⟨p0, p1, p2, p3, p4, p5⟩, -, gp⟩ := row6 R0
  have AT := Lib.hid (rwAt_any p A c A' c' s e _ (h.below XX))
  have E : Wk.signal p s e = match Wk.endOf p s e with | none => -1 | some x => x.sig := rfl
  rw [E]
  clear R0 XX h E
  cases hx : Wk.endOf p s e with
  | none =>
    rw [hx] at AT
    clear hx
    go_enter Try.func51, Try.ntmps51
    go_wp2_with fail
    refine AT.out.mono ?_; rintro e w1 ⟨rfl, hb1⟩
    have B1 := Lib.hid ((X0.out.trans (hb1.mono X0.out.size)).alloc (X0.out.trans (hb1.mono X0.out.size)).size endZ)
    clear p0 p1 p2 p3 p4 p5 hb1
    go_wp2_with fail
    go_ret
    exact ⟨rfl, B1.out⟩
  | some y =>
    rw [hx] at AT
    obtain ⟨y0, y1, y2⟩ := y
    clear hx
    go_enter Try.func51, Try.ntmps51
    go_wp2_with fail
    refine AT.out.mono ?_; rintro e w1 ⟨rfl, hb1⟩
    have B1 := Lib.hid ((X0.out.trans (hb1.mono X0.out.size)).alloc (X0.out.trans (hb1.mono X0.out.size)).size (.cells #[.int .i64 y0, .int .i64 y1, .int .i64 y2] 50))
    obtain ⟨⟨k0, k1, k2⟩, -, -⟩ := row3 (heap_alloc_new w1 (.cells #[.int .i64 y0, .int .i64 y1, .int .i64 y2] 50))
    clear p0 p1 p2 p3 p4 p5 hb1
    go_wp2_with fail
    go_ret
    exact ⟨rfl, B1.out⟩
abbrev stpO (x : Wk.Stp) : Obj := .cells #[.int .i64 x.s, .int .i64 x.f, .int .i64 x.t] 47
end Go.Proofs.Ytfmpjljddfaggaa
/-
  The walks of the document's answers of layer 6: the steps through a section, whether steps go through one, whether they are the same.
-/
namespace Go.Proofs.Ytfmpjljddfaggaa
open Go.RowKit

theorem within_at {L : List Wk.Stp} {s : Int} {k : Nat} {x : Wk.Stp} (hx : L[k]? = some x) (h : x.s = s) : Wk.within L s = true := by
  unfold Wk.within
  rw [List.any_eq_true]
  exact ⟨x, List.mem_of_getElem? hx, decide_eq_true h⟩
theorem within_none {L : List Wk.Stp} {s : Int} (h : ∀ j < L.length, ∀ x, L[j]? = some x → x.s ≠ s) : Wk.within L s = false := by
  unfold Wk.within
  rw [List.any_eq_false]
  intro x hx
  obtain ⟨j, hj, rfl⟩ := List.getElem_of_mem hx
  simpa using h j hj _ (List.getElem?_eq_getElem hj)
theorem row_one (w : World) (y : Wk.Stp) {g : Nat} (hg : w.heap.size = g) : LStp.Row (w.alloc (.cells #[.int .i64 y.s, .int .i64 y.f, .int .i64 y.t] 47)) (some ⟨g, 0, none⟩) [y] := hg ▸ Lies.Row.fresh (E := LStp) w [y] 47
theorem row_two (w : World) (y z : Wk.Stp) {g : Nat} (hg : w.heap.size = g) : LStp.Row (w.alloc (.cells #[.int .i64 y.s, .int .i64 y.f, .int .i64 y.t, .int .i64 z.s, .int .i64 z.f, .int .i64 z.t] 47)) (some ⟨g, 0, none⟩) [y, z] := hg ▸ Lies.Row.fresh (E := LStp) w [y, z] 47
set_option maxHeartbeats 8000000 in
set_option maxRecDepth 100000 in
theorem rwOuts_any (p : Pl.Plan) (A : Option Addr) (c : Nat) (A' : Option Addr) (c' : Nat) (s f : Int) (w : World) (h : PlanIn w p A A') :
    Calls Try.prog 16 #[planV p A c A' c', .int .i64 s, .int .i64 f] w (StepsYes (Wk.outs p s f) w) := by
  have R0 := heap_alloc_new w (planO p A c A' c')
  have XX := (Below.refl w.heap.size w).alloc (Nat.le_refl _) (planO p A c A' c')
  have X0 := Lib.hid XX
  obtain ⟨⟨-, -, -, -, p4, -⟩, -, gp⟩ := row6 R0
  have HI := Lib.hid (h.below XX)
  clear R0 XX h
  rcases Wk.sec_ways p s with ⟨hs, hn⟩ | ⟨k, rfl, ⟨hk, hn⟩ | ⟨x, hx, hn⟩⟩
  · have D : decide (s < 0) = true := dec_t hs
    have E : Wk.outs p s f = [] := by unfold Wk.outs; rw [hn]
    rw [E]
    clear hs hn E
    go_enter Try.func16, Try.ntmps16
    go_wp2_with fail
    go_ret
    exact ⟨none, 0, rfl, .inl rfl, X0.out⟩
  · have D0 : decide ((k : Int) < 0) = false := dec_f (by omega)
    have D1 : decide ((p.secs.length : Int) ≤ (k : Int)) = true := dec_t (by omega)
    have E : Wk.outs p k f = [] := by unfold Wk.outs; rw [hn]
    rw [E]
    clear hn E
    go_enter Try.func16, Try.ntmps16
    go_wp2_with fail
    go_ret
    exact ⟨none, 0, rfl, .inl rfl, X0.out⟩
  · have hlt : k < p.secs.length := (List.getElem?_eq_some_iff.1 hx).1
    have D0 : decide ((k : Int) < 0) = false := dec_f (by omega)
    have D1 : decide ((p.secs.length : Int) ≤ (k : Int)) = false := dec_f (by omega)
    have N1 : ¬ p.secs.length ≤ k := by omega
    obtain ⟨b, o, rfl, hb, on⟩ := sec_cells HI.out.1 hx
    obtain ⟨-, a1, -⟩ := sec_on on
    have E : Wk.outs p k f = if x.pt then (if f = 0 then [⟨k, 0, 1⟩, ⟨k, 0, 2⟩] else if f = 1 ∨ f = 2 then [⟨k, f, 0⟩] else []) else if f = 0 ∨ f = 1 then [⟨k, f, 1 - f⟩] else [] := by unfold Wk.outs; rw [hn]
    rw [E]
    have X1 := Lib.hid (X0.out.alloc X0.out.size)
    clear hn on hx E
    cases hpt : x.pt
    · rw [hpt] at a1
      rw [if_neg (by decide)]
      clear hpt
      by_cases h0 : f = 0
      · subst h0
        rw [if_pos (.inl rfl)]
        go_enter Try.func16, Try.ntmps16
        go_wp2_with fail
        go_ret
        exact ⟨_, _, rfl, row_one (w.alloc (planO p (some ⟨b, o, none⟩) c A' c')) ⟨k, 0, 1⟩ (by simp), X1.out _⟩
      by_cases h1 : f = 1
      · subst h1
        rw [if_pos (.inr rfl)]
        clear h0
        go_enter Try.func16, Try.ntmps16
        go_wp2_with fail
        go_ret
        exact ⟨_, _, rfl, row_one (w.alloc (planO p (some ⟨b, o, none⟩) c A' c')) ⟨k, 1, 0⟩ (by simp), X1.out _⟩
      have d0 : (f == 0) = false := by rw [beq_eq_false_iff_ne]; exact h0
      have d1 : (f == 1) = false := by rw [beq_eq_false_iff_ne]; exact h1
      rw [if_neg (by omega)]
      clear h0 h1
      go_enter Try.func16, Try.ntmps16
      go_wp2_with fail
      go_ret
      exact ⟨none, 0, rfl, .inl rfl, X0.out⟩
    · rw [hpt] at a1
      rw [if_pos rfl]
      clear hpt
      by_cases h0 : f = 0
      · subst h0
        rw [if_pos rfl]
        go_enter Try.func16, Try.ntmps16
        go_wp2_with fail
        go_ret
        exact ⟨_, _, rfl, row_two (w.alloc (planO p (some ⟨b, o, none⟩) c A' c')) ⟨k, 0, 1⟩ ⟨k, 0, 2⟩ (by simp), X1.out _⟩
      rw [if_neg h0]
      by_cases h1 : f = 1
      · subst h1
        rw [if_pos (.inl rfl)]
        clear h0
        go_enter Try.func16, Try.ntmps16
        go_wp2_with fail
        go_ret
        exact ⟨_, _, rfl, row_one (w.alloc (planO p (some ⟨b, o, none⟩) c A' c')) ⟨k, 1, 0⟩ (by simp), X1.out _⟩
      by_cases h2 : f = 2
      · subst h2
        rw [if_pos (.inr rfl)]
        clear h0 h1
        go_enter Try.func16, Try.ntmps16
        go_wp2_with fail
        go_ret
        exact ⟨_, _, rfl, row_one (w.alloc (planO p (some ⟨b, o, none⟩) c A' c')) ⟨k, 2, 0⟩ (by simp), X1.out _⟩
      have d0 : (f == 0) = false := by rw [beq_eq_false_iff_ne]; exact h0
      have d1 : (f == 1) = false := by rw [beq_eq_false_iff_ne]; exact h1
      have d2 : (f == 2) = false := by rw [beq_eq_false_iff_ne]; exact h2
      rw [if_neg (by omega)]
      clear h0 h1 h2
      go_enter Try.func16, Try.ntmps16
      go_wp2_with fail
      go_ret
      exact ⟨none, 0, rfl, .inl rfl, X0.out⟩
set_option maxHeartbeats 4000000 in
set_option maxRecDepth 100000 in
theorem rwWithin_any (A : Option Addr) (c : Nat) (L : List Wk.Stp) (s : Int) (w : World) (h : LStp.Row w A L) (hl : L.length ≤ 1000000) :
    Calls Try.prog 17 #[.slice A L.length c, .int .i64 s] w fun e w' => e = .returned (.bool (Wk.within L s)) ∧ w = w' := by
  go_enter Try.func17, Try.ntmps17
  go_wp2
  go_loop [5] (fun i => ∃ k : Nat, k ≤ L.length ∧ i = .int .i64 k ∧ ∀ j < k, ∀ t, L[j]? = some t → t.s ≠ s) (fun i => L.length - (intOf i).toNat)
  case atStart => exact ⟨0, Nat.zero_le _, rfl, fun j hj => absurd hj (by omega)⟩
  case round =>
    obtain ⟨k, hk, rfl, h0⟩ := hrel
    have H0 := Lib.hid h0
    clear h0
    by_cases hlt : k < L.length
    · obtain ⟨b, o, rfl, hb, on⟩ := h.at hlt
      have hx := List.getElem?_eq_getElem hlt
      generalize L[k] = x at hx on
      obtain ⟨a0, -⟩ := stp_on on
      rw [show k * LStp.m = k * 3 from rfl] at a0
      have HX := Lib.hid hx
      clear on hx
      by_cases he : x.s = s
      · have h1 : (x.s == s) = true := by rw [beq_iff_eq]; exact he
        have P := Lib.hid (within_at HX.out he)
        clear he
        go_wp2
        go_ret
        exact ⟨by rw [P.out]; rfl, rfl⟩
      · have h1 : (x.s == s) = false := by rw [beq_eq_false_iff_ne]; exact he
        have N := Lib.hid (fun j (hj : j < k + 1) t (ht : L[j]? = some t) => (show t.s ≠ s from by
          by_cases hjk : j = k
          · subst hjk
            rw [HX.out] at ht
            cases ht
            exact he
          · exact H0.out j (by omega) t ht))
        clear he
        go_wp2
        go_round
        case rel => exact ⟨k + 1, by omega, by go_num, N.out⟩
        case measure => simp [intOf]; omega
    · obtain rfl : k = L.length := by omega
      have P := Lib.hid (within_none H0.out)
      go_wp2
      go_ret
      exact ⟨by rw [P.out]; rfl, rfl⟩
theorem eq_stp_in (W : World) (d : Nat) (g h : Wk.Stp) : Sem.run Try.prog (Op.equalIn (d + 2) 47 (stpV g) (stpV h)) W = .ok (g.s == h.s && (g.f == h.f && g.t == h.t)) W := by
  cases h1 : g.s == h.s <;> cases h2 : g.f == h.f <;> cases h3 : g.t == h.t <;> go_simp
theorem stpB_eq (g h : Wk.Stp) : (g.s == h.s && (g.f == h.f && g.t == h.t)) = decide (g = h) := by
  rw [Bool.eq_iff_iff]
  obtain ⟨a, b, c⟩ := g
  obtain ⟨a', b', c'⟩ := h
  simp
theorem ne_stps (W : World) (g h : Wk.Stp) : Sem.run Try.prog (binOp .neq 47 (stpV g) (stpV h)) W = .ok (.bool (!decide (g = h))) W := by
  rw [run_neq_struct, show (10000 : Nat) = 9998 + 2 from rfl, eq_stp_in, stpB_eq]; rfl
theorem bin_stps (W : World) (g h : Wk.Stp) : Sem.run Try.prog (binOp .eql 47 (stpV g) (stpV h)) W = .ok (.bool (decide (g = h))) W := by
  rw [run_eql_struct, show (10000 : Nat) = 9998 + 2 from rfl, eq_stp_in, stpB_eq]; rfl
end Go.Proofs.Ytfmpjljddfaggaa
/-
  The walks of the program's layer 6: a section's ends, and one of them.
-/
namespace Go.Proofs.Ytfmpjljddfaggaa
open Go.RowKit

/-- A section's ends, and how many there are of them. -/
def endsAt (p : Pl.Plan) (s : Int) : Pl.Sec × Nat :=
  match Wk.secAt p s with
  | none => (⟨[], false, 0, ⟨0, 0, 0⟩, ⟨0, 0, 0⟩, ⟨0, 0, 0⟩⟩, 0)
  | some x => (x, if x.pt then 3 else 2)
theorem endsAt_le (p : Pl.Plan) (s : Int) : (endsAt p s).2 ≤ 3 := by
  unfold endsAt
  split
  · exact Nat.zero_le _
  · split
    · exact Nat.le_refl _
    · exact Nat.le_succ _
theorem endOf_ends (p : Pl.Plan) (s e : Int) : Wk.endOf p s e = if 0 ≤ e ∧ e < ((endsAt p s).2 : Int) then some ((endsAt p s).1.get e.toNat) else none := by
  unfold Wk.endOf endsAt
  cases Wk.secAt p s with
  | none =>
    simp only
    rw [if_neg (by omega)]
  | some x =>
    simp only
    unfold Wk.isEnd
    cases x.pt
    · simp only [Bool.or_false, Bool.and_eq_true, decide_eq_true_eq, Bool.false_eq_true, if_false]
      by_cases h : 0 ≤ e ∧ e ≤ 2 ∧ e ≠ 2
      · rw [if_pos h, if_pos (by omega)]
      · rw [if_neg h, if_neg (by omega)]
    · simp only [Bool.or_true, Bool.and_true, Bool.and_eq_true, decide_eq_true_eq, if_true]
      by_cases h : 0 ≤ e ∧ e ≤ 2
      · rw [if_pos h, if_pos (by omega)]
      · rw [if_neg h, if_neg (by omega)]
abbrev wkEV (x : Pl.Sec) : Value := .agg #[.int .i64 x.e0.goes, .int .i64 x.e0.at_, .int .i64 x.e0.sig, .int .i64 x.e1.goes, .int .i64 x.e1.at_, .int .i64 x.e1.sig, .int .i64 x.e2.goes, .int .i64 x.e2.at_, .int .i64 x.e2.sig]
abbrev wkEO (x : Pl.Sec) : Obj := .cells #[.int .i64 x.e0.goes, .int .i64 x.e0.at_, .int .i64 x.e0.sig, .int .i64 x.e1.goes, .int .i64 x.e1.at_, .int .i64 x.e1.sig, .int .i64 x.e2.goes, .int .i64 x.e2.at_, .int .i64 x.e2.sig] 51
abbrev wkEZ : Obj := .cells #[.int .i64 0, .int .i64 0, .int .i64 0, .int .i64 0, .int .i64 0, .int .i64 0, .int .i64 0, .int .i64 0, .int .i64 0] 51
abbrev wkSO (x : Pl.Sec) : Obj := .cells #[.string (txt x.name), .bool x.pt, .int .i64 x.len, .int .i64 x.e0.goes, .int .i64 x.e0.at_, .int .i64 x.e0.sig, .int .i64 x.e1.goes, .int .i64 x.e1.at_, .int .i64 x.e1.sig, .int .i64 x.e2.goes, .int .i64 x.e2.at_, .int .i64 x.e2.sig] 53
/-- A section's ends that a call leaves. -/
def EndsAre (x : Pl.Sec × Nat) (w : World) (e : Ending) (w' : World) : Prop := e = .returned (.tuple #[wkEV x.1, .int .i64 x.2]) ∧ Below w.heap.size w w'
theorem three_new (w : World) (a b c : Obj) : (((w.alloc a).alloc b).alloc c).heap[w.heap.size]? = some a ∧ (((w.alloc a).alloc b).alloc c).heap[w.heap.size + 1]? = some b ∧ (((w.alloc a).alloc b).alloc c).heap[w.heap.size + 2]? = some c ∧ Below w.heap.size w (((w.alloc a).alloc b).alloc c) := by
  have s1 : (w.alloc a).heap.size = w.heap.size + 1 := by simp
  have s2 : ((w.alloc a).alloc b).heap.size = w.heap.size + 2 := by simp
  refine ⟨?_, ?_, ?_, (((Below.refl _ _).alloc (Nat.le_refl _) _).alloc (by omega) _).alloc (by omega) _⟩
  · rw [heap_alloc_old _ _ (by omega), heap_alloc_old _ _ (by omega)]; exact heap_alloc_new _ _
  · rw [heap_alloc_old _ _ (by omega), ← s1]; exact heap_alloc_new _ _
  · rw [← s2]; exact heap_alloc_new _ _
theorem row9 {w : World} {g : Nat} {a b c d e f i j k : Value} {t : TypeId} (h : w.heap[g]? = some (.cells #[a, b, c, d, e, f, i, j, k] t (0, 0))) :
    (w.cell? ⟨g, 0, none⟩ = some a ∧ w.cell? ⟨g, 1, none⟩ = some b ∧ w.cell? ⟨g, 2, none⟩ = some c ∧ w.cell? ⟨g, 3, none⟩ = some d ∧ w.cell? ⟨g, 4, none⟩ = some e ∧ w.cell? ⟨g, 5, none⟩ = some f ∧ w.cell? ⟨g, 6, none⟩ = some i ∧ w.cell? ⟨g, 7, none⟩ = some j ∧ w.cell? ⟨g, 8, none⟩ = some k) ∧
    (w.frozen? ⟨g, 0, none⟩ = false ∧ w.frozen? ⟨g, 1, none⟩ = false ∧ w.frozen? ⟨g, 2, none⟩ = false ∧ w.frozen? ⟨g, 3, none⟩ = false ∧ w.frozen? ⟨g, 4, none⟩ = false ∧ w.frozen? ⟨g, 5, none⟩ = false ∧ w.frozen? ⟨g, 6, none⟩ = false ∧ w.frozen? ⟨g, 7, none⟩ = false ∧ w.frozen? ⟨g, 8, none⟩ = false) ∧ g < w.heap.size :=
  ⟨⟨cell_of_row w g 0 _ t _ h, cell_of_row w g 1 _ t _ h, cell_of_row w g 2 _ t _ h, cell_of_row w g 3 _ t _ h, cell_of_row w g 4 _ t _ h, cell_of_row w g 5 _ t _ h, cell_of_row w g 6 _ t _ h, cell_of_row w g 7 _ t _ h, cell_of_row w g 8 _ t _ h⟩,
    ⟨frozen_of_row w g 0 _ t h, frozen_of_row w g 1 _ t h, frozen_of_row w g 2 _ t h, frozen_of_row w g 3 _ t h, frozen_of_row w g 4 _ t h, frozen_of_row w g 5 _ t h, frozen_of_row w g 6 _ t h, frozen_of_row w g 7 _ t h, frozen_of_row w g 8 _ t h⟩, (Array.getElem?_eq_some_iff.1 h).1⟩
/-- The cells of a section that lies whole. -/
theorem row_sec {w : World} {g : Nat} {x : Pl.Sec} (h : w.heap[g]? = some (wkSO x)) :
    w.cell? ⟨g, 1, none⟩ = some (.bool x.pt) ∧ w.cell? ⟨g, 3, none⟩ = some (.int .i64 x.e0.goes) ∧ w.cell? ⟨g, 4, none⟩ = some (.int .i64 x.e0.at_) ∧ w.cell? ⟨g, 5, none⟩ = some (.int .i64 x.e0.sig) ∧ w.cell? ⟨g, 6, none⟩ = some (.int .i64 x.e1.goes) ∧ w.cell? ⟨g, 7, none⟩ = some (.int .i64 x.e1.at_) ∧
      w.cell? ⟨g, 8, none⟩ = some (.int .i64 x.e1.sig) ∧ w.cell? ⟨g, 9, none⟩ = some (.int .i64 x.e2.goes) ∧ w.cell? ⟨g, 10, none⟩ = some (.int .i64 x.e2.at_) ∧ w.cell? ⟨g, 11, none⟩ = some (.int .i64 x.e2.sig) ∧ g < w.heap.size :=
  ⟨cell_of_row w g 1 _ _ _ h, cell_of_row w g 3 _ _ _ h, cell_of_row w g 4 _ _ _ h, cell_of_row w g 5 _ _ _ h, cell_of_row w g 6 _ _ _ h, cell_of_row w g 7 _ _ _ h, cell_of_row w g 8 _ _ _ h, cell_of_row w g 9 _ _ _ h, cell_of_row w g 10 _ _ _ h, cell_of_row w g 11 _ _ _ h, (Array.getElem?_eq_some_iff.1 h).1⟩
set_option maxHeartbeats 8000000 in
set_option maxRecDepth 100000 in
theorem pwEnds_any (p : Pl.Plan) (A : Option Addr) (c : Nat) (A' : Option Addr) (c' : Nat) (s : Int) (w : World) (h : PlanIn w p A A') :
    Calls Try.prog 52 #[planV p A c A' c', .int .i64 s] w (EndsAre (endsAt p s) w) := by
  --[
  obtain ⟨R0, R1, XX, XS⟩ := two_blocks w (planO p A c A' c') wkEZ
  have X0 := Lib.hid XX
  obtain ⟨⟨-, -, -, -, p4, -⟩, -, gp⟩ := row6 R0
  obtain ⟨⟨z0, z1, z2, z3, z4, z5, z6, z7, z8⟩, ⟨f0, f1, f2, f3, f4, f5, f6, f7, f8⟩, gz⟩ := row9 R1
  have HI := Lib.hid (h.below XX)
  clear R0 R1 XX h
  rcases Wk.sec_ways p s with ⟨hs, hn⟩ | ⟨k, rfl, ⟨hk, hn⟩ | ⟨x, hx, hn⟩⟩
  · have D : decide (s < 0) = true := dec_t hs
    have E : endsAt p s = (⟨[], false, 0, ⟨0, 0, 0⟩, ⟨0, 0, 0⟩, ⟨0, 0, 0⟩⟩, 0) := by unfold endsAt; rw [hn]
    rw [E]
    clear hs hn E
    go_enter Try.func52, Try.ntmps52
    go_wp2_with fail
    refine bodyPost_ret ?_ rfl ⟨rfl, ?_⟩
    · simp [results, Try.results52, go_sem, *]
    · (repeat (with_reducible refine Below.setCell ?_ (by exact Nat.le_succ _) _)); exact X0.out
  · have D0 : decide ((k : Int) < 0) = false := dec_f (by omega)
    have D1 : decide ((p.secs.length : Int) ≤ (k : Int)) = true := dec_t (by omega)
    have E : endsAt p k = (⟨[], false, 0, ⟨0, 0, 0⟩, ⟨0, 0, 0⟩, ⟨0, 0, 0⟩⟩, 0) := by unfold endsAt; rw [hn]
    rw [E]
    clear hn E
    go_enter Try.func52, Try.ntmps52
    go_wp2_with fail
    refine bodyPost_ret ?_ rfl ⟨rfl, ?_⟩
    · simp [results, Try.results52, go_sem, *]
    · (repeat (with_reducible refine Below.setCell ?_ (by exact Nat.le_succ _) _)); exact X0.out
  · have hlt : k < p.secs.length := (List.getElem?_eq_some_iff.1 hx).1
    have D0 : decide ((k : Int) < 0) = false := dec_f (by omega)
    have D1 : decide ((p.secs.length : Int) ≤ (k : Int)) = false := dec_f (by omega)
    have N1 : ¬ p.secs.length ≤ k := by omega
    have E : endsAt p k = (x, if x.pt then 3 else 2) := by unfold endsAt; rw [hn]
    rw [E]
    obtain ⟨b, o, rfl, hb, on⟩ := sec_cells HI.out.1 hx
    obtain ⟨a0, a1, a2, a3, a4, a5, a6, a7, a8, a9, a10, a11⟩ := sec_on on
    obtain ⟨-, R1, R2, -⟩ := three_new w (planO p (some ⟨b, o, none⟩) c A' c') wkEZ (wkSO x)
    obtain ⟨⟨y0, y1, y2, y3, y4, y5, y6, y7, y8⟩, ⟨q0, q1, q2, q3, q4, q5, q6, q7, q8⟩, gy⟩ := row9 R1
    obtain ⟨t1, t3, t4, t5, t6, t7, t8, t9, t10, t11, gt⟩ := row_sec R2
    clear hn on hx E R1 R2 X0
    cases hpt : x.pt
    · rw [hpt] at a1 t1
      simp only [Bool.false_eq_true, if_false]
      clear hpt
      go_enter Try.func52, Try.ntmps52
      go_wp2_with fail
      refine bodyPost_ret ?_ rfl ⟨rfl, ?_⟩
      · simp [results, Try.results52, go_sem, *]
      · exact (three_new w _ _ _).2.2.2
    · rw [hpt] at a1 t1
      simp only [if_true]
      clear hpt
      go_enter Try.func52, Try.ntmps52
      go_wp2_with fail
      refine bodyPost_ret ?_ rfl ⟨rfl, ?_⟩
      · simp [results, Try.results52, go_sem, *]
      · exact (three_new w _ _ _).2.2.2
  --]
/-- Ends that lie in a block of their own, by number. -/
theorem ends_at3 {w : World} {g : Nat} {x : Pl.Sec} (h : w.heap[g]? = some (wkEO x)) {e : Nat} (he : e < 3) : w.cell? ⟨g, e * 3, none⟩ = some (.int .i64 (x.get e).goes) ∧ w.cell? ⟨g, e * 3 + 1, none⟩ = some (.int .i64 (x.get e).at_) ∧ w.cell? ⟨g, e * 3 + 2, none⟩ = some (.int .i64 (x.get e).sig) := by
  obtain ⟨⟨a3, a4, a5, a6, a7, a8, a9, a10, a11⟩, -, -⟩ := row9 h
  have : e = 0 ∨ e = 1 ∨ e = 2 := by omega
  rcases this with rfl | rfl | rfl
  · exact ⟨a3, a4, a5⟩
  · exact ⟨a6, a7, a8⟩
  · exact ⟨a9, a10, a11⟩
set_option maxHeartbeats 8000000 in
set_option maxRecDepth 100000 in
theorem pwTip_any (p : Pl.Plan) (A : Option Addr) (c : Nat) (A' : Option Addr) (c' : Nat) (s e : Int) (w : World) (h : PlanIn w p A A') :
    Calls Try.prog 34 #[planV p A c A' c', .int .i64 s, .int .i64 e] w (EndIs (Wk.endOf p s e) w) := by
  --[
  obtain ⟨R0, R1, XX, XS⟩ := two_blocks w (planO p A c A' c') endZ
  have X0 := Lib.hid XX
  obtain ⟨⟨p0, p1, p2, p3, p4, p5⟩, -, gp⟩ := row6 R0
  have HR1 := Lib.hid R1
  have EN := Lib.hid (pwEnds_any p A c A' c' s _ (h.below XX))
  have hle := endsAt_le p s
  rw [endOf_ends]
  clear R0 R1 XX h
  generalize endsAt p s = q at EN hle
  obtain ⟨x, n⟩ := q
  simp only at hle
  have fin2 : ∀ w1, Below ((w.alloc (planO p A c A' c')).alloc endZ).heap.size ((w.alloc (planO p A c A' c')).alloc endZ) w1 → (w1.alloc (wkEO x)).heap[w.heap.size + 1]? = some endZ ∧ (w1.alloc (wkEO x)).heap[w1.heap.size]? = some (wkEO x) ∧ Below w.heap.size w (w1.alloc (wkEO x)) := fun w1 hb => by
    have hsz := hb.size
    refine ⟨?_, heap_alloc_new _ _, (X0.out.trans (hb.mono X0.out.size)).alloc (X0.out.trans (hb.mono X0.out.size)).size _⟩
    rw [heap_alloc_old _ _ (by omega), hb.block _ (by omega)]
    exact HR1.out
  have F2 := Lib.hid fin2
  clear fin2 HR1
  by_cases h0 : e < 0
  · have D2 : decide (e < 0) = true := dec_t h0
    rw [if_neg (by omega)]
    clear h0
    go_enter Try.func34, Try.ntmps34
    go_wp2_with fail
    refine EN.out.mono ?_; rintro e w1 ⟨rfl, hb1⟩
    obtain ⟨R1, R2, B2⟩ := F2.out w1 hb1
    obtain ⟨⟨z0, z1, z2⟩, ⟨f0, f1, f2⟩, gz⟩ := row3 R1
    have H2 := Lib.hid B2
    clear p0 p1 p2 p3 p4 p5 hb1 R1 R2 B2 F2 EN
    go_wp2_with fail
    refine bodyPost_ret ?_ rfl ⟨rfl, ?_⟩
    · simp [results, Try.results34, go_sem, *]
    · (repeat (with_reducible refine Below.setCell ?_ (by exact Nat.le_succ _) _)); exact H2.out
  have D2 : decide (e < 0) = false := dec_f h0
  obtain ⟨j, rfl⟩ : ∃ j : Nat, e = j := ⟨e.toNat, by omega⟩
  by_cases h2 : n ≤ j
  · have D3 : decide ((n : Int) ≤ (j : Int)) = true := dec_t (by omega)
    rw [if_neg (by simp only; omega)]
    clear h0
    go_enter Try.func34, Try.ntmps34
    go_wp2_with fail
    refine EN.out.mono ?_; rintro e w1 ⟨rfl, hb1⟩
    obtain ⟨R1, R2, B2⟩ := F2.out w1 hb1
    obtain ⟨⟨z0, z1, z2⟩, ⟨f0, f1, f2⟩, gz⟩ := row3 R1
    have H2 := Lib.hid B2
    clear p0 p1 p2 p3 p4 p5 hb1 R1 R2 B2 F2 EN
    go_wp2_with fail
    refine bodyPost_ret ?_ rfl ⟨rfl, ?_⟩
    · simp [results, Try.results34, go_sem, *]
    · (repeat (with_reducible refine Below.setCell ?_ (by exact Nat.le_succ _) _)); exact H2.out
  · have D3 : decide ((n : Int) ≤ (j : Int)) = false := dec_f (by omega)
    have N3 : ¬ n ≤ j := h2
    have j3 : (j : Int) < 3 := by omega
    have j3' : j < 3 := by omega
    rw [if_pos (by simp only; omega), Int.toNat_natCast]
    obtain ⟨⟨y0, y1, y2⟩, hy⟩ : ∃ y, y = x.get j := ⟨_, rfl⟩
    have HY := Lib.hid hy.symm
    simp only
    rw [← hy]
    clear h0 h2 hy
    go_enter Try.func34, Try.ntmps34
    go_wp2_with fail
    refine EN.out.mono ?_; rintro e w1 ⟨rfl, hb1⟩
    obtain ⟨R1, R2, B2⟩ := F2.out w1 hb1
    obtain ⟨⟨z0, z1, z2⟩, ⟨f0, f1, f2⟩, gz⟩ := row3 R1
    obtain ⟨k0, k1, k2⟩ := ends_at3 R2 j3'
    have gk := (Array.getElem?_eq_some_iff.1 R2).1
    rw [HY.out] at k0 k1 k2
    simp only at k0 k1 k2
    have H2 := Lib.hid B2
    clear p0 p1 p2 p3 p4 p5 hb1 R1 R2 B2 F2 EN
    go_wp2_with fail
    refine bodyPost_ret ?_ rfl ⟨rfl, ?_⟩
    · simp [results, Try.results34, go_sem, *]
    · (repeat (with_reducible refine Below.setCell ?_ (by exact Nat.le_succ _) _)); exact H2.out
  --]
end Go.Proofs.Ytfmpjljddfaggaa
/-
  The walks of the program's layer 6: which position a step asks, whether steps go through a section.
-/
namespace Go.Proofs.Ytfmpjljddfaggaa
open Go.RowKit

set_option maxHeartbeats 4000000 in
set_option maxRecDepth 100000 in
/-- Is a step of the section whose number lies in that cell? -/
theorem pStepOf (x : Wk.Stp) (s : Int) (g : Nat) (W : World) (hg : g < W.heap.size) (hc : W.cell? ⟨g, 0, none⟩ = some (.int .i64 s)) :
    Calls Try.prog 63 #[stpV x, .pointer (some ⟨g, 0, none⟩)] W fun e w' => e = .returned (.bool (x.s == s)) ∧ Below W.heap.size W w' := by
  --[
  obtain ⟨a, b, d⟩ := x
  have hne : g ≠ W.heap.size := by omega
  have X := Lib.hid ((Below.refl W.heap.size W).alloc (Nat.le_refl _) (stpO ⟨a, b, d⟩))
  show Calls Try.prog 63 #[.agg #[.int .i64 a, .int .i64 b, .int .i64 d], .pointer (some ⟨g, 0, none⟩)] W fun e w' => e = .returned (.bool (a == s)) ∧ Below W.heap.size W w'
  cases h1 : (a == s)
  · go_enter Try.func63, Try.ntmps63
    go_wp2
    go_ret
    exact ⟨rfl, X.out⟩
  · go_enter Try.func63, Try.ntmps63
    go_wp2
    go_ret
    exact ⟨rfl, X.out⟩
  --]
/-- The number that says whether a list has one: below 0 if it has none. -/
def HitIs (b : Bool) (w : World) (e : Ending) (w' : World) : Prop := ∃ i : Int, e = .returned (.int .i64 i) ∧ (b = true → decide (0 ≤ i) = true) ∧ (b = false → i = -1) ∧ Below w.heap.size w w'
set_option maxHeartbeats 4000000 in
set_option maxRecDepth 100000 in
theorem pIndexStep (A : Option Addr) (c : Nat) (L : List Wk.Stp) (s : Int) (g : Nat) (w : World) (h : LStp.Row w A L) (hl : L.length ≤ 1000000) (hg : g < w.heap.size) (hc : w.cell? ⟨g, 0, none⟩ = some (.int .i64 s)) :
    Calls Try.prog 64 #[.slice A L.length c, .func (.func 63) #[] #[.pointer (some ⟨g, 0, none⟩)]] w (HitIs (Wk.within L s) w) := by
  --[
  have eg : ∀ args w, (callFunc 63 args).run Try.prog w = .ok (.enter 63 args) w := enters_of Try.func63 (by kernel_rfl) rfl
  have IA := Lib.hid h
  have CL := Lib.hid (fun x W (hb : Below w.heap.size w W) => pStepOf x s g W (Nat.lt_of_lt_of_le hg hb.size) ((hb.cell (p := ⟨g, 0, none⟩) hg).trans hc))
  clear h hc
  go_enter Try.func64, Try.ntmps64
  go_wp2
  go_loopg [5, 8] L.length (fun gg _ s8 wr => ∃ k : Nat, k ≤ L.length ∧ L.length - k ≤ gg ∧ s8 = .int .i64 k ∧ Below w.heap.size w wr ∧ ∀ j < k, ∀ t, L[j]? = some t → t.s ≠ s)
  case atStart => exact ⟨0, Nat.zero_le _, by omega, rfl, Below.refl _ w, fun j hj => absurd hj (Nat.not_lt_zero _)⟩
  case round =>
    obtain ⟨k, hk, hgg, rfl, hB, h0⟩ := hrel
    have HB := Lib.hid hB
    have H0 := Lib.hid h0
    clear hB h0
    by_cases hlt : k < L.length
    · have d1 : decide ((k : Int) < (L.length : Int)) = true := dec_t (by omega)
      have hx := List.getElem?_eq_getElem hlt
      obtain ⟨b, o, rfl, hb, on⟩ := (IA.out.below rfl HB.out).at hlt
      generalize L[k] = x at hx on
      obtain ⟨a0, a1, a2⟩ := stp_on on
      rw [show k * LStp.m = k * 3 from rfl] at a0 a1 a2
      have HX := Lib.hid hx
      have CX := Lib.hid (CL.out x wr HB.out)
      clear on hx
      by_cases he : x.s = s
      · have h1 : (x.s == s) = true := by rw [beq_iff_eq]; exact he
        have P := Lib.hid (within_at HX.out he)
        rw [h1] at CX
        clear he h1
        go_wp2_with (go_at_fn 63; refine CX.out.mono ?_; rintro e w' ⟨rfl, hb'⟩; have HB2 := Lib.hid (HB.out.trans (hb'.mono HB.out.size)); clear hb')
        go_ret
        exact ⟨(k : Int), rfl, (fun _ => dec_t (by omega)), (fun h => absurd (P.out.symm.trans h) (by decide)), HB2.out⟩
      · have h1 : (x.s == s) = false := by rw [beq_eq_false_iff_ne]; exact he
        have N := Lib.hid (fun j (hj : j < k + 1) t (ht : L[j]? = some t) => (show t.s ≠ s from by
          by_cases hjk : j = k
          · subst hjk
            rw [HX.out] at ht
            cases ht
            exact he
          · exact H0.out j (by omega) t ht))
        rw [h1] at CX
        clear he h1
        go_wp2_with (go_at_fn 63; refine CX.out.mono ?_; rintro e w' ⟨rfl, hb'⟩; have HB2 := Lib.hid (HB.out.trans (hb'.mono HB.out.size)); clear hb')
        go_roundg (L.length - (k + 1))
        case measure => omega
        case rel => exact ⟨k + 1, by omega, by omega, by go_num, HB2.out, N.out⟩
    · obtain rfl : k = L.length := by omega
      have P := Lib.hid (within_none H0.out)
      go_wp2
      go_ret
      exact ⟨-1, rfl, (fun h => absurd (P.out.symm.trans h) (by decide)), (fun _ => rfl), HB.out⟩
  --]
set_option maxHeartbeats 4000000 in
set_option maxRecDepth 100000 in
theorem pHasStep (A : Option Addr) (c : Nat) (L : List Wk.Stp) (s : Int) (g : Nat) (w : World) (h : LStp.Row w A L) (hl : L.length ≤ 1000000) (hg : g < w.heap.size) (hc : w.cell? ⟨g, 0, none⟩ = some (.int .i64 s)) :
    Calls Try.prog 62 #[.slice A L.length c, .func (.func 63) #[] #[.pointer (some ⟨g, 0, none⟩)]] w (OneIs (.bool (Wk.within L s)) w) := by
  --[
  have HC := Lib.hid (pIndexStep A c L s g w h hl hg hc)
  clear h hc hg
  cases hb : Wk.within L s with
  | true =>
    rw [hb] at HC
    clear hb
    go_enter Try.func62, Try.ntmps62
    go_wp2_with fail
    refine HC.out.mono ?_; rintro e w' ⟨i, rfl, h1, -, hb'⟩
    have D := h1 rfl
    have HB := Lib.hid hb'
    clear h1 hb' HC
    go_wp2_with fail
    go_ret
    exact ⟨rfl, HB.out⟩
  | false =>
    rw [hb] at HC
    clear hb
    go_enter Try.func62, Try.ntmps62
    go_wp2_with fail
    refine HC.out.mono ?_; rintro e w' ⟨i, rfl, -, h2, hb'⟩
    obtain rfl := h2 rfl
    have HB := Lib.hid hb'
    clear h2 hb' HC
    go_wp2_with fail
    go_ret
    exact ⟨rfl, HB.out⟩
  --]
set_option maxHeartbeats 4000000 in
set_option maxRecDepth 100000 in
theorem pwWithin_any (A : Option Addr) (c : Nat) (L : List Wk.Stp) (s : Int) (w : World) (h : LStp.Row w A L) (hl : L.length ≤ 1000000) :
    Calls Try.prog 53 #[.slice A L.length c, .int .i64 s] w (OneIs (.bool (Wk.within L s)) w) := by
  --[
  have hb0 := (Below.refl w.heap.size w).alloc (Nat.le_refl _) (.cells #[.int .i64 s] 3)
  have HC := Lib.hid (pHasStep A c L s w.heap.size _ (h.below rfl hb0) hl (by simp) (cell_of_row _ _ 0 _ _ _ (heap_alloc_new w (.cells #[.int .i64 s] 3))))
  have HB0 := Lib.hid hb0
  clear h hb0
  go_enter Try.func53, Try.ntmps53
  go_wp2_with fail
  refine HC.out.mono ?_; rintro e w' ⟨rfl, hb'⟩
  go_wp2_with fail
  go_ret
  exact ⟨rfl, HB0.out.trans (hb'.mono HB0.out.size)⟩
  --]
end Go.Proofs.Ytfmpjljddfaggaa
/-
  The walks of the program's layer 6: where an end leads, what stands there, the steps through a section.
-/
namespace Go.Proofs.Ytfmpjljddfaggaa
open Go.RowKit

set_option maxHeartbeats 8000000 in
set_option maxRecDepth 100000 in
theorem pwNext_any (p : Pl.Plan) (A : Option Addr) (c : Nat) (A' : Option Addr) (c' : Nat) (s e : Int) (w : World) (h : PlanIn w p A A') (_hl : p.secs.length ≤ 24) :
    Calls Try.prog 23 #[planV p A c A' c', .int .i64 s, .int .i64 e] w (NextIs (Wk.next p s e) w) := by
  --[
  have R0 := heap_alloc_new w (planO p A c A' c')
  have XX := (Below.refl w.heap.size w).alloc (Nat.le_refl _) (planO p A c A' c')
  have X0 := Lib.hid XX
  obtain ⟨⟨p0, p1, p2, p3, p4, p5⟩, -, gp⟩ := row6 R0
  have AT := Lib.hid (pwTip_any p A c A' c' s e _ (h.below XX))
  have E : Wk.next p s e = match Wk.endOf p s e with | none => (0, 0, false) | some x => if x.goes < 0 then (0, 0, false) else (x.goes, x.at_, true) := rfl
  rw [E]
  clear R0 XX h E
  cases hx : Wk.endOf p s e with
  | none =>
    rw [hx] at AT
    clear hx
    go_enter Try.func23, Try.ntmps23
    go_wp2_with fail
    refine AT.out.mono ?_; rintro e w1 ⟨rfl, hb1⟩
    have B1 := Lib.hid ((X0.out.trans (hb1.mono X0.out.size)).alloc (X0.out.trans (hb1.mono X0.out.size)).size endZ)
    clear p0 p1 p2 p3 p4 p5 hb1
    go_wp2_with fail
    refine bodyPost_ret ?_ rfl ⟨rfl, B1.out⟩
    simp [results, Try.results23, go_sem]
  | some y =>
    rw [hx] at AT
    obtain ⟨y0, y1, y2⟩ := y
    by_cases h0 : y0 < 0
    · have D : decide (y0 < 0) = true := dec_t h0
      simp only
      rw [if_pos h0]
      clear hx h0
      go_enter Try.func23, Try.ntmps23
      go_wp2_with fail
      refine AT.out.mono ?_; rintro e w1 ⟨rfl, hb1⟩
      have B1 := Lib.hid ((X0.out.trans (hb1.mono X0.out.size)).alloc (X0.out.trans (hb1.mono X0.out.size)).size (.cells #[.int .i64 y0, .int .i64 y1, .int .i64 y2] 50))
      obtain ⟨⟨k0, k1, k2⟩, -, -⟩ := row3 (heap_alloc_new w1 (.cells #[.int .i64 y0, .int .i64 y1, .int .i64 y2] 50))
      clear p0 p1 p2 p3 p4 p5 hb1
      go_wp2_with fail
      refine bodyPost_ret ?_ rfl ⟨rfl, B1.out⟩
      simp [results, Try.results23, go_sem]
    · have D : decide (y0 < 0) = false := dec_f h0
      simp only
      rw [if_neg h0]
      clear hx h0
      go_enter Try.func23, Try.ntmps23
      go_wp2_with fail
      refine AT.out.mono ?_; rintro e w1 ⟨rfl, hb1⟩
      have B1 := Lib.hid ((X0.out.trans (hb1.mono X0.out.size)).alloc (X0.out.trans (hb1.mono X0.out.size)).size (.cells #[.int .i64 y0, .int .i64 y1, .int .i64 y2] 50))
      obtain ⟨⟨k0, k1, k2⟩, -, -⟩ := row3 (heap_alloc_new w1 (.cells #[.int .i64 y0, .int .i64 y1, .int .i64 y2] 50))
      clear p0 p1 p2 p3 p4 p5 hb1
      go_wp2_with fail
      go_quiet (fail)
      go_wp2_with fail
      refine bodyPost_ret ?_ rfl ⟨rfl, below_drewN B1.out _⟩
      simp [results, Try.results23, go_sem]
  --]
theorem infoStp : (Try.prog.info? 47).map (fun i => (i.zero, i.size, i.bytes)) = some (some (.agg #[.int .i64 0, .int .i64 0, .int .i64 0]), 3, 24) := by kernel_rfl
/-- The first k steps of a section from its end 0. -/
def legsTo (s : Int) (k : Nat) : List Wk.Stp := (List.range k).map fun (i : Nat) => (⟨s, 0, (i : Int) + 1⟩ : Wk.Stp)
theorem legsTo_succ (s : Int) (k : Nat) : legsTo s (k + 1) = legsTo s k ++ [⟨s, 0, (k : Int) + 1⟩] := by
  unfold legsTo
  rw [List.range_succ, List.map_append]; rfl
theorem legsTo_len (s : Int) (k : Nat) : (legsTo s k).length = k := by unfold legsTo; rw [List.length_map, List.length_range]
theorem outs_ends (p : Pl.Plan) (s f : Int) : Wk.outs p s f = if f < 0 ∨ ((endsAt p s).2 : Int) ≤ f then [] else if 0 < f then [⟨s, f, 0⟩] else legsTo s ((endsAt p s).2 - 1) := by
  unfold Wk.outs endsAt
  cases Wk.secAt p s with
  | none =>
    simp only
    rw [if_pos (by omega)]
  | some x =>
    simp only
    cases x.pt
    · simp only [Bool.false_eq_true, if_false]
      by_cases h0 : f = 0
      · subst h0; rfl
      by_cases h1 : f = 1
      · subst h1; rfl
      rw [if_neg (by omega), if_pos (by omega)]
    · simp only [if_true]
      by_cases h0 : f = 0
      · subst h0; rfl
      by_cases h1 : f = 1 ∨ f = 2
      · rw [if_neg h0, if_pos h1, if_neg (by omega), if_pos (by omega)]
      rw [if_neg h0, if_neg h1, if_pos (by omega)]
/-- Steps of the call's own, while they are found. -/
def LegSt (w wr : World) (v : Value) (L : List Wk.Stp) : Prop := Below w.heap.size w wr ∧ wr.ownsRow w.heap.size 47 LStp.m v L.length (LStp.all L)
end Go.Proofs.Ytfmpjljddfaggaa
/-
  Plain mathematics of layer 7: ways from a signal, as a search finds them. No program is named here.
-/
namespace Go.Proofs.Ytfmpjljddfaggaa.Cr
open Go Pl Wk

structure Way where
  steps : List Stp
  exit : Int
deriving DecidableEq
/-- A search: how many sections it entered, whether it went too far, what it found. -/
structure HSt where
  tries : Nat
  long : Bool
  out : List Way
def came (h : HSt) : HSt := ⟨h.tries + 1, h.long || decide (400 < h.tries + 1), h.out⟩
/-- Does the search turn back where it enters? -/
def turns (b s : Int) (st : List Stp) (h : HSt) : Bool := (came h).long || (decide (s = b) || within st s)
/-- Does a way end behind that step? -/
def lasts (p : Plan) (s : Int) (x : Stp) : Bool := decide (0 ≤ signal p s x.t) || !(next p s x.t).2.2
def gone (p : Plan) (go : Int → Int → List Stp → HSt → HSt) (s : Int) (st : List Stp) (h : HSt) (x : Stp) : HSt :=
  if lasts p s x then ⟨h.tries, h.long, h.out ++ [⟨st ++ [x], signal p s x.t⟩]⟩ else go (next p s x.t).1 (next p s x.t).2.1 (st ++ [x]) h
def enter (p : Plan) (b : Int) : Nat → Int → Int → List Stp → HSt → HSt
  | 0, s, _, st, h => if turns b s st h then came h else ⟨h.tries + 1, true, h.out⟩
  | k + 1, s, f, st, h => if turns b s st h then came h else (outs p s f).foldl (gone p (enter p b k) s st) (came h)
def hunt0 : HSt := ⟨0, false, []⟩
def hunt (p : Plan) (g : Sig) : HSt := if (next p g.sec g.en).2.2 then enter p g.sec 16 (next p g.sec g.en).1 (next p g.sec g.en).2.1 [] hunt0 else hunt0
def sigAt (p : Plan) (i : Int) : Option Sig := if i < 0 then none else p.sigs[i.toNat]?
def ofSig (p : Plan) (g : Sig) : List Way × Int := if (hunt p g).long then ([], 10) else ((hunt p g).out, 0)
/-- The ways from a signal, or the error. -/
def of (p : Plan) (i : Int) : List Way × Int :=
  match sigAt p i with
  | none => ([], 4)
  | some g => ofSig p g
theorem came_out (h : HSt) : (came h).out = h.out := rfl
theorem came_tries (h : HSt) : (came h).tries = h.tries + 1 := rfl
theorem sigAt_ways (p : Plan) (i : Int) : (i < 0 ∧ sigAt p i = none) ∨ ∃ k : Nat, i = k ∧ ((p.sigs.length ≤ k ∧ sigAt p (k : Int) = none) ∨ ∃ x, p.sigs[k]? = some x ∧ sigAt p (k : Int) = some x) := by
  by_cases h : i < 0
  · exact .inl ⟨h, by unfold sigAt; rw [if_pos h]⟩
  · refine .inr ⟨i.toNat, by omega, ?_⟩
    by_cases hk : p.sigs.length ≤ i.toNat
    · exact .inl ⟨hk, by unfold sigAt; rw [if_neg (by omega), Int.toNat_natCast, List.getElem?_eq_none hk]⟩
    · exact .inr ⟨_, List.getElem?_eq_getElem (by omega), by unfold sigAt; rw [if_neg (by omega), Int.toNat_natCast, List.getElem?_eq_getElem (by omega)]⟩
theorem fold_gone (p : Plan) (go : Int → Int → List Stp → HSt → HSt) (s : Int) (st : List Stp) (R : HSt → HSt → Prop) (hr : ∀ h, R h h) (ht : ∀ a b c, R a b → R b c → R a c)
    (hs : ∀ h x, R h (gone p go s st h x)) : ∀ (l : List Stp) (h : HSt), R h (l.foldl (gone p go s st) h)
  | [], h => hr h
  | x :: l, h => ht _ _ _ (hs h x) (fold_gone p go s st R hr ht hs l _)
/-- What is found stays found; what is too long stays so; tries are but more. -/
def Grows (a b : HSt) : Prop := a.tries ≤ b.tries ∧ (a.long = true → b.long = true) ∧ ∃ N, b.out = a.out ++ N
theorem Grows.refl (a : HSt) : Grows a a := ⟨Nat.le_refl _, id, [], (List.append_nil _).symm⟩
theorem Grows.trans {a b c : HSt} (h : Grows a b) (h' : Grows b c) : Grows a c := by
  obtain ⟨t1, l1, N1, o1⟩ := h
  obtain ⟨t2, l2, N2, o2⟩ := h'
  exact ⟨Nat.le_trans t1 t2, fun x => l2 (l1 x), N1 ++ N2, by rw [o2, o1, List.append_assoc]⟩
theorem Grows.came (h : HSt) : Grows h (came h) := ⟨Nat.le_succ _, fun x => by unfold Cr.came; simp [x], [], (List.append_nil _).symm⟩
theorem Grows.gone {p : Plan} {go : Int → Int → List Stp → HSt → HSt} (hg : ∀ s f st h, Grows h (go s f st h)) (s : Int) (st : List Stp) (h : HSt) (x : Stp) : Grows h (gone p go s st h x) := by
  unfold Cr.gone
  split
  · exact ⟨Nat.le_refl _, id, _, rfl⟩
  · exact hg _ _ _ _
theorem enter_grows (p : Plan) (b : Int) : ∀ (k : Nat) (s f : Int) (st : List Stp) (h : HSt), Grows h (enter p b k s f st h)
  | 0, s, f, st, h => by
    unfold enter
    split
    · exact Grows.came h
    · exact ⟨Nat.le_succ _, fun _ => rfl, [], (List.append_nil _).symm⟩
  | k + 1, s, f, st, h => by
    unfold enter
    split
    · exact Grows.came h
    · exact (Grows.came h).trans (fold_gone p _ s st Grows Grows.refl (fun _ _ _ => Grows.trans) (fun h x => Grows.gone (enter_grows p b k) s st h x) _ _)
theorem fold_grows (p : Plan) (b : Int) (k : Nat) (s : Int) (st : List Stp) (l : List Stp) (h : HSt) : Grows h (l.foldl (gone p (enter p b k) s st) h) :=
  fold_gone p _ s st Grows Grows.refl (fun _ _ _ => Grows.trans) (fun h x => Grows.gone (enter_grows p b k) s st h x) l h
/-- How much a search may grow: each section entered leads to two at most. -/
theorem fold_le (p : Plan) (go : Int → Int → List Stp → HSt → HSt) (s : Int) (st : List Stp) (B C : Nat) (hC : 1 ≤ C)
    (hs : ∀ s f st h, (go s f st h).tries ≤ h.tries + B ∧ (go s f st h).out.length ≤ h.out.length + C) : ∀ (l : List Stp) (h : HSt), (l.foldl (gone p go s st) h).tries ≤ h.tries + l.length * B ∧ (l.foldl (gone p go s st) h).out.length ≤ h.out.length + l.length * C
  | [], h => ⟨Nat.le_add_right _ _, Nat.le_add_right _ _⟩
  | x :: l, h => by
    obtain ⟨h1, h2⟩ := fold_le p go s st B C hC hs l (gone p go s st h x)
    have h3 : (gone p go s st h x).tries ≤ h.tries + B ∧ (gone p go s st h x).out.length ≤ h.out.length + C := by
      unfold gone
      split
      · exact ⟨Nat.le_add_right _ _, by simp only [List.length_append, List.length_singleton]; omega⟩
      · exact hs _ _ _ _
    rw [List.foldl_cons, List.length_cons, Nat.succ_mul, Nat.succ_mul]
    omega
theorem enter_le (p : Plan) (b : Int) : ∀ (k : Nat) (s f : Int) (st : List Stp) (h : HSt), (enter p b k s f st h).tries ≤ h.tries + (2 ^ (k + 1) - 1) ∧ (enter p b k s f st h).out.length ≤ h.out.length + 2 ^ k
  | 0, s, f, st, h => by
    unfold enter
    split
    · exact ⟨by rw [came_tries]; omega, by rw [came_out]; omega⟩
    · exact ⟨by simp only; omega, by simp only; omega⟩
  | k + 1, s, f, st, h => by
    have hp : 1 ≤ 2 ^ k := Nat.one_le_two_pow
    have e1 : 2 ^ (k + 1) = 2 * 2 ^ k := by rw [Nat.pow_succ, Nat.mul_comm]
    have e2 : 2 ^ (k + 1 + 1) = 2 * 2 ^ (k + 1) := by rw [Nat.pow_succ, Nat.mul_comm]
    unfold enter
    split
    · exact ⟨by rw [came_tries]; omega, by rw [came_out]; omega⟩
    · have hl := outs_len p s f
      obtain ⟨h1, h2⟩ := fold_le p (enter p b k) s st (2 ^ (k + 1) - 1) (2 ^ k) hp (fun s f st h => enter_le p b k s f st h) (outs p s f) (came h)
      rw [came_tries] at h1
      rw [came_out] at h2
      have q1 : (outs p s f).length * (2 ^ (k + 1) - 1) ≤ 2 * (2 ^ (k + 1) - 1) := Nat.mul_le_mul_right _ hl
      have q2 : (outs p s f).length * 2 ^ k ≤ 2 * 2 ^ k := Nat.mul_le_mul_right _ hl
      omega
end Go.Proofs.Ytfmpjljddfaggaa.Cr
