/-
  Texts of this claim, merged: WkRef, WkRefB, WkRefC.
-/
import Derived.Test.YtbmmcmdopekccaaMg12
import Derived.Test.YtbmmcmdopekccaaMg14
import Derived.BigQuiet
/-
  The walks of the document's answers of layer 6.
-/
namespace Go.Proofs.Ytbmmcmdopekccaa
open Go.RowKit

abbrev endZ : Obj := .cells #[.int .i64 0, .int .i64 0, .int .i64 0] 120
/-- An end, or none: what a call leaves. -/
def EndIs (x : Option Pl.En) (w : World) (e : Ending) (w' : World) : Prop := e = .returned (.tuple #[endV (x.getD ⟨0, 0, 0⟩), .bool x.isSome]) ∧ Below w.heap.size w w'
theorem row3 {w : World} {g : Nat} {a b c : Value} {t : TypeId} (h : w.heap[g]? = some (.cells #[a, b, c] t (0, 0))) :
    (w.cell? ⟨g, 0, none⟩ = some a ∧ w.cell? ⟨g, 1, none⟩ = some b ∧ w.cell? ⟨g, 2, none⟩ = some c) ∧ (w.frozen? ⟨g, 0, none⟩ = false ∧ w.frozen? ⟨g, 1, none⟩ = false ∧ w.frozen? ⟨g, 2, none⟩ = false) ∧ g < w.heap.size :=
  ⟨⟨cell_of_row w g 0 _ t _ h, cell_of_row w g 1 _ t _ h, cell_of_row w g 2 _ t _ h⟩, ⟨frozen_of_row w g 0 _ t h, frozen_of_row w g 1 _ t h, frozen_of_row w g 2 _ t h⟩, (Array.getElem?_eq_some_iff.1 h).1⟩
set_option maxHeartbeats 8000000 in
set_option maxRecDepth 100000 in
theorem rwAt_any (p : Pl.Plan) (A : Option Addr) (c : Nat) (A' : Option Addr) (c' : Nat) (s e : Int) (w : World) (h : PlanIn w p A A') :
    Calls Try.prog 63 #[planV p A c A' c', .int .i64 s, .int .i64 e] w (EndIs (Wk.endOf p s e) w) := by
  obtain ⟨R0, R1, XX, XS⟩ := two_blocks w (planO p A c A' c') endZ
  have X0 := Lib.hid XX
  obtain ⟨⟨-, -, -, -, p4, -⟩, -, gp⟩ := row6 R0
  obtain ⟨⟨z0, z1, z2⟩, ⟨f0, f1, f2⟩, gz⟩ := row3 R1
  have HI := Lib.hid (h.below XX)
  clear R0 R1 XX h
  rcases Wk.sec_ways p s with ⟨hs, hn⟩ | ⟨k, rfl, ⟨hk, hn⟩ | ⟨x, hx, hn⟩⟩
  · have D : decide (s < 0) = true := dec_t hs
    have E : Wk.endOf p s e = none := by unfold Wk.endOf; rw [hn]
    rw [E]
    clear hs hn E
    go_enter Try.func63, Try.ntmps63
    go_wp2_with fail
    refine bodyPost_ret ?_ rfl ⟨rfl, ?_⟩
    · simp [results, Try.results63, go_sem, *]
    · (repeat (with_reducible refine Below.setCell ?_ (by exact Nat.le_succ _) _)); exact X0.out
  · have D0 : decide ((k : Int) < 0) = false := dec_f (by omega)
    have D1 : decide ((p.secs.length : Int) ≤ (k : Int)) = true := dec_t (by omega)
    have E : Wk.endOf p k e = none := by unfold Wk.endOf; rw [hn]
    rw [E]
    clear hn E
    go_enter Try.func63, Try.ntmps63
    go_wp2_with fail
    refine bodyPost_ret ?_ rfl ⟨rfl, ?_⟩
    · simp [results, Try.results63, go_sem, *]
    · (repeat (with_reducible refine Below.setCell ?_ (by exact Nat.le_succ _) _)); exact X0.out
  · have hlt : k < p.secs.length := (List.getElem?_eq_some_iff.1 hx).1
    have D0 : decide ((k : Int) < 0) = false := dec_f (by omega)
    have D1 : decide ((p.secs.length : Int) ≤ (k : Int)) = false := dec_f (by omega)
    have N1 : ¬ p.secs.length ≤ k := by omega
    have E : Wk.endOf p k e = if Wk.isEnd x e then some (x.get e.toNat) else none := by unfold Wk.endOf; rw [hn]
    obtain ⟨b, o, rfl, hb, on⟩ := sec_cells HI.out.1 hx
    have HON := Lib.hid on
    obtain ⟨-, a1, -⟩ := sec_on on
    rw [E]
    clear hn E on
    by_cases h0 : e < 0
    · have D2 : decide (e < 0) = true := dec_t h0
      have E : Wk.isEnd x e = false := by unfold Wk.isEnd; rw [decide_eq_false (by omega)]; rfl
      rw [E]
      clear h0 hx E a1
      go_enter Try.func63, Try.ntmps63
      go_wp2_with fail
      refine bodyPost_ret ?_ rfl ⟨rfl, ?_⟩
      · simp [results, Try.results63, go_sem, *]
      · (repeat (with_reducible refine Below.setCell ?_ (by exact Nat.le_succ _) _)); exact X0.out
    have D2 : decide (e < 0) = false := dec_f h0
    by_cases h2 : 2 < e
    · have D3 : decide (2 < e) = true := dec_t h2
      have E : Wk.isEnd x e = false := by unfold Wk.isEnd; rw [decide_eq_false (show ¬ e ≤ 2 by omega), Bool.false_and, Bool.and_false]
      rw [E]
      clear h0 h2 hx E a1
      go_enter Try.func63, Try.ntmps63
      go_wp2_with fail
      refine bodyPost_ret ?_ rfl ⟨rfl, ?_⟩
      · simp [results, Try.results63, go_sem, *]
      · (repeat (with_reducible refine Below.setCell ?_ (by exact Nat.le_succ _) _)); exact X0.out
    have D3 : decide (2 < e) = false := dec_f h2
    obtain ⟨j, rfl⟩ : ∃ j : Nat, e = j := ⟨e.toNat, by omega⟩
    have hj : j < 3 := by omega
    by_cases hc : j = 2 ∧ x.pt = false
    · obtain ⟨rfl, hpt⟩ := hc
      have E : Wk.isEnd x (2 : Nat) = false := by unfold Wk.isEnd; rw [hpt]; rfl
      rw [hpt] at a1
      rw [E]
      clear h0 h2 hx E hpt HON D2 D3 hj
      go_enter Try.func63, Try.ntmps63
      go_wp2_with fail
      refine bodyPost_ret ?_ rfl ⟨rfl, ?_⟩
      · simp [results, Try.results63, go_sem, *]
      · (repeat (with_reducible refine Below.setCell ?_ (by exact Nat.le_succ _) _)); exact X0.out
    · obtain ⟨c0, c1, c2⟩ := on_end3 HON.out hj
      have hz : ((j : Int) = 2 → x.pt = true) := fun h => by
        cases hpt : x.pt
        · exact absurd ⟨by omega, hpt⟩ hc
        · rfl
      have E : Wk.isEnd x (j : Int) = true := by
        unfold Wk.isEnd
        rw [decide_eq_true (show (0 : Int) ≤ j by omega), decide_eq_true (show (j : Int) ≤ 2 by omega), Bool.true_and, Bool.true_and]
        by_cases hj2 : (j : Int) = 2
        · rw [hz hj2, Bool.or_true]
        · rw [decide_eq_true hj2, Bool.true_or]
      rw [E, if_pos rfl, Int.toNat_natCast]
      generalize x.get j = y at c0 c1 c2
      obtain ⟨y0, y1, y2⟩ := y
      simp only at c0 c1 c2
      have j3 : (j : Int) < 3 := by omega
      by_cases hj2 : j = 2
      · subst hj2
        rw [hz rfl] at a1
        clear h0 h2 hx E HON D2 D3 hj hz hc
        go_enter Try.func63, Try.ntmps63
        go_wp2_with fail
        refine bodyPost_ret ?_ rfl ⟨rfl, ?_⟩
        · simp [results, Try.results63, go_sem, *]
        · exact (two_blocks w _ _).2.2.1
      · have D4 : ((j : Int) == 2) = false := by rw [beq_eq_false_iff_ne]; omega
        clear h0 h2 hx E HON hz hc hj2 a1
        go_enter Try.func63, Try.ntmps63
        go_wp2_with fail
        refine bodyPost_ret ?_ rfl ⟨rfl, ?_⟩
        · simp [results, Try.results63, go_sem, *]
        · exact (two_blocks w _ _).2.2.1
end Go.Proofs.Ytbmmcmdopekccaa
/-
  The walks of the document's answers of layer 6: where an end leads, what stands there, what a step asks, through what steps go.
-/
namespace Go.Proofs.Ytbmmcmdopekccaa
open Go.RowKit

/-- Where an end leads: what a call leaves. -/
def NextIs (x : Int × Int × Bool) (w : World) (e : Ending) (w' : World) : Prop := e = .returned (.tuple #[.int .i64 x.1, .int .i64 x.2.1, .bool x.2.2]) ∧ Below w.heap.size w w'
/-- A value that a call leaves, with memory made. -/
def OneIs (v : Value) (w : World) (e : Ending) (w' : World) : Prop := e = .returned v ∧ Below w.heap.size w w'
set_option maxHeartbeats 8000000 in
set_option maxRecDepth 100000 in
theorem rwNext_any (p : Pl.Plan) (A : Option Addr) (c : Nat) (A' : Option Addr) (c' : Nat) (s e : Int) (w : World) (h : PlanIn w p A A') :
    Calls Try.prog 40 #[planV p A c A' c', .int .i64 s, .int .i64 e] w (NextIs (Wk.next p s e) w) := by
  have R0 := heap_alloc_new w (planO p A c A' c')
  have XX := (Below.refl w.heap.size w).alloc (Nat.le_refl _) (planO p A c A' c')
  have X0 := Lib.hid XX
  obtain ⟨⟨p0, p1, p2, p3, p4, p5⟩, -, gp⟩ := row6 R0
  have AT := Lib.hid (rwAt_any p A c A' c' s e _ (h.below XX))
  have E : Wk.next p s e = match Wk.endOf p s e with | none => (0, 0, false) | some x => if x.goes < 0 then (0, 0, false) else (x.goes, x.at_, true) := rfl
  rw [E]
  clear R0 XX h E
  cases hx : Wk.endOf p s e with
  | none =>
    rw [hx] at AT
    clear hx
    go_enter Try.func40, Try.ntmps40
    go_wp2_with fail
    refine AT.out.mono ?_; rintro e w1 ⟨rfl, hb1⟩
    have B1 := Lib.hid ((X0.out.trans (hb1.mono X0.out.size)).alloc (X0.out.trans (hb1.mono X0.out.size)).size endZ)
    clear p0 p1 p2 p3 p4 p5 hb1
    go_wp2_with fail
    refine bodyPost_ret ?_ rfl ⟨rfl, B1.out⟩
    simp [results, Try.results40, go_sem]
  | some y =>
    rw [hx] at AT
    obtain ⟨y0, y1, y2⟩ := y
    by_cases h0 : y0 < 0
    · have D : decide (y0 < 0) = true := dec_t h0
      simp only
      rw [if_pos h0]
      clear hx h0
      go_enter Try.func40, Try.ntmps40
      go_wp2_with fail
      refine AT.out.mono ?_; rintro e w1 ⟨rfl, hb1⟩
      have B1 := Lib.hid ((X0.out.trans (hb1.mono X0.out.size)).alloc (X0.out.trans (hb1.mono X0.out.size)).size (.cells #[.int .i64 y0, .int .i64 y1, .int .i64 y2] 120))
      clear p0 p1 p2 p3 p4 p5 hb1
      go_wp2_with fail
      refine bodyPost_ret ?_ rfl ⟨rfl, B1.out⟩
      simp [results, Try.results40, go_sem]
    · have D : decide (y0 < 0) = false := dec_f h0
      simp only
      rw [if_neg h0]
      clear hx h0
      go_enter Try.func40, Try.ntmps40
      go_wp2_with fail
      refine AT.out.mono ?_; rintro e w1 ⟨rfl, hb1⟩
      have B1 := Lib.hid ((X0.out.trans (hb1.mono X0.out.size)).alloc (X0.out.trans (hb1.mono X0.out.size)).size (.cells #[.int .i64 y0, .int .i64 y1, .int .i64 y2] 120))
      obtain ⟨⟨k0, k1, k2⟩, -, -⟩ := row3 (heap_alloc_new w1 (.cells #[.int .i64 y0, .int .i64 y1, .int .i64 y2] 120))
      clear p0 p1 p2 p3 p4 p5 hb1
      go_wp2_with fail
      go_quiet (fail)
      go_wp2_with fail
      refine bodyPost_ret ?_ rfl ⟨rfl, below_drewN B1.out _⟩
      simp [results, Try.results40, go_sem]
set_option maxHeartbeats 8000000 in
set_option maxRecDepth 100000 in
theorem rwSignal_any (p : Pl.Plan) (A : Option Addr) (c : Nat) (A' : Option Addr) (c' : Nat) (s e : Int) (w : World) (h : PlanIn w p A A') :
    Calls Try.prog 65 #[planV p A c A' c', .int .i64 s, .int .i64 e] w (OneIs (.int .i64 (Wk.signal p s e)) w) := by
  have R0 := heap_alloc_new w (planO p A c A' c')
  have XX := (Below.refl w.heap.size w).alloc (Nat.le_refl _) (planO p A c A' c')
  have X0 := Lib.hid XX
  obtain ⟨⟨p0, p1, p2, p3, p4, p5⟩, -, gp⟩ := row6 R0
  have AT := Lib.hid (rwAt_any p A c A' c' s e _ (h.below XX))
  have E : Wk.signal p s e = match Wk.endOf p s e with | none => -1 | some x => x.sig := rfl
  rw [E]
  clear R0 XX h E
  cases hx : Wk.endOf p s e with
  | none =>
    rw [hx] at AT
    clear hx
    go_enter Try.func65, Try.ntmps65
    go_wp2_with fail
    refine AT.out.mono ?_; rintro e w1 ⟨rfl, hb1⟩
    have B1 := Lib.hid ((X0.out.trans (hb1.mono X0.out.size)).alloc (X0.out.trans (hb1.mono X0.out.size)).size endZ)
    clear p0 p1 p2 p3 p4 p5 hb1
    go_wp2_with fail
    go_ret
    exact ⟨rfl, B1.out⟩
  | some y =>
    rw [hx] at AT
    obtain ⟨y0, y1, y2⟩ := y
    clear hx
    go_enter Try.func65, Try.ntmps65
    go_wp2_with fail
    refine AT.out.mono ?_; rintro e w1 ⟨rfl, hb1⟩
    have B1 := Lib.hid ((X0.out.trans (hb1.mono X0.out.size)).alloc (X0.out.trans (hb1.mono X0.out.size)).size (.cells #[.int .i64 y0, .int .i64 y1, .int .i64 y2] 120))
    obtain ⟨⟨k0, k1, k2⟩, -, -⟩ := row3 (heap_alloc_new w1 (.cells #[.int .i64 y0, .int .i64 y1, .int .i64 y2] 120))
    clear p0 p1 p2 p3 p4 p5 hb1
    go_wp2_with fail
    go_ret
    exact ⟨rfl, B1.out⟩
abbrev stpO (x : Wk.Stp) : Obj := .cells #[.int .i64 x.s, .int .i64 x.f, .int .i64 x.t] 39
set_option maxHeartbeats 8000000 in
set_option maxRecDepth 100000 in
theorem rwPosition_any (p : Pl.Plan) (A : Option Addr) (c : Nat) (A' : Option Addr) (c' : Nat) (x : Wk.Stp) (w : World) (h : PlanIn w p A A') :
    Calls Try.prog 68 #[planV p A c A' c', stpV x] w (OneIs (.int .i64 (Wk.position p x)) w) := by
  obtain ⟨s, f, t⟩ := x
  obtain ⟨R0, R1, XX, XS⟩ := two_blocks w (planO p A c A' c') (stpO ⟨s, f, t⟩)
  have X0 := Lib.hid XX
  obtain ⟨⟨-, -, -, -, p4, -⟩, -, gp⟩ := row6 R0
  obtain ⟨⟨z0, z1, z2⟩, -, gz⟩ := row3 R1
  have HI := Lib.hid (h.below XX)
  clear R0 R1 XX h
  have E : ∀ s, Wk.position p ⟨s, f, t⟩ = if ((Wk.secAt p s).map Pl.Sec.pt).getD false then max (max f t) 0 else 0 := fun _ => rfl
  rcases Wk.sec_ways p s with ⟨hs, hn⟩ | ⟨k, rfl, ⟨hk, hn⟩ | ⟨x, hx, hn⟩⟩
  · have D : decide (s < 0) = true := dec_t hs
    rw [E, hn]
    clear hs hn E
    go_enter Try.func68, Try.ntmps68
    go_wp2_with fail
    go_ret
    exact ⟨rfl, X0.out⟩
  · have D0 : decide ((k : Int) < 0) = false := dec_f (by omega)
    have D1 : decide ((p.secs.length : Int) ≤ (k : Int)) = true := dec_t (by omega)
    rw [E, hn]
    clear hn E
    go_enter Try.func68, Try.ntmps68
    go_wp2_with fail
    go_ret
    exact ⟨rfl, X0.out⟩
  · have hlt : k < p.secs.length := (List.getElem?_eq_some_iff.1 hx).1
    have D0 : decide ((k : Int) < 0) = false := dec_f (by omega)
    have D1 : decide ((p.secs.length : Int) ≤ (k : Int)) = false := dec_f (by omega)
    have N1 : ¬ p.secs.length ≤ k := by omega
    obtain ⟨b, o, rfl, hb, on⟩ := sec_cells HI.out.1 hx
    obtain ⟨-, a1, -⟩ := sec_on on
    rw [E, hn]
    clear hn on hx E
    cases hpt : x.pt
    · rw [hpt] at a1
      simp only [Option.map_some, Option.getD_some, hpt]
      clear hpt
      go_enter Try.func68, Try.ntmps68
      go_wp2_with fail
      go_ret
      exact ⟨rfl, X0.out⟩
    · rw [hpt] at a1
      simp only [Option.map_some, Option.getD_some, hpt]
      clear hpt
      go_enter Try.func68, Try.ntmps68
      go_wp2_with fail
      all_goals refine bodyPost_ret (v := .int .i64 (max f (max t 0))) ?_ rfl ⟨rfl, X0.out⟩
      all_goals simp [results, Try.results68, go_sem]
      all_goals omega
end Go.Proofs.Ytbmmcmdopekccaa
/-
  The walks of the document's answers of layer 6: the steps through a section, whether steps go through one, whether they are the same.
-/
namespace Go.Proofs.Ytbmmcmdopekccaa
open Go.RowKit

theorem within_at {L : List Wk.Stp} {s : Int} {k : Nat} {x : Wk.Stp} (hx : L[k]? = some x) (h : x.s = s) : Wk.within L s = true := by
  unfold Wk.within
  rw [List.any_eq_true]
  exact ⟨x, List.mem_of_getElem? hx, decide_eq_true h⟩
theorem within_none {L : List Wk.Stp} {s : Int} (h : ∀ j < L.length, ∀ x, L[j]? = some x → x.s ≠ s) : Wk.within L s = false := by
  unfold Wk.within
  rw [List.any_eq_false]
  intro x hx
  obtain ⟨j, hj, rfl⟩ := List.getElem_of_mem hx
  simpa using h j hj _ (List.getElem?_eq_getElem hj)
set_option maxHeartbeats 4000000 in
set_option maxRecDepth 100000 in
theorem rwWithin_any (A : Option Addr) (c : Nat) (L : List Wk.Stp) (s : Int) (w : World) (h : LStp.Row w A L) (hl : L.length ≤ 1000000) :
    Calls Try.prog 11 #[.slice A L.length c, .int .i64 s] w fun e w' => e = .returned (.bool (Wk.within L s)) ∧ w = w' := by
  go_enter Try.func11, Try.ntmps11
  go_wp2
  go_loop [5] (fun i => ∃ k : Nat, k ≤ L.length ∧ i = .int .i64 k ∧ ∀ j < k, ∀ t, L[j]? = some t → t.s ≠ s) (fun i => L.length - (intOf i).toNat)
  case atStart => exact ⟨0, Nat.zero_le _, rfl, fun j hj => absurd hj (by omega)⟩
  case round =>
    obtain ⟨k, hk, rfl, h0⟩ := hrel
    have H0 := Lib.hid h0
    clear h0
    by_cases hlt : k < L.length
    · obtain ⟨b, o, rfl, hb, on⟩ := h.at hlt
      have hx := List.getElem?_eq_getElem hlt
      generalize L[k] = x at hx on
      obtain ⟨a0, -⟩ := stp_on on
      rw [show k * LStp.m = k * 3 from rfl] at a0
      have HX := Lib.hid hx
      clear on hx
      by_cases he : x.s = s
      · have h1 : (x.s == s) = true := by rw [beq_iff_eq]; exact he
        have P := Lib.hid (within_at HX.out he)
        clear he
        go_wp2
        go_ret
        exact ⟨by rw [P.out]; rfl, rfl⟩
      · have h1 : (x.s == s) = false := by rw [beq_eq_false_iff_ne]; exact he
        have N := Lib.hid (fun j (hj : j < k + 1) t (ht : L[j]? = some t) => (show t.s ≠ s from by
          by_cases hjk : j = k
          · subst hjk
            rw [HX.out] at ht
            cases ht
            exact he
          · exact H0.out j (by omega) t ht))
        clear he
        go_wp2
        go_round
        case rel => exact ⟨k + 1, by omega, by go_num, N.out⟩
        case measure => simp [intOf]; omega
    · obtain rfl : k = L.length := by omega
      have P := Lib.hid (within_none H0.out)
      go_wp2
      go_ret
      exact ⟨by rw [P.out]; rfl, rfl⟩
end Go.Proofs.Ytbmmcmdopekccaa
