/-
  Texts of this claim, merged: WkRef, WkRefB, WkPrB.
-/
import Derived.Test.YtkdgcibkjhhpoaaMg12
import Derived.Test.YtkdgcibkjhhpoaaMg14
import Derived.BigQuiet
import Derived.ChangeKeysEq
import Derived.Deep.LoopGhost
import Derived.Shelf.Abstract
/-
  The walks of the document's answers of layer 6.
-/
namespace Go.Proofs.Ytkdgcibkjhhpoaa
open Go.RowKit

theorem row3 {w : World} {g : Nat} {a b c : Value} {t : TypeId} (h : w.heap[g]? = some (.cells #[a, b, c] t (0, 0))) :
    (w.cell? ⟨g, 0, none⟩ = some a ∧ w.cell? ⟨g, 1, none⟩ = some b ∧ w.cell? ⟨g, 2, none⟩ = some c) ∧ (w.frozen? ⟨g, 0, none⟩ = false ∧ w.frozen? ⟨g, 1, none⟩ = false ∧ w.frozen? ⟨g, 2, none⟩ = false) ∧ g < w.heap.size :=
  ⟨⟨cell_of_row w g 0 _ t _ h, cell_of_row w g 1 _ t _ h, cell_of_row w g 2 _ t _ h⟩, ⟨frozen_of_row w g 0 _ t h, frozen_of_row w g 1 _ t h, frozen_of_row w g 2 _ t h⟩, (Array.getElem?_eq_some_iff.1 h).1⟩
end Go.Proofs.Ytkdgcibkjhhpoaa
/-
  The walks of the document's answers of layer 6: where an end leads, what stands there, what a step asks, through what steps go.
-/
namespace Go.Proofs.Ytkdgcibkjhhpoaa
open Go.RowKit

/-- A value that a call leaves, with memory made. -/
def OneIs (v : Value) (w : World) (e : Ending) (w' : World) : Prop := e = .returned v ∧ Below w.heap.size w w'
abbrev stpO (x : Wk.Stp) : Obj := .cells #[.int .i64 x.s, .int .i64 x.f, .int .i64 x.t] 34
set_option maxHeartbeats 8000000 in
set_option maxRecDepth 100000 in
theorem rwPosition_any (p : Pl.Plan) (A : Option Addr) (c : Nat) (A' : Option Addr) (c' : Nat) (x : Wk.Stp) (w : World) (h : PlanIn w p A A') :
    Calls Try.prog 26 #[planV p A c A' c', stpV x] w (OneIs (.int .i64 (Wk.position p x)) w) := by
  obtain ⟨s, f, t⟩ := x
  obtain ⟨R0, R1, XX, XS⟩ := two_blocks w (planO p A c A' c') (stpO ⟨s, f, t⟩)
  have X0 := Lib.hid XX
  obtain ⟨⟨-, -, -, -, p4, -⟩, -, gp⟩ := row6 R0
  obtain ⟨⟨z0, z1, z2⟩, -, gz⟩ := row3 R1
  have HI := Lib.hid (h.below XX)
  clear R0 R1 XX h
  have E : ∀ s, Wk.position p ⟨s, f, t⟩ = if ((Wk.secAt p s).map Pl.Sec.pt).getD false then max (max f t) 0 else 0 := fun _ => rfl
  rcases Wk.sec_ways p s with ⟨hs, hn⟩ | ⟨k, rfl, ⟨hk, hn⟩ | ⟨x, hx, hn⟩⟩
  · have D : decide (s < 0) = true := dec_t hs
    rw [E, hn]
    clear hs hn E
    go_enter Try.func26, Try.ntmps26
    go_wp2_with fail
    go_ret
    exact ⟨rfl, X0.out⟩
  · have D0 : decide ((k : Int) < 0) = false := dec_f (by omega)
    have D1 : decide ((p.secs.length : Int) ≤ (k : Int)) = true := dec_t (by omega)
    rw [E, hn]
    clear hn E
    go_enter Try.func26, Try.ntmps26
    go_wp2_with fail
    go_ret
    exact ⟨rfl, X0.out⟩
  · have hlt : k < p.secs.length := (List.getElem?_eq_some_iff.1 hx).1
    have D0 : decide ((k : Int) < 0) = false := dec_f (by omega)
    have D1 : decide ((p.secs.length : Int) ≤ (k : Int)) = false := dec_f (by omega)
    have N1 : ¬ p.secs.length ≤ k := by omega
    obtain ⟨b, o, rfl, hb, on⟩ := sec_cells HI.out.1 hx
    obtain ⟨-, a1, -⟩ := sec_on on
    rw [E, hn]
    clear hn on hx E
    cases hpt : x.pt
    · rw [hpt] at a1
      simp only [Option.map_some, Option.getD_some, hpt]
      clear hpt
      go_enter Try.func26, Try.ntmps26
      go_wp2_with fail
      go_ret
      exact ⟨rfl, X0.out⟩
    · rw [hpt] at a1
      simp only [Option.map_some, Option.getD_some, hpt]
      clear hpt
      go_enter Try.func26, Try.ntmps26
      go_wp2_with fail
      all_goals refine bodyPost_ret (v := .int .i64 (max f (max t 0))) ?_ rfl ⟨rfl, X0.out⟩
      all_goals simp [results, Try.results26, go_sem]
      all_goals omega
end Go.Proofs.Ytkdgcibkjhhpoaa
/-
  The walks of the program's layer 6: which position a step asks, whether steps go through a section.
-/
namespace Go.Proofs.Ytkdgcibkjhhpoaa
open Go.RowKit

set_option maxHeartbeats 8000000 in
set_option maxRecDepth 100000 in
theorem pwPosition_any (p : Pl.Plan) (A : Option Addr) (c : Nat) (A' : Option Addr) (c' : Nat) (x : Wk.Stp) (w : World) (h : PlanIn w p A A') (_hl : p.secs.length ≤ 24) :
    Calls Try.prog 25 #[planV p A c A' c', stpV x] w (OneIs (.int .i64 (Wk.position p x)) w) := by
  --[
  obtain ⟨s, f, t⟩ := x
  obtain ⟨R0, R1, XX, XS⟩ := two_blocks w (planO p A c A' c') (stpO ⟨s, f, t⟩)
  have X0 := Lib.hid XX
  obtain ⟨⟨-, -, -, -, p4, -⟩, -, gp⟩ := row6 R0
  obtain ⟨⟨z0, z1, z2⟩, -, gz⟩ := row3 R1
  have HI := Lib.hid (h.below XX)
  clear R0 R1 XX h
  have E : ∀ s, Wk.position p ⟨s, f, t⟩ = if ((Wk.secAt p s).map Pl.Sec.pt).getD false then max (max f t) 0 else 0 := fun _ => rfl
  rcases Wk.sec_ways p s with ⟨hs, hn⟩ | ⟨k, rfl, ⟨hk, hn⟩ | ⟨x, hx, hn⟩⟩
  · have D : decide (s < 0) = true := dec_t hs
    rw [E, hn]
    clear hs hn E
    go_enter Try.func25, Try.ntmps25
    go_wp2_with fail
    go_ret
    exact ⟨rfl, X0.out⟩
  · have D0 : decide ((k : Int) < 0) = false := dec_f (by omega)
    have D1 : decide ((p.secs.length : Int) ≤ (k : Int)) = true := dec_t (by omega)
    rw [E, hn]
    clear hn E
    go_enter Try.func25, Try.ntmps25
    go_wp2_with fail
    go_ret
    exact ⟨rfl, X0.out⟩
  · have hlt : k < p.secs.length := (List.getElem?_eq_some_iff.1 hx).1
    have D0 : decide ((k : Int) < 0) = false := dec_f (by omega)
    have D1 : decide ((p.secs.length : Int) ≤ (k : Int)) = false := dec_f (by omega)
    have N1 : ¬ p.secs.length ≤ k := by omega
    obtain ⟨b, o, rfl, hb, on⟩ := sec_cells HI.out.1 hx
    obtain ⟨-, a1, -⟩ := sec_on on
    rw [E, hn]
    clear hn on hx E
    cases hpt : x.pt
    · rw [hpt] at a1
      simp only [Option.map_some, Option.getD_some, hpt]
      clear hpt
      go_enter Try.func25, Try.ntmps25
      go_wp2_with fail
      go_ret
      exact ⟨rfl, X0.out⟩
    · rw [hpt] at a1
      simp only [Option.map_some, Option.getD_some, hpt]
      clear hpt
      go_enter Try.func25, Try.ntmps25
      go_wp2_with fail
      all_goals refine bodyPost_ret (v := .int .i64 (max f (max t 0))) ?_ rfl ⟨rfl, X0.out⟩
      all_goals simp [results, Try.results25, go_sem]
      all_goals omega
  --]
end Go.Proofs.Ytkdgcibkjhhpoaa
