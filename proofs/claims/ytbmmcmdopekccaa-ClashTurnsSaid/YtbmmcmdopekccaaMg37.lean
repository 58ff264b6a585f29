/-
  Texts of this claim, merged: ClLaw, RtEval, CrAwake.
-/
import Derived.Test.YtbmmcmdopekccaaMg14
import Derived.Test.YtbmmcmdopekccaaMg17
import Derived.Test.YtbmmcmdopekccaaMg20
import Derived.Test.YtbmmcmdopekccaaMg31
import Derived.Test.YtbmmcmdopekccaaMg36
/-
  What the laws of layer 14 share: the routes of a text's station.
-/
namespace Go.Proofs.Ytbmmcmdopekccaa
open Go.RowKit

/-- The routes of a text's station; none: there are none. -/
noncomputable def routesP (l : List UInt8) : Option (List Rt.Route) :=
  match madeP l with
  | none => none
  | some p => if (Rt.all p).2 = 0 then some (Rt.all p).1 else none
theorem routesP_some {l : List UInt8} {L : List Rt.Route} (h : routesP l = some L) : ∃ p, madeP l = some p ∧ (Rt.all p).2 = 0 ∧ (Rt.all p).1 = L := by
  unfold routesP at h
  cases hm : madeP l with
  | none => rw [hm] at h; cases h
  | some p =>
    rw [hm] at h
    simp only at h
    by_cases h0 : (Rt.all p).2 = 0
    · rw [if_pos h0] at h
      exact ⟨p, rfl, h0, Option.some.inj h⟩
    · rw [if_neg h0] at h
      cases h
theorem routesP_few {l : List UInt8} {L : List Rt.Route} (h : routesP l = some L) : L.length ≤ 30 ∧ ∀ r ∈ L, Cl.Tiny r := by
  obtain ⟨p, hm, -, rfl⟩ := routesP_some h
  refine ⟨Rt.all_len p, fun r hr => ?_⟩
  obtain ⟨h1, h2, h3, -, -⟩ := Rt.all_small (madeP_route hm).1 r hr
  exact ⟨by omega, by omega, by omega⟩
/-- A station's routes, that a call leaves. -/
def RoutesAre (L : List Rt.Route) (w : World) (e : Ending) (w' : World) : Prop := ∃ A c, e = .returned (.tuple #[.slice A L.length c, .bool true]) ∧ L.length ≤ c ∧ RoutesIn w' A L ∧ Below w.heap.size w w'
def RoutesNot (w : World) (e : Ending) (w' : World) : Prop := ∃ A n c, e = .returned (.tuple #[.slice A n c, .bool false]) ∧ Below w.heap.size w w'
set_option maxHeartbeats 8000000 in
set_option maxRecDepth 100000 in
theorem routes_some {s : ByteArray} {L : List Rt.Route} (h : routesP s.data.toList = some L) (w : World) : Calls Try.prog 6 #[.string s] w (RoutesAre L w) := by
  --[
  obtain ⟨p, hm, h0, hL⟩ := routesP_some h
  obtain ⟨hfit, hmeas, hap, hho⟩ := madeP_route hm
  have hho2 : 0 ≤ p.ho ∧ p.ho ≤ 1125899906842624 := by omega
  have CM := Lib.hid (fun W => made_some hm W)
  have HA := Lib.hid (show Rt.all p = (L, 0) from by rw [← h0, ← hL])
  clear hm h0 hL h
  go_enter Try.func6, Try.ntmps6
  go_wp2_with fail
  refine (CM.out _).mono ?_; rintro e w1 ⟨S, cS, G, cG, rfl, pin, hb1⟩
  have X1 := (Below.refl w1.heap.size w1).alloc (Nat.le_refl _) (planO p S cS G cG)
  have B5 := Lib.hid (hb1.trans (X1.mono hb1.size))
  have RP := Lib.hid (heap_alloc_new w1 (planO p S cS G cG))
  have I5 := Lib.hid (pin.below X1 : PlanIn (w1.alloc (planO p S cS G cG)) p S G)
  obtain ⟨⟨p0, p1, p2, p3, p4, p5⟩, -, gx⟩ := row6 RP.out
  clear pin hb1 X1 CM
  go_upto_region 4 with fail
  generalize w1.alloc (planO p S cS G cG) = w5 at B5 RP I5 p0 p1 p2 p3 p4 p5 gx ⊢
  generalize w1.heap.size = gq at RP p0 p1 p2 p3 p4 p5 gx ⊢
  have C1 := Lib.hid (rtAll_any p hfit hmeas hap hho2 S cS G cG w5 I5.out)
  rw [HA.out] at C1
  clear hfit hmeas hap hho hho2
  go_wp2_with fail
  refine C1.out.mono ?_; rintro e w6 ⟨A1, c1, rfl, hc1, hR1, hb6⟩
  have B6 := Lib.hid (B5.out.trans (hb6.mono B5.out.size))
  have R6 := Lib.hid hR1
  have HC := Lib.hid hc1
  clear hb6 hR1 hc1 p0 p1 p2 p3 p4 p5 gx RP C1
  go_wp2_with fail
  refine bodyPost_ret (v := .tuple #[.slice A1 L.length c1, .bool true]) ?_ rfl ⟨A1, c1, rfl, HC.out, R6.out, B6.out⟩
  simp [results, Try.results6, go_sem, *]
  --]
set_option maxHeartbeats 8000000 in
set_option maxRecDepth 100000 in
theorem routes_none {s : ByteArray} (h : routesP s.data.toList = none) (w : World) : Calls Try.prog 6 #[.string s] w (RoutesNot w) := by
  --[
  cases hm : madeP s.data.toList with
  | none =>
    have CM := Lib.hid (fun W => made_void hm W)
    clear h
    go_enter Try.func6, Try.ntmps6
    go_wp2_with fail
    refine (CM.out _).mono ?_; rintro e w1 ⟨p, S, cS, G, cG, rfl, -, hb1⟩
    have B5 := Lib.hid (hb1.alloc hb1.size (planO p S cS G cG))
    clear hb1 CM
    go_wp2_with fail
    refine bodyPost_ret (v := .tuple #[.slice none 0 0, .bool false]) ?_ rfl ⟨none, 0, 0, rfl, B5.out⟩
    simp [results, Try.results6, go_sem, *]
  | some p =>
    obtain ⟨hfit, hmeas, hap, hho⟩ := madeP_route hm
    have hho2 : 0 ≤ p.ho ∧ p.ho ≤ 1125899906842624 := by omega
    have CM := Lib.hid (fun W => made_some hm W)
    have HN : (Rt.all p).2 ≠ 0 := fun h0 => by
      unfold routesP at h
      rw [hm] at h
      simp only at h
      rw [if_pos h0] at h
      cases h
    clear hm h
    go_enter Try.func6, Try.ntmps6
    go_wp2_with fail
    refine (CM.out _).mono ?_; rintro e w1 ⟨S, cS, G, cG, rfl, pin, hb1⟩
    have X1 := (Below.refl w1.heap.size w1).alloc (Nat.le_refl _) (planO p S cS G cG)
    have B5 := Lib.hid (hb1.trans (X1.mono hb1.size))
    have RP := Lib.hid (heap_alloc_new w1 (planO p S cS G cG))
    have I5 := Lib.hid (pin.below X1 : PlanIn (w1.alloc (planO p S cS G cG)) p S G)
    obtain ⟨⟨p0, p1, p2, p3, p4, p5⟩, -, gx⟩ := row6 RP.out
    clear pin hb1 X1 CM
    go_upto_region 4 with fail
    generalize w1.alloc (planO p S cS G cG) = w5 at B5 RP I5 p0 p1 p2 p3 p4 p5 gx ⊢
    generalize w1.heap.size = gq at RP p0 p1 p2 p3 p4 p5 gx ⊢
    have C1 := Lib.hid (rtAll_any p hfit hmeas hap hho2 S cS G cG w5 I5.out)
    generalize Rt.all p = al at C1 HN
    obtain ⟨L, er⟩ := al
    have HE : (er == 0) = false := by rw [beq_eq_false_iff_ne]; exact HN
    clear hfit hmeas hap hho hho2 HN
    go_wp2_with fail
    refine C1.out.mono ?_; rintro e w6 ⟨A1, c1, rfl, -, -, hb6⟩
    have B6 := Lib.hid (B5.out.trans (hb6.mono B5.out.size))
    clear hb6 p0 p1 p2 p3 p4 p5 gx RP C1
    go_wp2_with fail
    refine bodyPost_ret (v := .tuple #[.slice A1 L.length c1, .bool false]) ?_ rfl ⟨A1, L.length, c1, rfl, B6.out⟩
    simp [results, Try.results6, go_sem, *]
  --]
end Go.Proofs.Ytbmmcmdopekccaa
/-
  Plain mathematics of layer 12: routes where no overlap errs. No program is named here.
-/
namespace Go.Proofs.Ytbmmcmdopekccaa.Rt
open Go Pl Wk

theorem ways_all {p : Plan} {i : Int} : ∀ {ws : List Cr.Way} {acc : List Route}, (∀ w ∈ ws, (Lp.of p i w).2 = 0) → acc.length + ws.length ≤ 30 → ways p i ws acc = (acc ++ ws.map fun w => fill p i w (Lp.of p i w).1, 0)
  | [], acc, _, _ => by rw [List.map_nil, List.append_nil]; rfl
  | w :: ws, acc, h, hl => by
    rw [List.length_cons] at hl
    have h1 := h w (List.mem_cons_self ..)
    rw [ways_ok (by omega) (by rw [of_err]; exact h1), of_ok h1, ways_all (fun x hx => h x (List.mem_cons_of_mem _ hx)) (by rw [List.length_append, List.length_singleton]; omega), List.append_assoc]
    rfl
theorem from_all {p : Plan} : ∀ {l : List Nat} {acc : List Route}, (∀ i ∈ l, (Cr.of p i).2 = 0 ∧ ∀ w ∈ (Cr.of p i).1, (Lp.of p i w).2 = 0) → acc.length + (l.map fun (i : Nat) => (Cr.of p i).1.length).sum ≤ 30 → from_ p l acc = (acc ++ l.flatMap (fun (i : Nat) => (Cr.of p i).1.map fun w => fill p i w (Lp.of p i w).1), 0)
  | [], acc, _, _ => by rw [List.flatMap_nil, List.append_nil]; rfl
  | i :: l, acc, h, hl => by
    rw [List.map_cons, List.sum_cons] at hl
    obtain ⟨h1, h2⟩ := h i (List.mem_cons_self ..)
    have hw := ways_all (p := p) (i := i) (acc := acc) h2 (by omega)
    rw [from_ok h1 (by rw [hw]), hw, from_all (fun x hx => h x (List.mem_cons_of_mem _ hx)) (by rw [List.length_append, List.length_map]; omega), List.append_assoc, List.flatMap_cons]
theorem all_all {p : Plan} (h : ∀ i ∈ List.range p.sigs.length, (Cr.of p i).2 = 0 ∧ ∀ w ∈ (Cr.of p i).1, (Lp.of p i w).2 = 0) (hl : ((List.range p.sigs.length).map fun (i : Nat) => (Cr.of p i).1.length).sum ≤ 30) : all p = ((List.range p.sigs.length).flatMap (fun (i : Nat) => (Cr.of p i).1.map fun w => fill p i w (Lp.of p i w).1), 0) := by
  unfold all
  rw [from_all h (by rw [List.length_nil]; omega), List.nil_append]
end Go.Proofs.Ytbmmcmdopekccaa.Rt
/-
  The walk of layer 7's examples: they are as the document says.
-/
namespace Go.Proofs.Ytbmmcmdopekccaa
open Go.RowKit

def awL : Pl.Plan := ⟨3000, 15000, 2, 1, [⟨[69], false, 9000, ⟨3, 0, 3⟩, ⟨1, 0, -1⟩, ⟨-1, 0, -1⟩⟩, ⟨[70], false, 8000, ⟨0, 1, 7⟩, ⟨-1, 0, -1⟩, ⟨-1, 0, -1⟩⟩, ⟨[80], true, 5000, ⟨7, 1, -1⟩, ⟨4, 0, -1⟩, ⟨5, 0, -1⟩⟩, ⟨[81], true, 5000, ⟨0, 0, -1⟩, ⟨4, 1, -1⟩, ⟨5, 1, -1⟩⟩, ⟨[84], false, 7000, ⟨2, 1, 4⟩, ⟨3, 1, 1⟩, ⟨-1, 0, -1⟩⟩, ⟨[85], false, 7000, ⟨2, 2, 5⟩, ⟨3, 2, 2⟩, ⟨-1, 0, -1⟩⟩, ⟨[86], false, 8000, ⟨-1, 0, -1⟩, ⟨7, 0, 6⟩, ⟨-1, 0, -1⟩⟩, ⟨[87], false, 9000, ⟨6, 1, -1⟩, ⟨2, 0, 0⟩, ⟨-1, 0, -1⟩⟩], [⟨[65], 7, 1⟩, ⟨[66], 4, 1⟩, ⟨[67], 5, 1⟩, ⟨[68], 0, 0⟩, ⟨[71], 4, 0⟩, ⟨[72], 5, 0⟩, ⟨[73], 6, 1⟩, ⟨[74], 1, 0⟩]⟩
abbrev exL : ByteArray := ⟨((([111, 118, 101, 114, 108, 97, 112, 32, 51, 48, 48, 48, 10, 97, 112, 112, 114, 111, 97, 99, 104, 32, 49, 53, 48, 48, 48, 10, 115, 101, 116, 116, 108, 101, 32, 50, 10, 104, 111, 108, 100, 32, 49, 10, 115, 101, 99, 116].append [105, 111, 110, 32, 87, 32, 57, 48, 48, 48, 10, 115, 101, 99, 116, 105, 111, 110, 32, 86, 32, 56, 48, 48, 48, 10, 112, 111, 105, 110, 116, 32, 80, 32, 53, 48, 48, 48, 10, 115, 101, 99, 116, 105, 111, 110, 32, 84, 32]).append ([55, 48, 48, 48, 10, 115, 101, 99, 116, 105, 111, 110, 32, 85, 32, 55, 48, 48, 48, 10, 112, 111, 105, 110, 116, 32, 81, 32, 53, 48, 48, 48, 10, 115, 101, 99, 116, 105, 111, 110, 32, 69, 32, 57, 48, 48, 48, 10, 115].append [101, 99, 116, 105, 111, 110, 32, 70, 32, 56, 48, 48, 48, 10, 106, 111, 105, 110, 32, 86, 46, 98, 32, 87, 46, 97, 10, 106, 111, 105, 110, 32, 87, 46, 98, 32, 80, 46, 116, 10, 106, 111, 105, 110, 32, 80, 46, 110, 32])).append (([84, 46, 97, 10, 106, 111, 105, 110, 32, 80, 46, 114, 32, 85, 46, 97, 10, 106, 111, 105, 110, 32, 84, 46, 98, 32, 81, 46, 110, 10, 106, 111, 105, 110, 32, 85, 46, 98, 32, 81, 46, 114, 10, 106, 111, 105, 110, 32].append [81, 46, 116, 32, 69, 46, 97, 10, 106, 111, 105, 110, 32, 69, 46, 98, 32, 70, 46, 97, 10, 98, 117, 102, 102, 101, 114, 32, 86, 46, 97, 10, 98, 117, 102, 102, 101, 114, 32, 70, 46, 98, 10, 115, 105, 103, 110, 97, 108]).append ([32, 65, 32, 87, 46, 98, 10, 115, 105, 103, 110, 97, 108, 32, 66, 32, 84, 46, 98, 10, 115, 105, 103, 110, 97, 108, 32, 67, 32, 85, 46, 98, 10, 115, 105, 103, 110, 97, 108, 32, 68, 32, 69, 46, 97, 10, 115, 105, 103].append [110, 97, 108, 32, 71, 32, 84, 46, 97, 10, 115, 105, 103, 110, 97, 108, 32, 72, 32, 85, 46, 97, 10, 115, 105, 103, 110, 97, 108, 32, 73, 32, 86, 46, 98, 10, 115, 105, 103, 110, 97, 108, 32, 74, 32, 70, 46, 97, 10]))).toArray⟩
theorem exL_built : Pl.builtP exL.data.toList = (awL, 0, 0) := by decide +kernel
theorem made_exL : madeP exL.data.toList = some awL := by
  unfold madeP
  rw [exL_built]
  exact if_pos ⟨by decide +kernel, rfl⟩
end Go.Proofs.Ytbmmcmdopekccaa
