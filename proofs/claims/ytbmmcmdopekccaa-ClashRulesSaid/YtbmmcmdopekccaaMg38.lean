/-
  Texts of this claim, merged: ClEval, BsRef.
-/
import Derived.Test.YtbmmcmdopekccaaMg31
import Derived.Test.YtbmmcmdopekccaaMg32
import Derived.Test.YtbmmcmdopekccaaMg35
import Derived.Test.YtbmmcmdopekccaaMg37
/-
  Plain mathematics of layer 14: which routes of the document's example bar which. No program is named here.
-/
namespace Go.Proofs.Ytbmmcmdopekccaa

theorem clA_ok : ∀ i ∈ List.range awL.sigs.length, (Cr.of awL i).2 = 0 ∧ ∀ w ∈ (Cr.of awL i).1, (Lp.of awL i w).2 = 0 := by decide +kernel
theorem clA_len : ((List.range awL.sigs.length).map fun (i : Nat) => (Cr.of awL i).1.length).sum ≤ 30 := by decide +kernel
theorem clA_ten : ((List.range awL.sigs.length).map fun (i : Nat) => (Cr.of awL i).1.length).sum = 10 := by decide +kernel
theorem clA_all : Rt.all awL = ((List.range awL.sigs.length).flatMap (fun (i : Nat) => (Cr.of awL i).1.map fun w => Rt.fill awL i w (Lp.of awL i w).1), 0) := Rt.all_all clA_ok clA_len
namespace Cl
/-- What of a route says which it bars. -/
def core (r : Rt.Route) : Rt.Route := ⟨r.entry, r.exit, r.steps, r.lap, r.pts, [], [], 0, 0⟩
theorem bars_core (r s : Rt.Route) : bars (core r) (core s) = bars r s := rfl
def cores : List Rt.Route := (List.range awL.sigs.length).flatMap fun (i : Nat) => (Cr.of awL i).1.map fun w => ⟨i, w.exit, w.steps, (Lp.of awL i w).1, (Fl.of awL (w.steps ++ (Lp.of awL i w).1)).pts, [], [], 0, 0⟩
theorem cores_of : (Rt.all awL).1.map core = cores := by
  rw [clA_all]
  show List.map core (List.flatMap _ _) = _
  rw [List.map_flatMap]
  unfold cores
  congr 1
  funext i
  rw [List.map_map]
  rfl
theorem get_core (i : Nat) : core ((Rt.all awL).1.getD i Rt.zero) = cores.getD i Rt.zero := by
  rw [← cores_of, List.getD_eq_getElem?_getD, List.getD_eq_getElem?_getD, List.getElem?_map]
  cases (Rt.all awL).1[i]? <;> rfl
theorem bars_at (i k : Nat) : bars ((Rt.all awL).1.getD i Rt.zero) ((Rt.all awL).1.getD k Rt.zero) = bars (cores.getD i Rt.zero) (cores.getD k Rt.zero) := by
  rw [← get_core, ← get_core, bars_core]
theorem b01 : bars (cores.getD 0 Rt.zero) (cores.getD 1 Rt.zero) = true := by decide +kernel
theorem b02 : bars (cores.getD 0 Rt.zero) (cores.getD 2 Rt.zero) = false := by decide +kernel
theorem b06 : bars (cores.getD 0 Rt.zero) (cores.getD 6 Rt.zero) = true := by decide +kernel
end Cl
/-- The routes of the examples' station. -/
theorem clA_one : ∃ L, Rt.all awL = (L, 0) ∧ L.length = 10 ∧ Cl.hit L 0 1 = true ∧ Cl.hit L 0 2 = false ∧ Cl.hit L 0 6 = true ∧ Cl.bars (L.getD 0 Rt.zero) (L.getD 1 Rt.zero) = true ∧ Cl.bars (L.getD 0 Rt.zero) (L.getD 2 Rt.zero) = false ∧ Cl.bars (L.getD 0 Rt.zero) (L.getD 6 Rt.zero) = true := by
  have h1 := (Cl.bars_at 0 1).trans Cl.b01
  have h2 := (Cl.bars_at 0 2).trans Cl.b02
  have h3 := (Cl.bars_at 0 6).trans Cl.b06
  refine ⟨(Rt.all awL).1, by rw [clA_all], ?_, ?_, ?_, ?_, h1, h2, h3⟩
  · rw [clA_all]
    show (List.flatMap _ _).length = 10
    rw [List.length_flatMap, ← clA_ten]
    congr 2
    funext i
    rw [List.length_map]
  · unfold Cl.hit; rw [h1]; rfl
  · unfold Cl.hit; rw [h2]; rfl
  · unfold Cl.hit; rw [h3]; rfl
end Go.Proofs.Ytbmmcmdopekccaa
/-
  The walks of the document's layer 13: New, Has, With, Of, Meet, List, Same; layer 12's Ints.
-/
namespace Go.Proofs.Ytbmmcmdopekccaa
open Go.RowKit

set_option maxHeartbeats 4000000 in
set_option maxRecDepth 100000 in
theorem rbHas_any (A : Option Addr) (c : Nat) (L : List Nat) (n : Int) (w : World) (h0 : -9223372036854775808 ≤ n ∧ n ≤ 9223372036854775807) (h : LWd.Row w A L) (hw : Bs.W32 L) (_hl : L.length ≤ 1000000000) :
    Calls Try.prog 9 #[.slice A L.length c, .int .i64 n] w fun e w' => e = .returned (.bool (Bs.has L n)) ∧ w' = w := by
  --[
  by_cases hn : 0 ≤ n
  · obtain ⟨k, rfl⟩ : ∃ k : Nat, n = (k : Int) := ⟨n.toNat, by omega⟩
    have d0 : decide ((0 : Int) ≤ (k : Int)) = true := dec_t hn
    have q : IntKind.i64.wrap ((k : Int).tdiv 32) = ((k / 32 : Nat) : Int) := by
      rw [Int.tdiv_eq_ediv_of_nonneg hn, IntWalk.i64_in _ (by omega)]; omega
    have q2 : (k : Int) / 32 = ((k / 32 : Nat) : Int) := by omega
    have q3 : IntKind.i64.wrap ((k : Int) / 32) = ((k / 32 : Nat) : Int) := by rw [IntWalk.i64_in _ (by omega)]; omega
    have q4 : IntKind.i64.wrap ((k / 32 : Nat) : Int) = ((k / 32 : Nat) : Int) := IntWalk.i64_in _ (by omega)
    have E : Bs.has L (k : Int) = (L.getD (k / 32) 0).testBit (k % 32) := by
      unfold Bs.has
      rw [d0, Bool.true_and, Int.toNat_natCast]
    have e0 : (0 : Int) ≤ ((k / 32 : Nat) : Int) := Int.natCast_nonneg _
    by_cases hk : k / 32 < L.length
    · obtain ⟨b, o, rfl, hb, hc⟩ := wd_at h hk
      have hv := hw.at (k / 32)
      have HA := Lib.hid (Bs.and_one_is (L.getD (k / 32) 0) hv (k % 32))
      have HE := Lib.hid E
      have D1 : decide (((k / 32 : Nat) : Int) < (L.length : Int)) = true := dec_t (by omega)
      have e1 : ((k / 32 : Nat) : Int) < (L.length : Int) := by omega
      have r1 : (k : Int).tmod 32 = ((k % 32 : Nat) : Int) := by rw [Int.tmod_eq_emod_of_nonneg hn]; omega
      have r2 : (k : Int) % 32 = ((k % 32 : Nat) : Int) := by omega
      have r3 : IntKind.u64.wrap ((k % 32 : Nat) : Int) = ((k % 32 : Nat) : Int) := by rw [IntKind.wrap_u64]; omega
      have r0 : (0 : Int) ≤ ((k % 32 : Nat) : Int) := Int.natCast_nonneg _
      have rq : min (k % 32) 32 = k % 32 := by omega
      generalize L.getD (k / 32) 0 = v at hc HE HA
      generalize k / 32 = i at q q2 q3 q4 D1 e0 e1 hc
      generalize k % 32 = j at r1 r2 r3 r0 HE HA rq
      clear E hk hn hv h hw
      go_enter Try.func9, Try.ntmps9
      go_wp2_with fail
      go_ret
      exact ⟨by rw [HE.out, ← HA.out] <;> rfl, rfl⟩
    · have D1 : decide (((k / 32 : Nat) : Int) < (L.length : Int)) = false := dec_f (by omega)
      have HE := Lib.hid (show Bs.has L (k : Int) = false from by rw [E, Bs.testBit_out (by omega)])
      generalize k / 32 = i at q q2 q3 q4 D1 e0 hk
      clear E hn h hw
      go_enter Try.func9, Try.ntmps9
      go_wp2_with fail
      go_ret
      exact ⟨by rw [HE.out] <;> rfl, rfl⟩
  · have d0 : decide ((0 : Int) ≤ n) = false := dec_f hn
    have HE := Lib.hid (show Bs.has L n = false from by unfold Bs.has; rw [d0]; rfl)
    clear hn
    go_enter Try.func9, Try.ntmps9
    go_wp2_with fail
    go_ret
    exact ⟨by rw [HE.out] <;> rfl, rfl⟩
  --]
end Go.Proofs.Ytbmmcmdopekccaa
