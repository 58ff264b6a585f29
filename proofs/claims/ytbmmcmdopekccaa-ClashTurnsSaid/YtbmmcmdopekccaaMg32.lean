/-
  Texts of this claim, merged: ClSpec.
-/
import Derived.Test.YtbmmcmdopekccaaMg05
import Derived.Test.YtbmmcmdopekccaaMg31
/-
  Plain mathematics of layer 14: routes that bar one another. No program is named here.
-/
namespace Go.Proofs.Ytbmmcmdopekccaa.Cl
open Go Pl Wk

/-- Is a section in both? -/
def share (a b : List Stp) : Bool := a.any fun x => within b x.s
def opp (a b : List Dm.Dem) : Bool := Dm.opposed a b || Dm.opposed b a
def leads (r s : Rt.Route) : Bool := decide (0 ≤ r.exit) && (r.exit == s.entry)
def meets (r s : Rt.Route) : Bool := !leads r s && (share r.lap s.steps || share r.lap s.lap)
def bars (r s : Rt.Route) : Bool := (r.entry == s.entry) || share r.steps s.steps || opp r.pts s.pts || meets r s || meets s r
/-- Does the route at one place bar that at another one? -/
def hit (L : List Rt.Route) (i k : Nat) : Bool := decide (k ≠ i) && bars (L.getD i Rt.zero) (L.getD k Rt.zero)
/-- Those of the first n that the one at a place bars. -/
def barred (L : List Rt.Route) (i n : Nat) : List Int := ((List.range n).filter fun k => hit L i k).map fun (k : Nat) => (k : Int)
def row (L : List Rt.Route) (i : Nat) : List Nat := Bs.ofL (L.length : Int) (barred L i L.length)
def rows (L : List Rt.Route) : List (List Nat) := (List.range L.length).map (row L)

theorem share_iff {a b : List Stp} : share a b = true ↔ ∃ x ∈ a, ∃ y ∈ b, y.s = x.s := by
  unfold share within
  simp [List.any_eq_true]
theorem share_comm (a b : List Stp) : share a b = share b a := by
  rw [Bool.eq_iff_iff, share_iff, share_iff]
  exact ⟨fun ⟨x, hx, y, hy, e⟩ => ⟨y, hy, x, hx, e.symm⟩, fun ⟨x, hx, y, hy, e⟩ => ⟨y, hy, x, hx, e.symm⟩⟩
theorem opp_comm (a b : List Dm.Dem) : opp a b = opp b a := Bool.or_comm _ _
theorem entry_comm (r s : Rt.Route) : (r.entry == s.entry) = (s.entry == r.entry) := by
  rw [Bool.eq_iff_iff, beq_iff_eq, beq_iff_eq]
  exact ⟨Eq.symm, Eq.symm⟩
theorem bars_comm (r s : Rt.Route) : bars r s = bars s r := by
  unfold bars
  rw [entry_comm r s, share_comm r.steps s.steps, opp_comm r.pts s.pts, Bool.or_assoc (_ || _) (meets r s), Bool.or_comm (meets r s), ← Bool.or_assoc]
theorem hit_comm (L : List Rt.Route) (i k : Nat) : hit L i k = hit L k i := by
  unfold hit
  rw [bars_comm]
  congr 1
  rw [Bool.eq_iff_iff, decide_eq_true_iff, decide_eq_true_iff]
  exact ⟨Ne.symm, Ne.symm⟩
theorem hit_self (L : List Rt.Route) (i : Nat) : hit L i i = false := by
  unfold hit
  rw [decide_eq_false (p := i ≠ i) (fun h => h rfl), Bool.false_and]
theorem barred_succ (L : List Rt.Route) (i n : Nat) : barred L i (n + 1) = barred L i n ++ if hit L i n = true then [(n : Int)] else [] := by
  unfold barred
  rw [List.range_succ, List.filter_append, List.map_append]
  congr 1
  cases h : hit L i n <;> simp [h]
theorem barred_len (L : List Rt.Route) (i n : Nat) : (barred L i n).length ≤ n := by
  unfold barred
  rw [List.length_map]
  exact Nat.le_trans (List.length_filter_le _ _) (by rw [List.length_range]; exact Nat.le_refl _)
theorem mem_barred {L : List Rt.Route} {i n : Nat} {x : Int} : x ∈ barred L i n ↔ ∃ k : Nat, k < n ∧ hit L i k = true ∧ (k : Int) = x := by
  unfold barred
  simp [and_assoc]
theorem has_row (L : List Rt.Route) (i : Nat) {k : Nat} (hk : k < L.length) : Bs.has (row L i) (k : Int) = hit L i k := by
  unfold row
  rw [Bs.has_ofL, decide_eq_true (p := (0 : Int) ≤ (k : Int)) (Int.natCast_nonneg k), decide_eq_true (p := (k : Int) < (L.length : Int)) (by omega), Bool.true_and, Bool.true_and, Bool.eq_iff_iff, List.any_eq_true]
  constructor
  · rintro ⟨x, hx, h⟩
    obtain ⟨j, -, hj, rfl⟩ := mem_barred.1 hx
    have h2 : (j : Int) = (k : Int) := of_decide_eq_true h
    obtain rfl : j = k := by omega
    exact hj
  · intro h
    exact ⟨(k : Int), mem_barred.2 ⟨k, hk, h, rfl⟩, decide_eq_true rfl⟩
theorem rows_len (L : List Rt.Route) : (rows L).length = L.length := by unfold rows; rw [List.length_map, List.length_range]
theorem rows_at (L : List Rt.Route) {i : Nat} (hi : i < L.length) : (rows L)[i]? = some (row L i) := by
  unfold rows
  rw [List.getElem?_map, List.getElem?_range hi]
  rfl
theorem row_w32 (L : List Rt.Route) (i : Nat) : Bs.W32 (row L i) := Bs.W32.ofL _ _
theorem row_len (L : List Rt.Route) (i : Nat) : (row L i).length ≤ L.length := by
  unfold row
  rw [Bs.ofL_len, Bs.new_len]
  split <;> omega
theorem rows_take (L : List Rt.Route) {i : Nat} (hi : i < L.length) : (rows L).take (i + 1) = (rows L).take i ++ [row L i] := by
  rw [List.take_add_one, rows_at L hi]
  rfl
/-- Two that are turned round with all others stand so, too. -/
theorem hit_turn (L : List Rt.Route) {i k : Nat} (hi : i < L.length) (hk : k < L.length) : hit L.reverse (L.length - 1 - i) (L.length - 1 - k) = hit L i k := by
  have at_ : ∀ {j : Nat}, j < L.length → L.reverse.getD (L.length - 1 - j) Rt.zero = L.getD j Rt.zero := fun {j} hj => by
    rw [List.getD_eq_getElem?_getD, List.getD_eq_getElem?_getD, List.getElem?_reverse (by omega)]
    congr 2
    omega
  unfold hit
  rw [at_ hi, at_ hk]
  congr 1
  rw [Bool.eq_iff_iff, decide_eq_true_iff, decide_eq_true_iff]
  omega
/-- What the rules tell of an overlap, section by section. -/
def over (a b : Rt.Route) : Bool := a.lap.any fun x => within b.steps x.s || within b.lap x.s
theorem over_eq (a b : Rt.Route) : over a b = (share a.lap b.steps || share a.lap b.lap) := by
  unfold over share
  induction a.lap with
  | nil => rfl
  | cons x l ih =>
    rw [List.any_cons, List.any_cons, List.any_cons, ih]
    cases within b.steps x.s <;> cases within b.lap x.s <;> simp
def must (a b : Rt.Route) : Bool := (a.entry == b.entry) || share a.steps b.steps || Dm.opposed a.pts b.pts || (over a b && (a.exit != b.entry))
theorem must_bars {a b : Rt.Route} (h : must a b = true) : bars a b = true := by
  unfold must at h
  rw [over_eq] at h
  unfold bars meets leads opp
  cases h1 : (a.entry == b.entry)
  · cases h2 : share a.steps b.steps
    · cases h3 : Dm.opposed a.pts b.pts
      · rw [h1, h2, h3] at h
        cases h4 : (share a.lap b.steps || share a.lap b.lap)
        · rw [h4] at h; cases h
        · rw [h4] at h
          have h5 : (a.exit == b.entry) = false := by
            have : (a.exit != b.entry) = true := h
            rw [bne_iff_ne] at this
            rw [beq_eq_false_iff_ne]; exact this
          rw [h5]
          simp
      · simp
    · simp
  · simp
end Go.Proofs.Ytbmmcmdopekccaa.Cl
