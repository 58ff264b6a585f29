/-
  Texts of this claim, merged: PlRefC, PlRefD, PlRefE.
-/
import Derived.Test.YtgajdfecajleiaaMg06
import Derived.Test.YtgajdfecajleiaaMg08
import Derived.Deep.RegionLaw
/-
  The document's work in memory of layer 5, and the walk of its free: an end that is neither joined nor stopped yet.
-/
namespace Go.Proofs.Ytgajdfecajleiaa
open Go.RowKit

def toldB (M : List It.Itm) (k : Int) : Bool := M.any fun y => decide (y.k = k)
/-- The work's cells. -/
def workCells (M : List It.Itm) (vS vG : Value) : Array Value :=
  #[.int .i64 (Pl.num M 1), .int .i64 (Pl.num M 2), .int .i64 (Pl.num M 3), .int .i64 (Pl.num M 4), vS, vG, .bool false, .bool (toldB M 1), .bool (toldB M 2), .bool (toldB M 3), .bool (toldB M 4)]
/-- Block g is the work, with the numbers of M, and these sections and signals. -/
def WorkL (tw tS tG : TypeId) (w : World) (g : Nat) (M : List It.Itm) (LS : List Pl.Sec) (LG : List Pl.Sig) : Prop :=
  ∃ vS vG, w.heap[g]? = some (.cells (workCells M vS vG) tw (0, 0)) ∧ w.ownsRow (g + 1) tS LSec.m vS LS.length (LSec.all LS) ∧ w.ownsRow (g + 1) tG LSig.m vG LG.length (LSig.all LG) ∧ ∀ k, vS.ownBlock = some k → vG.ownBlock ≠ some k
/-- Block g is the work behind the lines M: its numbers, its sections and signals as they were told. -/
def WorkAt (tw tS tG : TypeId) (w : World) (g : Nat) (M : List It.Itm) : Prop := WorkL tw tS tG w g M (Pl.wS M) (Pl.wG M)
theorem WorkL.below {tw tS tG : TypeId} {w w' : World} {g : Nat} {M : List It.Itm} {LS : List Pl.Sec} {LG : List Pl.Sig} (h : WorkL tw tS tG w g M LS LG) (hb : Below w.heap.size w w') : WorkL tw tS tG w' g M LS LG := by
  obtain ⟨vS, vG, h1, h2, h3, h4⟩ := h
  exact ⟨vS, vG, (hb.block _ (Array.getElem?_eq_some_iff.1 h1).1).trans h1, ownsRow_below h2 hb, ownsRow_below h3 hb, h4⟩
theorem work_row {w : World} {g : Nat} {t : TypeId} {M : List It.Itm} {vS vG : Value} (h : w.heap[g]? = some (.cells (workCells M vS vG) t (0, 0))) :
    (w.cell? ⟨g, 0, none⟩ = some (.int .i64 (Pl.num M 1)) ∧ w.cell? ⟨g, 1, none⟩ = some (.int .i64 (Pl.num M 2)) ∧ w.cell? ⟨g, 2, none⟩ = some (.int .i64 (Pl.num M 3)) ∧ w.cell? ⟨g, 3, none⟩ = some (.int .i64 (Pl.num M 4)) ∧ w.cell? ⟨g, 4, none⟩ = some vS ∧ w.cell? ⟨g, 5, none⟩ = some vG) ∧
    (w.cell? ⟨g, 6, none⟩ = some (.bool false) ∧ w.cell? ⟨g, 7, none⟩ = some (.bool (toldB M 1)) ∧ w.cell? ⟨g, 8, none⟩ = some (.bool (toldB M 2)) ∧ w.cell? ⟨g, 9, none⟩ = some (.bool (toldB M 3)) ∧ w.cell? ⟨g, 10, none⟩ = some (.bool (toldB M 4))) ∧ (∀ j, w.frozen? ⟨g, j, none⟩ = false) ∧ g < w.heap.size :=
  ⟨⟨cell_of_row w g 0 _ t _ h, cell_of_row w g 1 _ t _ h, cell_of_row w g 2 _ t _ h, cell_of_row w g 3 _ t _ h, cell_of_row w g 4 _ t _ h, cell_of_row w g 5 _ t _ h⟩,
    ⟨cell_of_row w g 6 _ t _ h, cell_of_row w g 7 _ t _ h, cell_of_row w g 8 _ t _ h, cell_of_row w g 9 _ t _ h, cell_of_row w g 10 _ t _ h⟩, fun j => frozen_of_row w g j _ t h, (Array.getElem?_eq_some_iff.1 h).1⟩
theorem on_to {w : World} {b o : Nat} {s : Pl.Sec} (h : LSec.On w b o s) {e : Nat} (he : e < 3) : w.cell? ⟨b, o + 3 + e * 3, none⟩ = some (.int .i64 (s.get e).goes) := by
  have : e = 0 ∨ e = 1 ∨ e = 2 := by omega
  rcases this with rfl | rfl | rfl
  · exact h 3 _ rfl
  · exact h 6 _ rfl
  · exact h 9 _ rfl
theorem on_at {w : World} {b o : Nat} {s : Pl.Sec} (h : LSec.On w b o s) {e : Nat} (he : e < 3) : w.cell? ⟨b, o + 3 + e * 3 + 1, none⟩ = some (.int .i64 (s.get e).at_) := by
  have : e = 0 ∨ e = 1 ∨ e = 2 := by omega
  rcases this with rfl | rfl | rfl
  · exact h 4 _ rfl
  · exact h 7 _ rfl
  · exact h 10 _ rfl
theorem on_sig {w : World} {b o : Nat} {s : Pl.Sec} (h : LSec.On w b o s) {e : Nat} (he : e < 3) : w.cell? ⟨b, o + 3 + e * 3 + 2, none⟩ = some (.int .i64 (s.get e).sig) := by
  have : e = 0 ∨ e = 1 ∨ e = 2 := by omega
  rcases this with rfl | rfl | rfl
  · exact h 5 _ rfl
  · exact h 8 _ rfl
  · exact h 11 _ rfl
/-- What is named, if it is free. -/
inductive FreeIs (L : List Pl.Sec) (t : It.Tp) : Int × Int × Int → Prop
  | none (h : Pl.find L t.n = -1) : FreeIs L t (0, 0, 4)
  | noEnd (i : Nat) (s : Pl.Sec) (h : Pl.find L t.n = i) (hs : L[i]? = some s) (he : Pl.endAt s.pt t.c = Option.none) : FreeIs L t (0, 0, 5)
  | used (i e : Nat) (s : Pl.Sec) (h : Pl.find L t.n = i) (hs : L[i]? = some s) (he : Pl.endAt s.pt t.c = some e) (ht : (s.get e).goes ≠ -2) : FreeIs L t (0, 0, 6)
  | free (i e : Nat) (s : Pl.Sec) (h : Pl.find L t.n = i) (hs : L[i]? = some s) (he : Pl.endAt s.pt t.c = some e) (ht : (s.get e).goes = -2) : FreeIs L t (i, e, 0)
def FreeGives (L : List Pl.Sec) (t : It.Tp) (w : World) (x : Ending) (w' : World) : Prop := ∃ a b c, x = .returned (.tuple #[.int .i64 a, .int .i64 b, .int .i64 c]) ∧ FreeIs L t (a, b, c) ∧ Below w.heap.size w w'
theorem FreeGives.mk {L : List Pl.Sec} {t : It.Tp} {w w' : World} {x : Ending} (a b c : Int) (h : FreeIs L t (a, b, c)) (he : x = .returned (.tuple #[.int .i64 a, .int .i64 b, .int .i64 c])) (hb : Below w.heap.size w w') : FreeGives L t w x w' := ⟨a, b, c, he, h, hb⟩
theorem endAt_lt {pt : Bool} {c : UInt8} {e : Nat} (h : Pl.endAt pt c = some e) : e < 3 := by
  have := (Pl.letter_endAt h).2
  unfold Pl.nEnds at this
  split at this <;> omega
set_option maxHeartbeats 8000000 in
set_option maxRecDepth 100000 in
theorem rpFree_any (g : Nat) (M : List It.Itm) (L : List Pl.Sec) (LG : List Pl.Sig) (t : It.Tp) (w : World) (h : WorkL 82 39 41 w g M L LG) (hl : L.length ≤ 1000000) (hc : t.c ≠ 0) :
    Calls Try.prog 52 #[.pointer (some ⟨g, 0, none⟩), .agg #[.string (txt t.n), .int .u8 t.c.toNat]] w (FreeGives L t w) := by
  obtain ⟨vS, vG, hrow, hS, hG, hap⟩ := h
  obtain ⟨-, A, cp, rfl, hcap, hR⟩ := Lies.Row.of_own hS
  obtain ⟨⟨-, -, -, -, s4, -⟩, -, hfz, hg⟩ := work_row hrow
  clear hS hG hap hcap
  have X0 := Lib.hid ((Below.refl w.heap.size w).alloc (Nat.le_refl _) (.cells #[.string (txt t.n), .int .u8 t.c.toNat] 73))
  have EN := Lib.hid (fun W (h : Below w.heap.size w W) => Made.of h (rpEnd_any A cp L t W (hR.below rfl h) hl hc))
  obtain ⟨⟨k0, k1⟩, g2⟩ := row2c (show (w.alloc (.cells #[.string (txt t.n), .int .u8 t.c.toNat] 73)).heap[w.heap.size]? = some (.cells #[.string (txt t.n), .int .u8 t.c.toNat] 73 (0, 0)) from heap_alloc_new _ _)
  have K4 : (w.alloc (.cells #[.string (txt t.n), .int .u8 t.c.toNat] 73)).cell? ⟨g, 4, none⟩ = some (.slice A L.length cp) := by
    rw [X0.out.cell (show (⟨g, 4, none⟩ : Addr).block < w.heap.size from hg)]; exact s4
  have g1 : g < (w.alloc (.cells #[.string (txt t.n), .int .u8 t.c.toNat] 73)).heap.size := Nat.lt_trans hg g2
  rcases Pl.find_cases L t.n with ⟨hf, _⟩ | ⟨i, s, hf, hs, _⟩
  · have P := Lib.hid (FreeIs.none hf)
    rw [endI_no (show Pl.find L t.n < 0 by rw [hf]; decide)] at EN
    clear hf hR hl hc
    go_enter Try.func52, Try.ntmps52
    go_wp2_with fail
    go_region_held3 (fun w' => w'.cell? ⟨g, 4, none⟩ = some (.slice A L.length cp) ∧ w'.cell? ⟨w.heap.size, 0, none⟩ = some (.string (txt t.n)) ∧ w'.cell? ⟨w.heap.size, 1, none⟩ = some (.int .u8 t.c.toNat))
      (first | exact ⟨K4, k0, k1⟩ | exact ⟨(hcell _ _ g1).trans K4, (hcell _ _ g2).trans k0, (hcell _ _ g2).trans k1⟩)
      (first
        | (go_at_call 42; (with_reducible refine (EN.out _ X0.out.drew).mono ?_); rintro e w' ⟨rfl, hbl, hacc, hz⟩; have hcell := (bcell hbl).1))
    all_goals go_wp2_with fail
    all_goals refine bodyPost_ret ?_ rfl (FreeGives.mk _ _ _ P.out rfl hacc)
    all_goals simp [results, Try.results52, go_sem]
  · rw [endI_at hf hs] at EN
    cases he : Pl.endAt s.pt t.c with
    | none =>
      have P := Lib.hid (FreeIs.noEnd i s hf hs he)
      rw [he] at EN
      clear hf hs he hR hl hc
      go_enter Try.func52, Try.ntmps52
      go_wp2_with fail
      go_region_held3 (fun w' => w'.cell? ⟨g, 4, none⟩ = some (.slice A L.length cp) ∧ w'.cell? ⟨w.heap.size, 0, none⟩ = some (.string (txt t.n)) ∧ w'.cell? ⟨w.heap.size, 1, none⟩ = some (.int .u8 t.c.toNat))
        (first | exact ⟨K4, k0, k1⟩ | exact ⟨(hcell _ _ g1).trans K4, (hcell _ _ g2).trans k0, (hcell _ _ g2).trans k1⟩)
        (first
          | (go_at_call 42; (with_reducible refine (EN.out _ X0.out.drew).mono ?_); rintro e w' ⟨rfl, hbl, hacc, hz⟩; have hcell := (bcell hbl).1))
      all_goals go_wp2_with fail
      all_goals refine bodyPost_ret ?_ rfl (FreeGives.mk _ _ _ P.out rfl hacc)
      all_goals simp [results, Try.results52, go_sem]
    | some e =>
      have h3 := endAt_lt he
      rw [he] at EN
      obtain ⟨hi, hsi⟩ := List.getElem?_eq_some_iff.1 hs
      obtain ⟨b, o, hA, hb, on⟩ := hR.at hi
      rw [hsi] at on
      have t0 := on_to on h3
      rw [show i * LSec.m = i * 12 from rfl] at t0
      subst hA
      clear on hsi
      by_cases ht : (s.get e).goes = -2
      · have P := Lib.hid (FreeIs.free i e s hf hs he ht)
        rw [ht] at t0
        clear hf hs he hR hl hc ht
        go_enter Try.func52, Try.ntmps52
        go_wp2_with fail
        go_region_held3 (fun w' => w'.cell? ⟨g, 4, none⟩ = some (.slice (some ⟨b, o, none⟩) L.length cp) ∧ w'.cell? ⟨w.heap.size, 0, none⟩ = some (.string (txt t.n)) ∧ w'.cell? ⟨w.heap.size, 1, none⟩ = some (.int .u8 t.c.toNat))
          (first | exact ⟨K4, k0, k1⟩ | exact ⟨(hcell _ _ g1).trans K4, (hcell _ _ g2).trans k0, (hcell _ _ g2).trans k1⟩)
          (first
            | (go_at_call 42; (with_reducible refine (EN.out _ X0.out.drew).mono ?_); rintro e w' ⟨rfl, hbl, hacc, hz⟩; have hcell := (bcell hbl).1))
        all_goals have T0 := (hacc.cell (show (⟨b, o + i * 12 + 3 + e * 3, none⟩ : Addr).block < w.heap.size from hb)).trans t0
        all_goals have S4 := (hacc.cell (show (⟨g, 4, none⟩ : Addr).block < w.heap.size from hg)).trans s4
        all_goals go_wp2_with fail
        all_goals refine bodyPost_ret ?_ rfl (FreeGives.mk _ _ _ P.out rfl hacc)
        all_goals simp [results, Try.results52, go_sem]
      · have P := Lib.hid (FreeIs.used i e s hf hs he ht)
        have h2 : ((s.get e).goes != -2) = true := by rw [bne_iff_ne]; exact ht
        clear hf hs he hR hl hc ht
        go_enter Try.func52, Try.ntmps52
        go_wp2_with fail
        go_region_held3 (fun w' => w'.cell? ⟨g, 4, none⟩ = some (.slice (some ⟨b, o, none⟩) L.length cp) ∧ w'.cell? ⟨w.heap.size, 0, none⟩ = some (.string (txt t.n)) ∧ w'.cell? ⟨w.heap.size, 1, none⟩ = some (.int .u8 t.c.toNat))
          (first | exact ⟨K4, k0, k1⟩ | exact ⟨(hcell _ _ g1).trans K4, (hcell _ _ g2).trans k0, (hcell _ _ g2).trans k1⟩)
          (first
            | (go_at_call 42; (with_reducible refine (EN.out _ X0.out.drew).mono ?_); rintro e w' ⟨rfl, hbl, hacc, hz⟩; have hcell := (bcell hbl).1))
        all_goals have T0 := (hacc.cell (show (⟨b, o + i * 12 + 3 + e * 3, none⟩ : Addr).block < w.heap.size from hb)).trans t0
        all_goals have S4 := (hacc.cell (show (⟨g, 4, none⟩ : Addr).block < w.heap.size from hg)).trans s4
        all_goals go_wp2_with fail
        all_goals refine bodyPost_ret ?_ rfl (FreeGives.mk _ _ _ P.out rfl hacc)
        all_goals simp [results, Try.results52, go_sem]
end Go.Proofs.Ytgajdfecajleiaa
/-
  The walk of the document's answer of layer 5: a number more.
-/
namespace Go.Proofs.Ytgajdfecajleiaa
open Go.RowKit

theorem toldB_snoc (M : List It.Itm) (x : It.Itm) (k : Int) : toldB (M ++ [x]) k = (toldB M k || decide (x.k = k)) := by simp [toldB, List.any_append]
theorem toldB_ne {M : List It.Itm} {k : Int} (h : toldB M k = false) : ∀ y ∈ M, y.k ≠ k := fun y hy e => by
  have : toldB M k = true := by
    unfold toldB
    rw [List.any_eq_true]
    exact ⟨y, hy, by simpa using e⟩
  rw [h] at this; cases this
/-- What a line's call leaves. -/
def LineGives (tw tS tG : TypeId) (g : Nat) (M : List It.Itm) (x : It.Itm) (er : Int) (w : World) (e : Ending) (w' : World) : Prop :=
  e = .returned (.int .i64 er) ∧ (er = 0 → WorkAt tw tS tG w' g (M ++ [x])) ∧ Below g w w'
theorem WorkAt.row {tw tS tG : TypeId} {w w' : World} {g : Nat} {M K : List It.Itm} {vS vG : Value} (hS : w.ownsRow (g + 1) tS LSec.m vS (Pl.wS M).length (LSec.all (Pl.wS M))) (hG : w.ownsRow (g + 1) tG LSig.m vG (Pl.wG M).length (LSig.all (Pl.wG M))) (hap : ∀ k, vS.ownBlock = some k → vG.ownBlock ≠ some k)
    (hrow : w'.heap[g]? = some (.cells (workCells K vS vG) tw (0, 0))) (hk : ∀ b, b ≠ g → b < w.heap.size → w'.heap[b]? = w.heap[b]?) (e1 : Pl.wS K = Pl.wS M) (e2 : Pl.wG K = Pl.wG M) : WorkAt tw tS tG w' g K := by
  refine ⟨vS, vG, hrow, ?_, ?_, hap⟩
  · rw [e1]
    refine ⟨hS.1, ?_⟩
    rcases hS.2 with hn | ⟨b, cap, cur, rfl, hbb, hgg, rest⟩
    · exact .inl hn
    · exact .inr ⟨b, cap, cur, rfl, hbb, by rw [hk b (by omega) (Array.getElem?_eq_some_iff.1 hgg).1]; exact hgg, rest⟩
  · rw [e2]
    refine ⟨hG.1, ?_⟩
    rcases hG.2 with hn | ⟨b, cap, cur, rfl, hbb, hgg, rest⟩
    · exact .inl hn
    · exact .inr ⟨b, cap, cur, rfl, hbb, by rw [hk b (by omega) (Array.getElem?_eq_some_iff.1 hgg).1]; exact hgg, rest⟩
theorem number_world {w : World} {g : Nat} {cs : Array Value} {tw : TypeId} (hrow : w.heap[g]? = some (.cells cs tw (0, 0))) (a b : Nat) (u v : Value) (o : Obj) :
    ((((w.setCell ⟨g, a, none⟩ u).setCell ⟨g, b, none⟩ v).alloc o).drew.drew).heap[g]? = some (.cells ((cs.setIfInBounds a u).setIfInBounds b v) tw (0, 0)) ∧
    (∀ c, c ≠ g → c < w.heap.size → ((((w.setCell ⟨g, a, none⟩ u).setCell ⟨g, b, none⟩ v).alloc o).drew.drew).heap[c]? = w.heap[c]?) ∧ Below g w ((((w.setCell ⟨g, a, none⟩ u).setCell ⟨g, b, none⟩ v).alloc o).drew.drew) := by
  have hg := (Array.getElem?_eq_some_iff.1 hrow).1
  refine ⟨?_, fun c hc hlt => ?_, ?_⟩
  · show (((w.setCell ⟨g, a, none⟩ u).setCell ⟨g, b, none⟩ v).alloc o).heap[g]? = _
    rw [heap_alloc_old _ _ (by simpa using hg)]
    exact heap_setCell_same _ _ _ _ _ _ (heap_setCell_same _ _ _ _ _ _ hrow)
  · show (((w.setCell ⟨g, a, none⟩ u).setCell ⟨g, b, none⟩ v).alloc o).heap[c]? = _
    rw [heap_alloc_old _ _ (by simpa using hlt), heap_setCell_other _ ⟨g, b, none⟩ c v (by simpa using fun e => hc e), heap_setCell_other _ ⟨g, a, none⟩ c u (by simpa using fun e => hc e)]
  · refine Below.drew (Below.drew (Below.alloc ?_ (by simp; omega) _))
    exact ((Below.refl g w).setCell (Nat.le_refl _) _).setCell (Nat.le_refl _) _
theorem cells_num1 {M : List It.Itm} {x : It.Itm} (h : toldB M 1 = false) (hk : x.k = 1) (vS vG : Value) : ((workCells M vS vG).setIfInBounds 7 (.bool true)).setIfInBounds 0 (.int .i64 x.n) = workCells (M ++ [x]) vS vG := by
  have h0 := toldB_ne h
  simp [workCells, toldB_snoc, hk, Pl.num_snoc (M := M) (x := x) _ (by rw [hk]; exact h0)]
theorem cells_num2 {M : List It.Itm} {x : It.Itm} (h : toldB M 2 = false) (hk : x.k = 2) (vS vG : Value) : ((workCells M vS vG).setIfInBounds 8 (.bool true)).setIfInBounds 1 (.int .i64 x.n) = workCells (M ++ [x]) vS vG := by
  have h0 := toldB_ne h
  simp [workCells, toldB_snoc, hk, Pl.num_snoc (M := M) (x := x) _ (by rw [hk]; exact h0)]
theorem cells_num3 {M : List It.Itm} {x : It.Itm} (h : toldB M 3 = false) (hk : x.k = 3) (vS vG : Value) : ((workCells M vS vG).setIfInBounds 9 (.bool true)).setIfInBounds 2 (.int .i64 x.n) = workCells (M ++ [x]) vS vG := by
  have h0 := toldB_ne h
  simp [workCells, toldB_snoc, hk, Pl.num_snoc (M := M) (x := x) _ (by rw [hk]; exact h0)]
theorem cells_num4 {M : List It.Itm} {x : It.Itm} (h : toldB M 4 = false) (hk : x.k = 4) (vS vG : Value) : ((workCells M vS vG).setIfInBounds 10 (.bool true)).setIfInBounds 3 (.int .i64 x.n) = workCells (M ++ [x]) vS vG := by
  have h0 := toldB_ne h
  simp [workCells, toldB_snoc, hk, Pl.num_snoc (M := M) (x := x) _ (by rw [hk]; exact h0)]
set_option maxHeartbeats 8000000 in
set_option maxRecDepth 100000 in
theorem rpNumber_any (g : Nat) (M : List It.Itm) (x : It.Itm) (w : World) (h : WorkAt 82 39 41 w g M) (hk : It.isNum x.k = true) :
    Calls Try.prog 40 #[.pointer (some ⟨g, 0, none⟩), itemV x] w (LineGives 82 39 41 g M x (if toldB M x.k then 3 else 0) w) := by
  obtain ⟨e1, e2⟩ := Pl.w_num (M := M) hk
  obtain ⟨vS, vG, hrow, hS, hG, hap⟩ := h
  obtain ⟨⟨s0, s1, s2, s3, s4, s5⟩, ⟨s6, s7, s8, s9, s10⟩, hfz, hg⟩ := work_row hrow
  have hx : x.k = 1 ∨ x.k = 2 ∨ x.k = 3 ∨ x.k = 4 := by
    unfold It.isNum at hk
    have := of_decide_eq_true hk
    omega
  have N0 := World.new_ne _ _ s0
  have N7 := World.new_ne _ _ s7
  clear s4 s5 s6
  have HB := Lib.hid ((Below.refl g w).alloc (Nat.le_of_lt hg) (.cells (cells7 x).toArray 76))
  have CN1 := Lib.hid (fun h hk => cells_num1 (M := M) (x := x) h hk vS vG)
  have CN2 := Lib.hid (fun h hk => cells_num2 (M := M) (x := x) h hk vS vG)
  have CN3 := Lib.hid (fun h hk => cells_num3 (M := M) (x := x) h hk vS vG)
  have CN4 := Lib.hid (fun h hk => cells_num4 (M := M) (x := x) h hk vS vG)
  have E1 := Lib.hid e1
  have E2 := Lib.hid e2
  have HR := Lib.hid hrow
  have HS := Lib.hid hS
  have HG := Lib.hid hG
  have HA := Lib.hid hap
  clear e1 e2 hrow hS hG hap hk
  obtain ⟨k, nm, n, t0, t1⟩ := x
  have hxk : k = 1 ∨ k = 2 ∨ k = 3 ∨ k = 4 := hx
  clear hx
  rcases hxk with rfl | rfl | rfl | rfl
  · have fa := hfz 7
    have fb := hfz 0
    clear hfz
    cases ht : toldB M 1
    · rw [ht] at s7
      have HT := Lib.hid ht
      clear ht
      go_enter Try.func40, Try.ntmps40
      go_wp2_with fail
      go_region
      go_wp2_with fail
      go_region
      go_wp2_with fail
      go_ret
      obtain ⟨r1, r2, r3⟩ := number_world HR.out 7 0 (.bool true) (.int .i64 n) (.cells (cells7 ⟨1, nm, n, t0, t1⟩).toArray 76)
      rw [CN1.out HT.out (by first | rfl | trivial)] at r1
      exact ⟨rfl, fun _ => WorkAt.row HS.out HG.out HA.out r1 r2 E1.out E2.out, r3⟩
    · rw [ht] at s7
      have HT := Lib.hid ht
      clear ht
      go_enter Try.func40, Try.ntmps40
      go_wp2_with fail
      go_region
      go_wp2_with fail
      go_ret
      exact ⟨rfl, fun h => by simp at h, HB.out.drew⟩
  · have fa := hfz 8
    have fb := hfz 1
    clear hfz
    cases ht : toldB M 2
    · rw [ht] at s8
      have HT := Lib.hid ht
      clear ht
      go_enter Try.func40, Try.ntmps40
      go_wp2_with fail
      go_region
      go_wp2_with fail
      go_region
      go_wp2_with fail
      go_ret
      obtain ⟨r1, r2, r3⟩ := number_world HR.out 8 1 (.bool true) (.int .i64 n) (.cells (cells7 ⟨2, nm, n, t0, t1⟩).toArray 76)
      rw [CN2.out HT.out (by first | rfl | trivial)] at r1
      exact ⟨rfl, fun _ => WorkAt.row HS.out HG.out HA.out r1 r2 E1.out E2.out, r3⟩
    · rw [ht] at s8
      have HT := Lib.hid ht
      clear ht
      go_enter Try.func40, Try.ntmps40
      go_wp2_with fail
      go_region
      go_wp2_with fail
      go_ret
      exact ⟨rfl, fun h => by simp at h, HB.out.drew⟩
  · have fa := hfz 9
    have fb := hfz 2
    clear hfz
    cases ht : toldB M 3
    · rw [ht] at s9
      have HT := Lib.hid ht
      clear ht
      go_enter Try.func40, Try.ntmps40
      go_wp2_with fail
      go_region
      go_wp2_with fail
      go_region
      go_wp2_with fail
      go_ret
      obtain ⟨r1, r2, r3⟩ := number_world HR.out 9 2 (.bool true) (.int .i64 n) (.cells (cells7 ⟨3, nm, n, t0, t1⟩).toArray 76)
      rw [CN3.out HT.out (by first | rfl | trivial)] at r1
      exact ⟨rfl, fun _ => WorkAt.row HS.out HG.out HA.out r1 r2 E1.out E2.out, r3⟩
    · rw [ht] at s9
      have HT := Lib.hid ht
      clear ht
      go_enter Try.func40, Try.ntmps40
      go_wp2_with fail
      go_region
      go_wp2_with fail
      go_ret
      exact ⟨rfl, fun h => by simp at h, HB.out.drew⟩
  · have fa := hfz 10
    have fb := hfz 3
    clear hfz
    cases ht : toldB M 4
    · rw [ht] at s10
      have HT := Lib.hid ht
      clear ht
      go_enter Try.func40, Try.ntmps40
      go_wp2_with fail
      go_region
      go_wp2_with fail
      go_region
      go_wp2_with fail
      go_ret
      obtain ⟨r1, r2, r3⟩ := number_world HR.out 10 3 (.bool true) (.int .i64 n) (.cells (cells7 ⟨4, nm, n, t0, t1⟩).toArray 76)
      rw [CN4.out HT.out (by first | rfl | trivial)] at r1
      exact ⟨rfl, fun _ => WorkAt.row HS.out HG.out HA.out r1 r2 E1.out E2.out, r3⟩
    · rw [ht] at s10
      have HT := Lib.hid ht
      clear ht
      go_enter Try.func40, Try.ntmps40
      go_wp2_with fail
      go_region
      go_wp2_with fail
      go_ret
      exact ⟨rfl, fun h => by simp at h, HB.out.drew⟩
end Go.Proofs.Ytgajdfecajleiaa
/-
  The walk of the document's answer of layer 5: a section more.
-/
namespace Go.Proofs.Ytgajdfecajleiaa
open Go.RowKit

theorem infoSec : (Try.prog.info? 39).map (fun i => (i.zero, i.size, i.bytes)) = some (some (.agg #[.string ⟨#[]⟩, .bool false, .int .i64 0, .int .i64 0, .int .i64 0, .int .i64 0, .int .i64 0, .int .i64 0, .int .i64 0, .int .i64 0, .int .i64 0, .int .i64 0]), 12, 104) := by kernel_rfl
abbrev item7 (y : It.Itm) : Array Value := #[.int .i64 y.k, .string (txt y.name), .int .i64 y.n, .string (txt y.e0.n), .int .u8 y.e0.c.toNat, .string (txt y.e1.n), .int .u8 y.e1.c.toNat]
def zeroE : Pl.En := ⟨0, 0, 0⟩
/-- A section's ends, as many of them opened. -/
def secPart (x : It.Itm) (k : Nat) : Pl.Sec := ⟨x.name, Pl.isPt x, x.n, if 0 < k then Pl.openE else zeroE, if 1 < k then Pl.openE else zeroE, if 2 < k then Pl.openE else zeroE⟩
theorem row12 {w : World} {g : Nat} {cs : Array Value} {t : TypeId} (h : w.heap[g]? = some (.cells cs t (0, 0))) : (∀ j, w.cell? ⟨g, j, none⟩ = cs[j]?) ∧ (∀ j, w.frozen? ⟨g, j, none⟩ = false) ∧ g < w.heap.size :=
  ⟨fun j => cell_of_row w g j cs t _ h, fun j => frozen_of_row w g j cs t h, (Array.getElem?_eq_some_iff.1 h).1⟩
theorem set3 {w : World} {g : Nat} {cs : Array Value} {t : TypeId} (h : w.heap[g]? = some (.cells cs t (0, 0))) (a b c : Nat) (u v z : Value) :
    (((w.setCell ⟨g, a, none⟩ u).setCell ⟨g, b, none⟩ v).setCell ⟨g, c, none⟩ z).heap[g]? = some (.cells (((cs.setIfInBounds a u).setIfInBounds b v).setIfInBounds c z) t (0, 0)) :=
  heap_setCell_same _ _ _ _ _ _ (heap_setCell_same _ _ _ _ _ _ (heap_setCell_same _ _ _ _ _ _ h))
theorem part_step (x : It.Itm) (k : Nat) (hk : k < 3) : ((((secCells (secPart x k)).toArray.setIfInBounds (3 + k * 3) (.int .i64 (-2))).setIfInBounds (3 + k * 3 + 1) (.int .i64 0)).setIfInBounds (3 + k * 3 + 2) (.int .i64 (-1))) = (secCells (secPart x (k + 1))).toArray := by
  have : k = 0 ∨ k = 1 ∨ k = 2 := by omega
  rcases this with rfl | rfl | rfl <;> rfl
def litT (x : It.Itm) : List Value := [.string (txt x.name), .bool true, .int .i64 x.n, .int .i64 (-2), .int .i64 0, .int .i64 (-1), .int .i64 (-2), .int .i64 0, .int .i64 (-1), .int .i64 (-2), .int .i64 0, .int .i64 (-1)]
def litF (x : It.Itm) : List Value := [.string (txt x.name), .bool false, .int .i64 x.n, .int .i64 (-2), .int .i64 0, .int .i64 (-1), .int .i64 (-2), .int .i64 0, .int .i64 (-1), .int .i64 (-1), .int .i64 0, .int .i64 (-1)]
theorem litT_one (x : It.Itm) : ∀ u ∈ litT x, u.oneCell' = true := fun u hu => by
  simp only [litT, List.mem_cons, List.not_mem_nil, or_false] at hu
  rcases hu with rfl | rfl | rfl | rfl | rfl | rfl | rfl | rfl | rfl | rfl | rfl | rfl <;> rfl
theorem litF_one (x : It.Itm) : ∀ u ∈ litF x, u.oneCell' = true := fun u hu => by
  simp only [litF, List.mem_cons, List.not_mem_nil, or_false] at hu
  rcases hu with rfl | rfl | rfl | rfl | rfl | rfl | rfl | rfl | rfl | rfl | rfl | rfl <;> rfl
/-- The section that a line tells. -/
def newSec (x : It.Itm) : Pl.Sec := ⟨x.name, Pl.isPt x, x.n, Pl.openE, Pl.openE, if Pl.isPt x then Pl.openE else Pl.stop⟩
theorem litT_eq {x : It.Itm} (hp : Pl.isPt x = true) : litT x = LSec.enc (newSec x) := by simp [litT, newSec, hp, LSec, secCells, Pl.openE]
theorem litF_eq {x : It.Itm} (hp : Pl.isPt x = false) : litF x = LSec.enc (newSec x) := by simp [litF, newSec, hp, LSec, secCells, Pl.openE, Pl.stop]
theorem cells_keep {M : List It.Itm} {x : It.Itm} (h : It.isNum x.k = false) (vS vG : Value) : workCells (M ++ [x]) vS vG = workCells M vS vG := by
  have hk : ∀ k : Int, 1 ≤ k → k ≤ 4 → x.k ≠ k := fun k h1 h2 e => by
    unfold It.isNum at h
    exact absurd (show 1 ≤ x.k ∧ x.k ≤ 4 by omega) (of_decide_eq_false h)
  have n1 := hk 1 (by decide) (by decide)
  have n2 := hk 2 (by decide) (by decide)
  have n3 := hk 3 (by decide) (by decide)
  have n4 := hk 4 (by decide) (by decide)
  simp [workCells, toldB_snoc, Pl.num_other n1, Pl.num_other n2, Pl.num_other n3, Pl.num_other n4, n1, n2, n3, n4]
theorem own_kept {w w' : World} {base : Nat} {e : TypeId} {size : Nat} {v : Value} {n : Nat} {xs : List Value} (h : w.ownsRow base e size v n xs) (hk : ∀ b, v.ownBlock = some b → w'.heap[b]? = w.heap[b]?) : w'.ownsRow base e size v n xs := by
  refine ⟨h.1, ?_⟩
  rcases h.2 with hn | ⟨b, cap, cur, rfl, hbb, hgg, rest⟩
  · exact .inl hn
  · exact .inr ⟨b, cap, cur, rfl, hbb, by rw [hk b rfl]; exact hgg, rest⟩
/-- A row of the work's own has grown, and is the work's again. -/
theorem WorkAt.sections {tw tS tG : TypeId} {w w1 w2 : World} {g : Nat} {M : List It.Itm} {x : It.Itm} {vS vG v' : Value} {g' cap' : Nat} (hrow : w.heap[g]? = some (.cells (workCells M vS vG) tw (0, 0)))
    (hS : w.ownsRow (g + 1) tS LSec.m vS (Pl.wS M).length (LSec.all (Pl.wS M))) (hG : w.ownsRow (g + 1) tG LSig.m vG (Pl.wG M).length (LSig.all (Pl.wG M))) (hap : ∀ k, vS.ownBlock = some k → vG.ownBlock ≠ some k)
    (hb : Below w.heap.size w w1) (hgr : w1.grownBy w2 vS.ownBlock) (hv : v' = .slice (some ⟨g', 0, none⟩) ((Pl.wS M).length + 1) cap') (hown : w2.ownsRow (g + 1) tS LSec.m v' ((Pl.wS M).length + 1) (LSec.all (Pl.wS M) ++ LSec.enc (newSec x))) (hg' : vS.ownBlock = some g' ∨ w.heap.size ≤ g')
    (hk : It.isNum x.k = false) (e1 : Pl.wS (M ++ [x]) = Pl.wS M ++ [newSec x]) (e2 : Pl.wG (M ++ [x]) = Pl.wG M) : WorkAt tw tS tG (w2.setCell ⟨g, 4, none⟩ v') g (M ++ [x]) ∧ Below g w (w2.setCell ⟨g, 4, none⟩ v') := by
  have hg := (Array.getElem?_eq_some_iff.1 hrow).1
  have hbs := hb.size
  have hne : some g ≠ vS.ownBlock := fun e => by have := (hS.lt g e.symm).1; omega
  have row2 : w2.heap[g]? = some (.cells (workCells M vS vG) tw (0, 0)) := by rw [hgr.block g (by omega) hne, hb.block g hg]; exact hrow
  refine ⟨⟨v', vG, ?_, ?_, ?_, ?_⟩, ?_⟩
  · rw [heap_setCell_same _ _ _ _ _ _ row2, cells_keep hk]; rfl
  · rw [e1, List.length_append, List.length_singleton, LSec.all_append, LSec.all_one]
    exact ownsRow_setCell_below hown (a := ⟨g, 4, none⟩) (by show g < g + 1; omega) v'
  · rw [e2]
    refine ownsRow_setCell_below (own_kept hG fun b hb' => ?_) (a := ⟨g, 4, none⟩) (by show g < g + 1; omega) v'
    have hlt := (hG.lt b hb').2
    rw [hgr.block b (by omega) (fun e => hap b e.symm hb'), hb.block b hlt]
  · subst hv
    intro k hk1 hk2
    have : g' = k := by simpa [Value.ownBlock] using hk1
    subst this
    rcases hg' with h | h
    · exact hap g' h hk2
    · have := (hG.lt g' hk2).2; omega
  · have hb' : Below g w w1 := hb.mono (Nat.le_of_lt hg)
    exact (hb'.grown hgr (by omega) (fun k hk => by have := (hS.lt k hk).1; omega)).setCell (Nat.le_refl _) _
set_option maxHeartbeats 8000000 in
set_option maxRecDepth 100000 in
theorem rpSection_any (g : Nat) (M : List It.Itm) (x : It.Itm) (w : World) (h : WorkAt 82 39 41 w g M) (hM : Pl.Ok M) (hx : Pl.isS x = true) :
    Calls Try.prog 37 #[.pointer (some ⟨g, 0, none⟩), itemV x] w (LineGives 82 39 41 g M x (if x.name ∈ Pl.nmS M then 3 else if (Pl.secs M).length = 24 then 9 else 0) w) := by
  obtain ⟨vS, vG, hrow, hS, hG, hap⟩ := h
  obtain ⟨-, A, cp, rfl, hcap, hR⟩ := Lies.Row.of_own hS
  obtain ⟨⟨-, -, -, -, s4, -⟩, -, hfz, hg⟩ := work_row hrow
  obtain ⟨i0, hi, hz0, hz1, hz2⟩ := info_parts infoSec
  have hl : (Pl.wS M).length ≤ 24 := by rw [Pl.wS_len]; exact hM.few
  have X0 := Lib.hid ((Below.refl w.heap.size w).alloc (Nat.le_refl _) (.cells (item7 x) 76))
  have XG := Lib.hid ((Below.refl g w).alloc (Nat.le_of_lt hg) (.cells (item7 x) 76))
  have FN := Lib.hid (fun W (h : Below w.heap.size w W) => rpFind_any A cp (Pl.wS M) x.name W (hR.below rfl h) (by omega))
  obtain ⟨⟨k0, k1, k2, k3, k4, k5, k6⟩, -, g2⟩ := row7 (show (w.alloc (.cells (item7 x) 76)).heap[w.heap.size]? = some (.cells #[.int .i64 x.k, .string (txt x.name), .int .i64 x.n, .string (txt x.e0.n), .int .u8 x.e0.c.toNat, .string (txt x.e1.n), .int .u8 x.e1.c.toNat] 76 (0, 0)) from heap_alloc_new _ _)
  have K4 : (w.alloc (.cells (item7 x) 76)).cell? ⟨g, 4, none⟩ = some (.slice A (Pl.wS M).length cp) := by
    rw [X0.out.cell (show (⟨g, 4, none⟩ : Addr).block < w.heap.size from hg)]; exact s4
  have g1 : g < (w.alloc (.cells (item7 x) 76)).heap.size := Nat.lt_trans hg g2
  rcases Pl.find_wS (M := M) x.name with ⟨hno, hf⟩ | ⟨i, y, hf, hy, hn⟩
  · rw [hf] at FN
    rw [if_neg hno]
    by_cases h24 : (Pl.secs M).length = 24
    · rw [if_pos h24]
      have q24 : (((Pl.wS M).length : Int) == 24) = true := by rw [beq_iff_eq, Pl.wS_len]; omega
      clear hf hno hR hS hG hap hM hl hcap h24
      go_enter Try.func37, Try.ntmps37
      go_wp2_with fail
      go_region_held3 (fun w' => w'.cell? ⟨g, 4, none⟩ = some (.slice A (Pl.wS M).length cp) ∧ w'.cell? ⟨w.heap.size, 1, none⟩ = some (.string (txt x.name)))
        (first | exact ⟨K4, k1⟩ | exact ⟨(hcell _ _ g1).trans K4, (hcell _ _ g2).trans k1⟩)
        (first
          | (go_at_call 41; (with_reducible refine (FN.out _ X0.out.drew).mono ?_); rintro e w' ⟨rfl, rfl⟩))
      all_goals go_wp2_with fail
      all_goals go_ret
      all_goals exact ⟨rfl, fun h => by simp at h, XG.out.drew⟩
    · rw [if_neg h24]
      have q24 : (((Pl.wS M).length : Int) == 24) = false := by rw [beq_eq_false_iff_ne, Pl.wS_len]; omega
      obtain ⟨e1, e2⟩ := Pl.w_sec hM hx hno
      have HE1 := Lib.hid (show Pl.wS (M ++ [x]) = Pl.wS M ++ [newSec x] from e1)
      have HE2 := Lib.hid e2
      have HR := Lib.hid hrow
      have HS := Lib.hid hS
      have HG := Lib.hid hG
      have HA := Lib.hid hap
      have HK := Lib.hid (Pl.sec_facts hx).1
      clear hf hno hR hS hG hap hM hcap h24 e1 e2 hx hrow
      cases hp : Pl.isPt x
      · have hk6 : (x.k == 6) = false := by rw [beq_eq_false_iff_ne]; exact fun e => by simp [Pl.isPt, e] at hp
        go_enter Try.func37, Try.ntmps37
        go_wp2_with fail
        go_region_held3 (fun w' => w'.cell? ⟨g, 4, none⟩ = some (.slice A (Pl.wS M).length cp) ∧ w'.cell? ⟨w.heap.size, 1, none⟩ = some (.string (txt x.name)))
          (first | exact ⟨K4, k1⟩ | exact ⟨(hcell _ _ g1).trans K4, (hcell _ _ g2).trans k1⟩)
          (first
            | (go_at_call 41; (with_reducible refine (FN.out _ X0.out.drew).mono ?_); rintro e w' ⟨rfl, rfl⟩))
        all_goals go_wp2_with fail
        go_loopw [6] (fun v wr => ∃ k : Nat, k ≤ 3 ∧ v = .int .i64 k ∧ wr.heap[w.heap.size + 1]? = some (.cells (secCells (secPart x k)).toArray 39 (0, 0)) ∧ Below w.heap.size w wr) (fun v _ => 3 - (intOf v).toNat)
        case atStart =>
          refine ⟨0, by omega, rfl, ?_, (X0.out.alloc (by simp) _).drew⟩
          have : (((w.alloc (.cells (item7 x) 76)).alloc (.cells (secCells (secPart x 0)).toArray 39)).drew).heap[(w.alloc (.cells (item7 x) 76)).heap.size]? = some (.cells (secCells (secPart x 0)).toArray 39 (0, 0)) := heap_alloc_new (w.alloc (.cells (item7 x) 76)) (.cells (secCells (secPart x 0)).toArray 39)
          simpa [secCells, secPart, hp, zeroE] using this
        case round =>
          obtain ⟨k, hk, rfl, hrw, hbel⟩ := hrel
          obtain ⟨cl, fz, hgb⟩ := row12 hrw
          have RW := Lib.hid hrw
          clear hrw
          have hk4 : k = 0 ∨ k = 1 ∨ k = 2 ∨ k = 3 := by omega
          rcases hk4 with rfl | rfl | rfl | rfl
          · have c0 : wr.cell? ⟨w.heap.size + 1, 3, none⟩ = some (.int .i64 0) := cl 3
            have c1 : wr.cell? ⟨w.heap.size + 1, 4, none⟩ = some (.int .i64 0) := cl 4
            have c2 : wr.cell? ⟨w.heap.size + 1, 5, none⟩ = some (.int .i64 0) := cl 5
            have f0 := fz 3
            have f1 := fz 4
            have f2 := fz 5
            clear cl fz
            have NX := Lib.hid (show (((wr.setCell ⟨w.heap.size + 1, 3, none⟩ (.int .i64 (-2))).setCell ⟨w.heap.size + 1, 4, none⟩ (.int .i64 0)).setCell ⟨w.heap.size + 1, 5, none⟩ (.int .i64 (-1))).heap[w.heap.size + 1]? = some (.cells (secCells (secPart x 1)).toArray 39 (0, 0)) from (set3 RW.out 3 4 5 (.int .i64 (-2)) (.int .i64 0) (.int .i64 (-1))).trans (congrArg (fun a => some (Obj.cells a 39 (0, 0))) (part_step x 0 (by omega))))
            go_wp2_with fail
            go_roundw
            case rel => exact ⟨1, by omega, by go_num, NX.out, ((hbel.setCell (Nat.le_succ _) _).setCell (Nat.le_succ _) _).setCell (Nat.le_succ _) _⟩
            case measure => simp [intOf]
          · have c0 : wr.cell? ⟨w.heap.size + 1, 6, none⟩ = some (.int .i64 0) := cl 6
            have c1 : wr.cell? ⟨w.heap.size + 1, 7, none⟩ = some (.int .i64 0) := cl 7
            have c2 : wr.cell? ⟨w.heap.size + 1, 8, none⟩ = some (.int .i64 0) := cl 8
            have f0 := fz 6
            have f1 := fz 7
            have f2 := fz 8
            clear cl fz
            have NX := Lib.hid (show (((wr.setCell ⟨w.heap.size + 1, 6, none⟩ (.int .i64 (-2))).setCell ⟨w.heap.size + 1, 7, none⟩ (.int .i64 0)).setCell ⟨w.heap.size + 1, 8, none⟩ (.int .i64 (-1))).heap[w.heap.size + 1]? = some (.cells (secCells (secPart x 2)).toArray 39 (0, 0)) from (set3 RW.out 6 7 8 (.int .i64 (-2)) (.int .i64 0) (.int .i64 (-1))).trans (congrArg (fun a => some (Obj.cells a 39 (0, 0))) (part_step x 1 (by omega))))
            go_wp2_with fail
            go_roundw
            case rel => exact ⟨2, by omega, by go_num, NX.out, ((hbel.setCell (Nat.le_succ _) _).setCell (Nat.le_succ _) _).setCell (Nat.le_succ _) _⟩
            case measure => simp [intOf]
          · have c0 : wr.cell? ⟨w.heap.size + 1, 9, none⟩ = some (.int .i64 0) := cl 9
            have c1 : wr.cell? ⟨w.heap.size + 1, 10, none⟩ = some (.int .i64 0) := cl 10
            have c2 : wr.cell? ⟨w.heap.size + 1, 11, none⟩ = some (.int .i64 0) := cl 11
            have f0 := fz 9
            have f1 := fz 10
            have f2 := fz 11
            clear cl fz
            have NX := Lib.hid (show (((wr.setCell ⟨w.heap.size + 1, 9, none⟩ (.int .i64 (-2))).setCell ⟨w.heap.size + 1, 10, none⟩ (.int .i64 0)).setCell ⟨w.heap.size + 1, 11, none⟩ (.int .i64 (-1))).heap[w.heap.size + 1]? = some (.cells (secCells (secPart x 3)).toArray 39 (0, 0)) from (set3 RW.out 9 10 11 (.int .i64 (-2)) (.int .i64 0) (.int .i64 (-1))).trans (congrArg (fun a => some (Obj.cells a 39 (0, 0))) (part_step x 2 (by omega))))
            go_wp2_with fail
            go_roundw
            case rel => exact ⟨3, by omega, by go_num, NX.out, ((hbel.setCell (Nat.le_succ _) _).setCell (Nat.le_succ _) _).setCell (Nat.le_succ _) _⟩
            case measure => simp [intOf]

          · have RG := stay_row HR.out hbel
            obtain ⟨⟨-, -, -, -, S4, -⟩, -, hfz2, hg2⟩ := work_row RG
            have f4 := hfz2 4
            have d0 : wr.cell? ⟨w.heap.size + 1, 0, none⟩ = some (.string (txt x.name)) := cl 0
            have d1 : wr.cell? ⟨w.heap.size + 1, 1, none⟩ = some (.bool false) := by rw [← hp]; exact cl 1
            have d2 : wr.cell? ⟨w.heap.size + 1, 2, none⟩ = some (.int .i64 x.n) := cl 2
            have d3 : wr.cell? ⟨w.heap.size + 1, 3, none⟩ = some (.int .i64 (-2)) := cl 3
            have d4 : wr.cell? ⟨w.heap.size + 1, 4, none⟩ = some (.int .i64 0) := cl 4
            have d5 : wr.cell? ⟨w.heap.size + 1, 5, none⟩ = some (.int .i64 (-1)) := cl 5
            have d6 : wr.cell? ⟨w.heap.size + 1, 6, none⟩ = some (.int .i64 (-2)) := cl 6
            have d7 : wr.cell? ⟨w.heap.size + 1, 7, none⟩ = some (.int .i64 0) := cl 7
            have d8 : wr.cell? ⟨w.heap.size + 1, 8, none⟩ = some (.int .i64 (-1)) := cl 8
            have d9 : wr.cell? ⟨w.heap.size + 1, 9, none⟩ = some (.int .i64 (-2)) := cl 9
            have d10 : wr.cell? ⟨w.heap.size + 1, 10, none⟩ = some (.int .i64 0) := cl 10
            have d11 : wr.cell? ⟨w.heap.size + 1, 11, none⟩ = some (.int .i64 (-1)) := cl 11
            have e9 := fz 9
            have hbz := hbel.size
            have HBW := Lib.hid hbel
            have OW := Lib.hid (ownsRow_below HS.out hbel)
            clear cl fz hfz2 hfz k0 k1 k2 k3 k4 k5 k6 K4 s4 hbel RG
            go_wp2_with fail
            have RL : (wr.setCell ⟨w.heap.size + 1, 9, none⟩ (.int .i64 (-1))).heap[w.heap.size + 1]? = some (.cells (litF x).toArray 39 (0, 0)) := by
              have := heap_setCell_same _ _ 9 _ _ (.int .i64 (-1)) RW.out
              have e : (secCells (secPart x 3)).toArray.setIfInBounds 9 (.int .i64 (-1)) = (litF x).toArray := by simp [secCells, secPart, litF, hp, Pl.openE]
              rwa [e] at this
            have HBE : Below w.heap.size w (wr.setCell ⟨w.heap.size + 1, 9, none⟩ (.int .i64 (-1))) := HBW.out.setCell (Nat.le_succ _) _
            have NE : ∀ b, b < w.heap.size → (wr.setCell ⟨w.heap.size + 1, 9, none⟩ (.int .i64 (-1))).heap[b]? = w.heap[b]? := fun b hb => HBE.block b hb
            clear d0 d1 d2 d3 d4 d5 d6 d7 d8 d9 d10 d11 e9 S4 f4 HBW OW RW hgb hg2 hbz
            generalize wr.setCell ⟨w.heap.size + 1, 9, none⟩ (.int .i64 (-1)) = WR at RL HBE NE ⊢
            have hbz := HBE.size
            have RG := (NE g hg).trans HR.out
            obtain ⟨⟨-, -, -, -, S4, -⟩, -, hfz2, hg2⟩ := work_row RG
            have f4 := hfz2 4
            obtain ⟨cl, -, hgb⟩ := row12 RL
            have d0 : WR.cell? ⟨w.heap.size + 1, 0, none⟩ = some (.string (txt x.name)) := cl 0
            have d1 : WR.cell? ⟨w.heap.size + 1, 1, none⟩ = some (.bool false) := cl 1
            have d2 : WR.cell? ⟨w.heap.size + 1, 2, none⟩ = some (.int .i64 x.n) := cl 2
            have d3 : WR.cell? ⟨w.heap.size + 1, 3, none⟩ = some (.int .i64 (-2)) := cl 3
            have d4 : WR.cell? ⟨w.heap.size + 1, 4, none⟩ = some (.int .i64 0) := cl 4
            have d5 : WR.cell? ⟨w.heap.size + 1, 5, none⟩ = some (.int .i64 (-1)) := cl 5
            have d6 : WR.cell? ⟨w.heap.size + 1, 6, none⟩ = some (.int .i64 (-2)) := cl 6
            have d7 : WR.cell? ⟨w.heap.size + 1, 7, none⟩ = some (.int .i64 0) := cl 7
            have d8 : WR.cell? ⟨w.heap.size + 1, 8, none⟩ = some (.int .i64 (-1)) := cl 8
            have d9 : WR.cell? ⟨w.heap.size + 1, 9, none⟩ = some (.int .i64 (-1)) := cl 9
            have d10 : WR.cell? ⟨w.heap.size + 1, 10, none⟩ = some (.int .i64 0) := cl 10
            have d11 : WR.cell? ⟨w.heap.size + 1, 11, none⟩ = some (.int .i64 (-1)) := cl 11
            have OW := Lib.hid (ownsRow_below HS.out HBE)
            have NW := Lib.hid (show ∀ j u, (litF x)[j]? = some u → (WR.drew.alloc (.cells (litF x).toArray 39)).cell? ((⟨WR.heap.size, 0, none⟩ : Addr).add j) = some u from
              fun j u hu => World.news_of_block (B := WR.heap.size) (cs := (litF x).toArray) (t := 39) (fr := (0, 0)) (heap_alloc_new WR.drew (.cells (litF x).toArray 39)) j u (by simpa using hu))
            have hRG : some g ≠ (Value.slice A (Pl.wS M).length cp).ownBlock := fun e => by have := (OW.out.lt g e.symm).1; omega
            have HX := Lib.hid hRG
            have RGh := Lib.hid RG
            clear cl hfz2 RL NE hRG RG
            go_region_law (refine step_append_lies _ (by rfl) (.tmp 52) (.tmp 54) 22 (by rfl) (g + 1) 39 i0 _ 12 104 Try.underlying22 hi hz0 hz1 hz2 rfl (by decide) (.slice A (Pl.wS M).length cp) (Pl.wS M).length (LSec.all (Pl.wS M)) (by rfl) (OW.out.drew.alloc _) ⟨WR.heap.size, 0, none⟩ 1 1 (litF x) (by rfl) (by rfl) NW.out (litF_one x) (by omega) (by unfold maxLen; omega) (by omega) (by simp; omega) _ rfl ?_; intro g' cap' w2 hown hgr hg' hlt2; have hr2 := (hgr.block g (by simp; omega) HX.out).trans ((heap_alloc_old _ _ (show g < WR.drew.heap.size from hg2)).trans RGh.out); have c2 := (work_row hr2).1.2.2.2.2.1; have f2 := (work_row hr2).2.2.1 4)
            all_goals go_wp2_with fail
            all_goals go_ret
            all_goals (rw [litF_eq hp] at hown; have WS := WorkAt.sections HR.out HS.out HG.out HA.out (HBE.drew.alloc HBE.size (.cells (litF x).toArray 39)) hgr rfl hown (by rcases hg' with h | h; exact .inl h; exact .inr (by rw [h]; simp; omega)) HK.out HE1.out HE2.out; exact ⟨rfl, fun _ => WS.1, WS.2⟩)
      · have hk6 : (x.k == 6) = true := by rw [beq_iff_eq]; simpa [Pl.isPt] using hp
        go_enter Try.func37, Try.ntmps37
        go_wp2_with fail
        go_region_held3 (fun w' => w'.cell? ⟨g, 4, none⟩ = some (.slice A (Pl.wS M).length cp) ∧ w'.cell? ⟨w.heap.size, 1, none⟩ = some (.string (txt x.name)))
          (first | exact ⟨K4, k1⟩ | exact ⟨(hcell _ _ g1).trans K4, (hcell _ _ g2).trans k1⟩)
          (first
            | (go_at_call 41; (with_reducible refine (FN.out _ X0.out.drew).mono ?_); rintro e w' ⟨rfl, rfl⟩))
        all_goals go_wp2_with fail
        go_loopw [6] (fun v wr => ∃ k : Nat, k ≤ 3 ∧ v = .int .i64 k ∧ wr.heap[w.heap.size + 1]? = some (.cells (secCells (secPart x k)).toArray 39 (0, 0)) ∧ Below w.heap.size w wr) (fun v _ => 3 - (intOf v).toNat)
        case atStart =>
          refine ⟨0, by omega, rfl, ?_, (X0.out.alloc (by simp) _).drew⟩
          have : (((w.alloc (.cells (item7 x) 76)).alloc (.cells (secCells (secPart x 0)).toArray 39)).drew).heap[(w.alloc (.cells (item7 x) 76)).heap.size]? = some (.cells (secCells (secPart x 0)).toArray 39 (0, 0)) := heap_alloc_new (w.alloc (.cells (item7 x) 76)) (.cells (secCells (secPart x 0)).toArray 39)
          simpa [secCells, secPart, hp, zeroE] using this
        case round =>
          obtain ⟨k, hk, rfl, hrw, hbel⟩ := hrel
          obtain ⟨cl, fz, hgb⟩ := row12 hrw
          have RW := Lib.hid hrw
          clear hrw
          have hk4 : k = 0 ∨ k = 1 ∨ k = 2 ∨ k = 3 := by omega
          rcases hk4 with rfl | rfl | rfl | rfl
          · have c0 : wr.cell? ⟨w.heap.size + 1, 3, none⟩ = some (.int .i64 0) := cl 3
            have c1 : wr.cell? ⟨w.heap.size + 1, 4, none⟩ = some (.int .i64 0) := cl 4
            have c2 : wr.cell? ⟨w.heap.size + 1, 5, none⟩ = some (.int .i64 0) := cl 5
            have f0 := fz 3
            have f1 := fz 4
            have f2 := fz 5
            clear cl fz
            have NX := Lib.hid (show (((wr.setCell ⟨w.heap.size + 1, 3, none⟩ (.int .i64 (-2))).setCell ⟨w.heap.size + 1, 4, none⟩ (.int .i64 0)).setCell ⟨w.heap.size + 1, 5, none⟩ (.int .i64 (-1))).heap[w.heap.size + 1]? = some (.cells (secCells (secPart x 1)).toArray 39 (0, 0)) from (set3 RW.out 3 4 5 (.int .i64 (-2)) (.int .i64 0) (.int .i64 (-1))).trans (congrArg (fun a => some (Obj.cells a 39 (0, 0))) (part_step x 0 (by omega))))
            go_wp2_with fail
            go_roundw
            case rel => exact ⟨1, by omega, by go_num, NX.out, ((hbel.setCell (Nat.le_succ _) _).setCell (Nat.le_succ _) _).setCell (Nat.le_succ _) _⟩
            case measure => simp [intOf]
          · have c0 : wr.cell? ⟨w.heap.size + 1, 6, none⟩ = some (.int .i64 0) := cl 6
            have c1 : wr.cell? ⟨w.heap.size + 1, 7, none⟩ = some (.int .i64 0) := cl 7
            have c2 : wr.cell? ⟨w.heap.size + 1, 8, none⟩ = some (.int .i64 0) := cl 8
            have f0 := fz 6
            have f1 := fz 7
            have f2 := fz 8
            clear cl fz
            have NX := Lib.hid (show (((wr.setCell ⟨w.heap.size + 1, 6, none⟩ (.int .i64 (-2))).setCell ⟨w.heap.size + 1, 7, none⟩ (.int .i64 0)).setCell ⟨w.heap.size + 1, 8, none⟩ (.int .i64 (-1))).heap[w.heap.size + 1]? = some (.cells (secCells (secPart x 2)).toArray 39 (0, 0)) from (set3 RW.out 6 7 8 (.int .i64 (-2)) (.int .i64 0) (.int .i64 (-1))).trans (congrArg (fun a => some (Obj.cells a 39 (0, 0))) (part_step x 1 (by omega))))
            go_wp2_with fail
            go_roundw
            case rel => exact ⟨2, by omega, by go_num, NX.out, ((hbel.setCell (Nat.le_succ _) _).setCell (Nat.le_succ _) _).setCell (Nat.le_succ _) _⟩
            case measure => simp [intOf]
          · have c0 : wr.cell? ⟨w.heap.size + 1, 9, none⟩ = some (.int .i64 0) := cl 9
            have c1 : wr.cell? ⟨w.heap.size + 1, 10, none⟩ = some (.int .i64 0) := cl 10
            have c2 : wr.cell? ⟨w.heap.size + 1, 11, none⟩ = some (.int .i64 0) := cl 11
            have f0 := fz 9
            have f1 := fz 10
            have f2 := fz 11
            clear cl fz
            have NX := Lib.hid (show (((wr.setCell ⟨w.heap.size + 1, 9, none⟩ (.int .i64 (-2))).setCell ⟨w.heap.size + 1, 10, none⟩ (.int .i64 0)).setCell ⟨w.heap.size + 1, 11, none⟩ (.int .i64 (-1))).heap[w.heap.size + 1]? = some (.cells (secCells (secPart x 3)).toArray 39 (0, 0)) from (set3 RW.out 9 10 11 (.int .i64 (-2)) (.int .i64 0) (.int .i64 (-1))).trans (congrArg (fun a => some (Obj.cells a 39 (0, 0))) (part_step x 2 (by omega))))
            go_wp2_with fail
            go_roundw
            case rel => exact ⟨3, by omega, by go_num, NX.out, ((hbel.setCell (Nat.le_succ _) _).setCell (Nat.le_succ _) _).setCell (Nat.le_succ _) _⟩
            case measure => simp [intOf]

          · have RG := stay_row HR.out hbel
            obtain ⟨⟨-, -, -, -, S4, -⟩, -, hfz2, hg2⟩ := work_row RG
            have f4 := hfz2 4
            have d0 : wr.cell? ⟨w.heap.size + 1, 0, none⟩ = some (.string (txt x.name)) := cl 0
            have d1 : wr.cell? ⟨w.heap.size + 1, 1, none⟩ = some (.bool true) := by rw [← hp]; exact cl 1
            have d2 : wr.cell? ⟨w.heap.size + 1, 2, none⟩ = some (.int .i64 x.n) := cl 2
            have d3 : wr.cell? ⟨w.heap.size + 1, 3, none⟩ = some (.int .i64 (-2)) := cl 3
            have d4 : wr.cell? ⟨w.heap.size + 1, 4, none⟩ = some (.int .i64 0) := cl 4
            have d5 : wr.cell? ⟨w.heap.size + 1, 5, none⟩ = some (.int .i64 (-1)) := cl 5
            have d6 : wr.cell? ⟨w.heap.size + 1, 6, none⟩ = some (.int .i64 (-2)) := cl 6
            have d7 : wr.cell? ⟨w.heap.size + 1, 7, none⟩ = some (.int .i64 0) := cl 7
            have d8 : wr.cell? ⟨w.heap.size + 1, 8, none⟩ = some (.int .i64 (-1)) := cl 8
            have d9 : wr.cell? ⟨w.heap.size + 1, 9, none⟩ = some (.int .i64 (-2)) := cl 9
            have d10 : wr.cell? ⟨w.heap.size + 1, 10, none⟩ = some (.int .i64 0) := cl 10
            have d11 : wr.cell? ⟨w.heap.size + 1, 11, none⟩ = some (.int .i64 (-1)) := cl 11
            have e9 := fz 9
            have hbz := hbel.size
            have HBW := Lib.hid hbel
            have OW := Lib.hid (ownsRow_below HS.out hbel)
            clear cl fz hfz2 hfz k0 k1 k2 k3 k4 k5 k6 K4 s4 hbel RG
            go_wp2_with fail
            have RL : (wr).heap[w.heap.size + 1]? = some (.cells (litT x).toArray 39 (0, 0)) := by
              have e : (secCells (secPart x 3)).toArray = (litT x).toArray := by simp [secCells, secPart, litT, hp, Pl.openE]
              rw [← e]; exact RW.out
            have HBE : Below w.heap.size w (wr) := HBW.out
            have NE : ∀ b, b < w.heap.size → (wr).heap[b]? = w.heap[b]? := fun b hb => HBE.block b hb
            clear d0 d1 d2 d3 d4 d5 d6 d7 d8 d9 d10 d11 e9 S4 f4 HBW OW RW hgb hg2 hbz
            generalize wr = WR at RL HBE NE ⊢
            have hbz := HBE.size
            have RG := (NE g hg).trans HR.out
            obtain ⟨⟨-, -, -, -, S4, -⟩, -, hfz2, hg2⟩ := work_row RG
            have f4 := hfz2 4
            obtain ⟨cl, -, hgb⟩ := row12 RL
            have d0 : WR.cell? ⟨w.heap.size + 1, 0, none⟩ = some (.string (txt x.name)) := cl 0
            have d1 : WR.cell? ⟨w.heap.size + 1, 1, none⟩ = some (.bool true) := cl 1
            have d2 : WR.cell? ⟨w.heap.size + 1, 2, none⟩ = some (.int .i64 x.n) := cl 2
            have d3 : WR.cell? ⟨w.heap.size + 1, 3, none⟩ = some (.int .i64 (-2)) := cl 3
            have d4 : WR.cell? ⟨w.heap.size + 1, 4, none⟩ = some (.int .i64 0) := cl 4
            have d5 : WR.cell? ⟨w.heap.size + 1, 5, none⟩ = some (.int .i64 (-1)) := cl 5
            have d6 : WR.cell? ⟨w.heap.size + 1, 6, none⟩ = some (.int .i64 (-2)) := cl 6
            have d7 : WR.cell? ⟨w.heap.size + 1, 7, none⟩ = some (.int .i64 0) := cl 7
            have d8 : WR.cell? ⟨w.heap.size + 1, 8, none⟩ = some (.int .i64 (-1)) := cl 8
            have d9 : WR.cell? ⟨w.heap.size + 1, 9, none⟩ = some (.int .i64 (-2)) := cl 9
            have d10 : WR.cell? ⟨w.heap.size + 1, 10, none⟩ = some (.int .i64 0) := cl 10
            have d11 : WR.cell? ⟨w.heap.size + 1, 11, none⟩ = some (.int .i64 (-1)) := cl 11
            have OW := Lib.hid (ownsRow_below HS.out HBE)
            have NW := Lib.hid (show ∀ j u, (litT x)[j]? = some u → (WR.drew.alloc (.cells (litT x).toArray 39)).cell? ((⟨WR.heap.size, 0, none⟩ : Addr).add j) = some u from
              fun j u hu => World.news_of_block (B := WR.heap.size) (cs := (litT x).toArray) (t := 39) (fr := (0, 0)) (heap_alloc_new WR.drew (.cells (litT x).toArray 39)) j u (by simpa using hu))
            have hRG : some g ≠ (Value.slice A (Pl.wS M).length cp).ownBlock := fun e => by have := (OW.out.lt g e.symm).1; omega
            have HX := Lib.hid hRG
            have RGh := Lib.hid RG
            clear cl hfz2 RL NE hRG RG
            go_region_law (refine step_append_lies _ (by rfl) (.tmp 52) (.tmp 54) 22 (by rfl) (g + 1) 39 i0 _ 12 104 Try.underlying22 hi hz0 hz1 hz2 rfl (by decide) (.slice A (Pl.wS M).length cp) (Pl.wS M).length (LSec.all (Pl.wS M)) (by rfl) (OW.out.drew.alloc _) ⟨WR.heap.size, 0, none⟩ 1 1 (litT x) (by rfl) (by rfl) NW.out (litT_one x) (by omega) (by unfold maxLen; omega) (by omega) (by simp; omega) _ rfl ?_; intro g' cap' w2 hown hgr hg' hlt2; have hr2 := (hgr.block g (by simp; omega) HX.out).trans ((heap_alloc_old _ _ (show g < WR.drew.heap.size from hg2)).trans RGh.out); have c2 := (work_row hr2).1.2.2.2.2.1; have f2 := (work_row hr2).2.2.1 4)
            all_goals go_wp2_with fail
            all_goals go_ret
            all_goals (rw [litT_eq hp] at hown; have WS := WorkAt.sections HR.out HS.out HG.out HA.out (HBE.drew.alloc HBE.size (.cells (litT x).toArray 39)) hgr rfl hown (by rcases hg' with h | h; exact .inl h; exact .inr (by rw [h]; simp; omega)) HK.out HE1.out HE2.out; exact ⟨rfl, fun _ => WS.1, WS.2⟩)
  · rw [hf] at FN
    have hin : x.name ∈ Pl.nmS M := Pl.mem_nmS.2 ⟨y, List.mem_of_getElem? hy, hn⟩
    rw [if_pos hin]
    clear hf hy hn hin hR hS hG hap hM hl hcap
    go_enter Try.func37, Try.ntmps37
    go_wp2_with fail
    go_region_held3 (fun w' => w'.cell? ⟨g, 4, none⟩ = some (.slice A (Pl.wS M).length cp) ∧ w'.cell? ⟨w.heap.size, 1, none⟩ = some (.string (txt x.name)))
      (first | exact ⟨K4, k1⟩ | exact ⟨(hcell _ _ g1).trans K4, (hcell _ _ g2).trans k1⟩)
      (first
        | (go_at_call 41; (with_reducible refine (FN.out _ X0.out.drew).mono ?_); rintro e w' ⟨rfl, rfl⟩))
    all_goals go_wp2_with fail
    all_goals go_ret
    all_goals exact ⟨rfl, fun h => by simp at h, XG.out.drew⟩
end Go.Proofs.Ytgajdfecajleiaa
