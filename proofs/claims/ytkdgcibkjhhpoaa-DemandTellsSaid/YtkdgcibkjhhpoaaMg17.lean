/-
  Texts of this claim, merged: AppRow, DmMem.
-/
import Derived.Test.YtkdgcibkjhhpoaaMg07
import Derived.Test.YtkdgcibkjhhpoaaMg13
import Derived.Test.YtkdgcibkjhhpoaaMg15
import Derived.Test.YtkdgcibkjhhpoaaMg16
import Derived.Deep.AppendLies
import Derived.Deep.RegionLaw
import Derived.Laws.OwnMore
/-
  append, as one step of a region that draws: a row that lies anywhere, or none, onto a slice of the call's own. No function of the program is named here.
-/
namespace Go.Proofs.Ytkdgcibkjhhpoaa
open Go.RowKit

theorem run_append_owned_zero {P : Program} {w : World} (base : Nat) (t ty e : TypeId) (i : TypeInfo) (size : Nat) (ht : P.underlying t = some (.slice e)) (hi : P.info? e = some i)
    (v : Value) (n : Nat) (xs : List Value) (hown : w.ownsRow base e size v n xs) (A : Option Addr) (c : Nat) :
    (Builtin.append_ #[t, t] ty #[v, .slice A 0 c]).run P w = .ok v w := by
  rcases hown.2 with ⟨rfl, rfl⟩ | ⟨g, cap, cur, rfl, _, _, hnc, _⟩
  · cases A <;> simp [Builtin.append_, run_underlying ht, Go.sizeOf, typeInfo, hi, Builtin.lenOf, Builtin.firstCells, loadCells, loadCellsFrom]
  · cases A <;> simp [Builtin.append_, run_underlying ht, Go.sizeOf, typeInfo, hi, Builtin.lenOf, Builtin.firstCells, hnc, storeCells, loadCells, loadCellsFrom]
theorem step_append_at {α : Type} (E : Lies α) {P : Program} {w : World} {ops : Array Oper} {o : Oper} {a : Act} {K : Act → World → Prop} {Q : Exit → Act → World → Prop} {Z : Prop} (hgd : o.guard = none) (s x : Operand) (t : TypeId)
    (ho : o.op = .call { callee := .builtin .append, args := #[s, x], argTypes := #[t, t] })
    (base : Nat) (e : TypeId) (i : TypeInfo) (z : Value) (bytes : Nat) (ht : P.underlying t = some (.slice e)) (hi : P.info? e = some i) (hz : i.zero = some z)
    (hsize : i.size = E.m) (hby : i.bytes = bytes) (hzs : z.cells.size = E.m)
    (v : Value) (n : Nat) (xs : List Value) (hs : a.eval s = v) (hown : w.ownsRow base e E.m v n xs)
    (A : Option Addr) (m c : Nat) (L : List α) (hx : a.eval x = .slice A m c) (hL : L.length = m) (hI : E.Row w A L) (hn : n + m ≤ maxLen) (hbytes : (n + m) * bytes ≤ 140737488355328) (hbase : base ≤ w.heap.size)
    (h : ∀ v' w', w'.ownsRow base e E.m v' (n + m) (xs ++ E.all L) → w.grownBy w' v.ownBlock → K (a.put o.dst v') w') :
    if Region.wanted o (yielded ops a.tmps) = true then Oper.wp P o a w K Q else Z := by
  subst hL
  rcases Nat.eq_zero_or_pos L.length with h0 | h0
  · have hw : Region.wanted o (yielded ops a.tmps) = true := by simp [Region.wanted, hgd]
    rw [if_pos hw]
    obtain rfl : L = [] := List.eq_nil_of_length_eq_zero h0
    have hrun := run_append_owned_zero (P := P) (w := w) base t o.type e i E.m ht hi v n xs hown A c
    unfold Oper.wp
    simp [execOp, ho, resolve, invoke, builtin, hs, hx, hrun, Result.andThen]
    exact h v w (by rw [show E.all [] = [] from rfl, List.append_nil]; exact hown) (World.grownBy.refl w _)
  · rcases hI with hI | ⟨b, off, rfl, _, hI⟩
    · subst hI; simp at h0
    · exact step_append_lies w hgd s x t ho base e i z E.m bytes ht hi hz hsize hby hzs E.pos v n xs hs hown ⟨b, off, none⟩ L.length c (E.all L) hx (E.all_len L) (Lies.news hI) (E.all_single L) h0 hn hbytes hbase _ rfl fun g' cap' w' h1 h2 _ _ => h _ w' h1 h2
end Go.Proofs.Ytkdgcibkjhhpoaa
/-
  Demands in memory. No function of the program is named here.
-/
namespace Go.Proofs.Ytkdgcibkjhhpoaa
open Go.RowKit

def LDem : Lies Dm.Dem := ⟨2, by decide, fun x => [.int .i64 x.pt, .int .i64 x.pos], fun _ => rfl, fun y u hu => by
  simp at hu
  rcases hu with rfl | rfl <;> rfl⟩
theorem dem_on {w : World} {b o : Nat} {x : Dm.Dem} (h : LDem.On w b o x) : w.cell? ⟨b, o, none⟩ = some (.int .i64 x.pt) ∧ w.cell? ⟨b, o + 1, none⟩ = some (.int .i64 x.pos) :=
  ⟨h 0 _ rfl, h 1 _ rfl⟩
abbrev demV (x : Dm.Dem) : Value := .agg #[.int .i64 x.pt, .int .i64 x.pos]
abbrev demO (x : Dm.Dem) : Obj := .cells #[.int .i64 x.pt, .int .i64 x.pos] 32
def OwnDm (base : Nat) (w : World) (A : Option Addr) (c : Nat) (L : List Dm.Dem) : Prop := w.ownsRow base 32 2 (.slice A L.length c) L.length (LDem.all L)
theorem OwnDm.row {base : Nat} {w : World} {A : Option Addr} {c : Nat} {L : List Dm.Dem} (h : OwnDm base w A c L) : LDem.Row w A L := by
  obtain ⟨-, B, d, hv, -, hR⟩ := Lies.Row.of_own (E := LDem) h
  cases hv
  exact hR
theorem owndm_fresh (w : World) (base : Nat) (L : List Dm.Dem) (hb : base ≤ w.heap.size) (hl : L.length ≤ 1000) : OwnDm base (w.alloc (.cells (LDem.all L).toArray 32)) (some ⟨w.heap.size, 0, none⟩) L.length L := by
  refine ⟨LDem.all_len L, .inr ⟨w.heap.size, L.length, (LDem.all L).toArray, rfl, hb, heap_alloc_new _ _, Nat.le_refl _, by unfold maxLen; omega, ?_, ?_⟩⟩
  · rw [List.size_toArray]; exact LDem.all_len L
  · show List.take _ (LDem.all L) = _
    exact List.take_of_length_le (Nat.le_of_eq (LDem.all_len L))
theorem owndm_one (w : World) (y : Dm.Dem) {g base : Nat} (hg : w.heap.size = g) (hb : base ≤ g := by simp) : OwnDm base (w.alloc (demO y)) (some ⟨g, 0, none⟩) 1 [y] := hg ▸ owndm_fresh w base [y] (hg ▸ hb) (by simp)
theorem owndm_empty (w : World) {g base : Nat} (hg : w.heap.size = g) (hb : base ≤ g := by simp) : (w.alloc (.cells #[] 32)).ownsRow base 32 2 (.slice (some ⟨g, 0, none⟩) 0 0) 0 [] := by
  subst hg
  exact ⟨rfl, .inr ⟨w.heap.size, 0, #[], rfl, hb, heap_alloc_new _ _, Nat.le_refl _, by unfold maxLen; omega, rfl, rfl⟩⟩
/-- Demands that a call leaves. -/
def DemsYes (L : List Dm.Dem) (w : World) (e : Ending) (w' : World) : Prop := ∃ B d, e = .returned (.slice B L.length d) ∧ LDem.Row w' B L ∧ L.length ≤ d ∧ Below w.heap.size w w'
theorem DemsYes.of_own {L : List Dm.Dem} {w w' : World} {base n : Nat} {v : Value} (h : w'.ownsRow base 32 LDem.m v n (LDem.all L)) (hn : n = L.length) (hb : Below w.heap.size w w') : DemsYes L w (.returned v) w' := by
  subst hn
  obtain ⟨-, B, d, rfl, hc, hR⟩ := Lies.Row.of_own (E := LDem) h
  exact ⟨B, d, rfl, hR, hc, hb⟩
theorem infoDem : (Try.prog.info? 32).map (fun i => (i.zero, i.size, i.bytes)) = some (some (.agg #[.int .i64 0, .int .i64 0]), 2, 16) := by kernel_rfl
namespace Lies
variable {α : Type} (E : Lies α)
/-- The first of a row's elements. -/
theorem Row.take {w : World} {A : Option Addr} {L : List α} (h : E.Row w A L) (k : Nat) : E.Row w A (L.take k) := by
  rcases h with rfl | ⟨b, o, hA, hb, h⟩
  · exact .inl List.take_nil
  · refine .inr ⟨b, o, hA, hb, fun j y hj => h j y ?_⟩
    rw [List.getElem?_take] at hj
    split at hj
    · exact hj
    · cases hj
/-- The others. -/
theorem Row.drop {w : World} {b o : Nat} {L : List α} (h : E.Row w (some ⟨b, o, none⟩) L) (k : Nat) : E.Row w (some ⟨b, o + k * E.m, none⟩) (L.drop k) := by
  rcases h with rfl | ⟨b', o', hA, hb, h⟩
  · exact .inl List.drop_nil
  · cases hA
    refine .inr ⟨b, o + k * E.m, rfl, hb, fun j y hj => ?_⟩
    rw [List.getElem?_drop] at hj
    have := h (k + j) y hj
    rwa [Nat.add_mul, ← Nat.add_assoc] at this
end Lies
end Go.Proofs.Ytkdgcibkjhhpoaa
