/-
  Texts of this claim, merged: PlDrR, PlItA, PlList.
-/
import Derived.Test.YtaheiolbeiofpaaGreatDoorMg19
import Derived.Deep.CutRange
/-
  The walk of the program's layer 5: a draft's plan.
-/
namespace Go.Proofs.YtaheiolbeiofpaaGreatDoor
open Go.RowKit

theorem own_rowF {α : Type} {E : Lies α} {w : World} {base : Nat} {e : TypeId} {v : Value} {L : List α} (h : w.ownsRow base e E.m v L.length (E.all L)) : ∃ A c, v = .slice A L.length c ∧ (L = [] ∧ A = none ∨ ∃ b, A = some ⟨b, 0, none⟩ ∧ RowF E w b L) := by
  rcases h.2 with ⟨rfl, h0⟩ | ⟨g, cap, cur, rfl, hg, hh, hc, hr⟩
  · have h0' : L.length = 0 := h0
    exact ⟨none, 0, by rw [h0'], .inl ⟨List.eq_nil_of_length_eq_zero h0', rfl⟩⟩
  · exact ⟨_, cap, rfl, .inr ⟨g, rfl, RowF.own h⟩⟩
theorem rowF_below {α : Type} {E : Lies α} {w w' : World} {L : List α} {A : Option Addr} (h : L = [] ∧ A = none ∨ ∃ b, A = some ⟨b, 0, none⟩ ∧ RowF E w b L) (hb : Below w.heap.size w w') : L = [] ∧ A = none ∨ ∃ b, A = some ⟨b, 0, none⟩ ∧ RowF E w' b L := by
  rcases h with h | ⟨b, hA, hR⟩
  · exact .inl h
  · exact .inr ⟨b, hA, hR.same (hb.block b hR.1)⟩
abbrev planZ : Obj := .cells #[.int .i64 0, .int .i64 0, .int .i64 0, .int .i64 0, .slice none 0 0, .slice none 0 0] 28
def planC (L : List It.Itm) (vS vG : Value) : Array Value := #[.int .i64 (Pl.num L 1), .int .i64 (Pl.num L 2), .int .i64 (Pl.num L 3), .int .i64 (Pl.num L 4), vS, vG]
/-- The plan that is made, in block bp: its sections and signals in rows of the call's own. -/
def PSt (w wr : World) (g bp : Nat) (A1 A2 : Option Addr) (c1 c2 : Nat) (L : List It.Itm) (X : List Pl.Sec) (G : List Pl.Sig) : Prop :=
  (Below w.heap.size w wr ∧ wr.heap[w.heap.size]? = some (.cells #[.pointer (some ⟨g, 0, none⟩)] 83 (0, 0)) ∧ wr.heap[w.heap.size + 1]? = some planZ ∧ wr.heap[bp]? = some (.cells (planC L (.slice A1 X.length c1) (.slice A2 G.length c2)) 28 (0, 0))) ∧
  (w.heap.size + 1 < bp ∧ (X = [] ∨ ∃ b, A1 = some ⟨b, 0, none⟩ ∧ RowF LSec wr b X ∧ w.heap.size + 1 < b ∧ b ≠ bp) ∧ (G = [] ∨ ∃ b, A2 = some ⟨b, 0, none⟩ ∧ RowF LSig wr b G ∧ w.heap.size + 1 < b ∧ b ≠ bp ∧ (X = [] ∨ A1 ≠ some ⟨b, 0, none⟩)))
/-- What the first region leaves. -/
def PFirst (w : World) (g : Nat) (L : List It.Itm) (v : Value) (wr : World) : Prop :=
  ∃ (bp : Nat) (A1 A2 : Option Addr) (c1 c2 : Nat), v = .pointer (some ⟨bp, 0, none⟩) ∧ (Pl.dS L).length ≤ c1 ∧ (Pl.wG L).length ≤ c2 ∧ (∀ a, A1 = some a → w.heap.size ≤ a.block) ∧ (∀ a, A2 = some a → w.heap.size ≤ a.block) ∧ PSt w wr g bp A1 A2 c1 c2 L (Pl.dS L) (Pl.wG L)
theorem set6_same {W : World} {B : Nat} {x0 x1 x2 x3 x4 x5 v0 v1 v2 v3 v4 v5 : Value} {t : TypeId} (h : W.heap[B]? = some (.cells #[x0, x1, x2, x3, x4, x5] t (0, 0))) :
    ((((((W.setCell ⟨B, 0, none⟩ v0).setCell ⟨B, 1, none⟩ v1).setCell ⟨B, 2, none⟩ v2).setCell ⟨B, 3, none⟩ v3).setCell ⟨B, 4, none⟩ v4).setCell ⟨B, 5, none⟩ v5).heap[B]? = some (.cells #[v0, v1, v2, v3, v4, v5] t (0, 0)) :=
  heap_setCell_same _ _ _ _ _ _ (heap_setCell_same _ _ _ _ _ _ (heap_setCell_same _ _ _ _ _ _ (heap_setCell_same _ _ _ _ _ _ (heap_setCell_same _ _ _ _ _ _ (heap_setCell_same _ _ _ _ _ _ h)))))
theorem set6_other {W : World} {B b : Nat} {v0 v1 v2 v3 v4 v5 : Value} (h : b ≠ B) :
    ((((((W.setCell ⟨B, 0, none⟩ v0).setCell ⟨B, 1, none⟩ v1).setCell ⟨B, 2, none⟩ v2).setCell ⟨B, 3, none⟩ v3).setCell ⟨B, 4, none⟩ v4).setCell ⟨B, 5, none⟩ v5).heap[b]? = W.heap[b]? := by
  rw [heap_setCell_other _ _ _ _ (by simpa using h), heap_setCell_other _ _ _ _ (by simpa using h), heap_setCell_other _ _ _ _ (by simpa using h), heap_setCell_other _ _ _ _ (by simpa using h), heap_setCell_other _ _ _ _ (by simpa using h), heap_setCell_other _ _ _ _ (by simpa using h)]
/-- The region's end, however it came: w1 and w2 are the worlds behind the two copies. -/
theorem PFirst.mk {w W0 w1 w2 wf : World} {g bp lo : Nat} {L : List It.Itm} {A1 A2 : Option Addr} {c1 c2 : Nat} (hz : W0.heap.size = w.heap.size + 2) (hR0 : W0.heap[w.heap.size]? = some (.cells #[.pointer (some ⟨g, 0, none⟩)] 83 (0, 0))) (hR1 : W0.heap[w.heap.size + 1]? = some planZ)
    (hacc : Below W0.heap.size W0 w2) (hlo : w.heap.size + 2 ≤ lo) (hl1 : (Pl.dS L).length ≤ c1) (hl2 : (Pl.wG L).length ≤ c2) (hr1 : Pl.dS L = [] ∨ ∃ b, A1 = some ⟨b, 0, none⟩ ∧ RowF LSec w1 b (Pl.dS L)) (hf1 : ∀ a, A1 = some a → lo ≤ a.block) (h12 : Below w1.heap.size w1 w2)
    (hr2 : Pl.wG L = [] ∨ ∃ b, A2 = some ⟨b, 0, none⟩ ∧ RowF LSig w2 b (Pl.wG L)) (hf2 : ∀ a, A2 = some a → w1.heap.size ≤ a.block) (hw1 : w.heap.size + 2 ≤ w1.heap.size)
    (hbp : w.heap.size + 2 ≤ bp) (hb1 : bp < lo ∨ w1.heap.size ≤ bp) (hb2 : bp < w1.heap.size ∨ w2.heap.size ≤ bp ∨ ∀ a, A2 = some a → bp < a.block)
    (hk : ∀ b, b < w2.heap.size → b ≠ bp → wf.heap[b]? = w2.heap[b]?) (hbf : Below w.heap.size w wf) (hp : wf.heap[bp]? = some (.cells (planC L (.slice A1 (Pl.dS L).length c1) (.slice A2 (Pl.wG L).length c2)) 28 (0, 0))) : PFirst w g L (.pointer (some ⟨bp, 0, none⟩)) wf := by
  have h2 := hacc.size
  have hs12 := h12.size
  refine ⟨bp, A1, A2, c1, c2, rfl, hl1, hl2, fun a ha => by have := hf1 a ha; omega, fun a ha => by have := hf2 a ha; omega, ⟨hbf, ?_, ?_, hp⟩, by omega, ?_, ?_⟩
  · rw [hk _ (by omega) (by omega), hacc.block _ (by omega)]; exact hR0
  · rw [hk _ (by omega) (by omega), hacc.block _ (by omega)]; exact hR1
  · rcases hr1 with h | ⟨b, rfl, hR⟩
    · exact .inl h
    · have hb := hR.1
      have hlb := hf1 _ rfl
      simp only at hlb
      have hne : b ≠ bp := by omega
      refine .inr ⟨b, rfl, hR.same ?_, by omega, hne⟩
      rw [hk b (by omega) hne, h12.block b hb]
  · rcases hr2 with h | ⟨b, rfl, hR⟩
    · exact .inl h
    · have hb := hR.1
      have hlb := hf2 _ rfl
      simp only at hlb
      have hne : b ≠ bp := by
        rcases hb2 with h | h | h
        · omega
        · omega
        · have := h _ rfl; simp only at this; omega
      refine .inr ⟨b, rfl, hR.same (hk b hb hne), by omega, hne, ?_⟩
      rcases hr1 with h | ⟨b', rfl, hR'⟩
      · exact .inl h
      · right
        intro he
        have hb' := hR'.1
        simp only [Option.some.injEq, Addr.mk.injEq] at he
        omega
theorem PSt.below {w wr w2 : World} {g bp : Nat} {A1 A2 : Option Addr} {c1 c2 : Nat} {L : List It.Itm} {X : List Pl.Sec} {G : List Pl.Sig} (h : PSt w wr g bp A1 A2 c1 c2 L X G) (hb : Below wr.heap.size wr w2) : PSt w w2 g bp A1 A2 c1 c2 L X G := by
  obtain ⟨⟨h1, h2, h3, h4⟩, h5, h6, h7⟩ := h
  refine ⟨⟨h1.trans (hb.mono h1.size), stay_row h2 hb, stay_row h3 hb, stay_row h4 hb⟩, h5, ?_, ?_⟩
  · rcases h6 with h | ⟨b, e, hR, hn⟩
    · exact .inl h
    · exact .inr ⟨b, e, hR.same (hb.block b hR.1), hn⟩
  · rcases h7 with h | ⟨b, e, hR, hn⟩
    · exact .inl h
    · exact .inr ⟨b, e, hR.same (hb.block b hR.1), hn⟩
theorem isort_nil {α : Type} (key : α → Pl.Nm) {l : List α} : Pl.isort key l = [] ↔ l = [] := by
  constructor
  · intro h
    have := Pl.isort_len key l
    rw [h] at this
    exact List.eq_nil_of_length_eq_zero this.symm
  · rintro rfl; rfl
theorem PSt.sortS {w wr w2 : World} {g bp : Nat} {A1 A2 : Option Addr} {c1 c2 : Nat} {L : List It.Itm} {X : List Pl.Sec} {G : List Pl.Sig} (h : PSt w wr g bp A1 A2 c1 c2 L X G) {e : Ending} (hs : SortGives LSec Pl.Sec.name A1 X wr e w2) : PSt w w2 g bp A1 A2 c1 c2 L (Pl.isort Pl.Sec.name X) G := by
  obtain ⟨⟨h1, h2, h3, h4⟩, h5, h6, h7⟩ := h
  obtain ⟨-, hr, hB⟩ := hs
  have hz := h1.size
  have z0 := (Array.getElem?_eq_some_iff.1 h2).1
  have z1 := (Array.getElem?_eq_some_iff.1 h3).1
  have z4 := (Array.getElem?_eq_some_iff.1 h4).1
  have hown : ∀ k, (if X.isEmpty then none else A1.map (·.block)) = some k → w.heap.size + 1 < k ∧ k ≠ bp ∧ A1 = some ⟨k, 0, none⟩ ∧ X ≠ [] := fun k hk => by
    by_cases h0 : X = []
    · rw [h0] at hk; cases hk
    · rw [if_neg (by simpa using h0)] at hk
      obtain ⟨b, rfl, -, hn⟩ := h6.resolve_left h0
      simp only [Option.map_some, Option.some.injEq] at hk
      subst hk
      exact ⟨hn.1, hn.2, rfl, h0⟩
  refine ⟨⟨But.below h1 hB hz fun k hk => by have := (hown k hk).1; omega, ?_, ?_, ?_⟩, h5, ?_, ?_⟩
  · rw [hB.1 _ z0 (fun hk => by have := (hown _ hk).1; omega)]; exact h2
  · rw [hB.1 _ z1 (fun hk => by have := (hown _ hk).1; omega)]; exact h3
  · rw [hB.1 _ z4 (fun hk => (hown _ hk).2.1 rfl), Pl.isort_len]; exact h4
  · rcases hr with h0 | ⟨b, e, hR⟩
    · exact .inl ((isort_nil _).2 h0)
    · rcases h6 with h0 | ⟨b', e', -, hn⟩
      · exact .inl ((isort_nil _).2 h0)
      · rw [e] at e'
        cases e'
        exact .inr ⟨b, e, hR, hn⟩
  · rcases h7 with h | ⟨b, e, hR, n1, n2, n3⟩
    · exact .inl h
    · refine .inr ⟨b, e, hR.same (hB.1 b hR.1 fun hk => ?_), n1, n2, ?_⟩
      · obtain ⟨-, -, e1, h0⟩ := hown b hk
        rcases n3 with h | h
        · exact h0 h
        · exact h e1
      · rcases n3 with h | h
        · exact .inl ((isort_nil _).2 h)
        · exact .inr h
theorem PSt.sortG {w wr w2 : World} {g bp : Nat} {A1 A2 : Option Addr} {c1 c2 : Nat} {L : List It.Itm} {X : List Pl.Sec} {G : List Pl.Sig} (h : PSt w wr g bp A1 A2 c1 c2 L X G) {e : Ending} (hs : SortGives LSig Pl.Sig.name A2 G wr e w2) : PSt w w2 g bp A1 A2 c1 c2 L X (Pl.isort Pl.Sig.name G) := by
  obtain ⟨⟨h1, h2, h3, h4⟩, h5, h6, h7⟩ := h
  obtain ⟨-, hr, hB⟩ := hs
  have hz := h1.size
  have z0 := (Array.getElem?_eq_some_iff.1 h2).1
  have z1 := (Array.getElem?_eq_some_iff.1 h3).1
  have z4 := (Array.getElem?_eq_some_iff.1 h4).1
  have hown : ∀ k, (if G.isEmpty then none else A2.map (·.block)) = some k → w.heap.size + 1 < k ∧ k ≠ bp ∧ (X = [] ∨ A1 ≠ some ⟨k, 0, none⟩) := fun k hk => by
    by_cases h0 : G = []
    · rw [h0] at hk; cases hk
    · rw [if_neg (by simpa using h0)] at hk
      obtain ⟨b, rfl, -, n1, n2, n3⟩ := h7.resolve_left h0
      simp only [Option.map_some, Option.some.injEq] at hk
      subst hk
      exact ⟨n1, n2, n3⟩
  refine ⟨⟨But.below h1 hB hz fun k hk => by have := (hown k hk).1; omega, ?_, ?_, ?_⟩, h5, ?_, ?_⟩
  · rw [hB.1 _ z0 (fun hk => by have := (hown _ hk).1; omega)]; exact h2
  · rw [hB.1 _ z1 (fun hk => by have := (hown _ hk).1; omega)]; exact h3
  · rw [hB.1 _ z4 (fun hk => (hown _ hk).2.1 rfl), Pl.isort_len]; exact h4
  · rcases h6 with h | ⟨b, e, hR, hn⟩
    · exact .inl h
    · by_cases h0 : X = []
      · exact .inl h0
      · exact .inr ⟨b, e, hR.same (hB.1 b hR.1 fun hk => ((hown b hk).2.2.resolve_left h0) e), hn⟩
  · rcases hr with h0 | ⟨b, e, hR⟩
    · exact .inl ((isort_nil _).2 h0)
    · rcases h7 with h0 | ⟨b', e', -, hn⟩
      · exact .inl ((isort_nil _).2 h0)
      · rw [e] at e'
        cases e'
        exact .inr ⟨b, e, hR, hn⟩
/-- One cell of a section of the plan is written. -/
theorem PSt.setS {w wr : World} {g bp b : Nat} {A2 : Option Addr} {c1 c2 : Nat} {L : List It.Itm} {X : List Pl.Sec} {G : List Pl.Sig} (h : PSt w wr g bp (some ⟨b, 0, none⟩) A2 c1 c2 L X G) {k j : Nat} {x y : Pl.Sec} (hx : X[k]? = some x) (hj : j < 12) (u : Value) (hu : (secCells x).set j u = secCells y) :
    PSt w (wr.setCell ⟨b, k * 12 + j, none⟩ u) g bp (some ⟨b, 0, none⟩) A2 c1 c2 L (X.set k y) G := by
  have hX0 : X ≠ [] := fun h => by rw [h] at hx; cases hx
  obtain ⟨⟨h1, h2, h3, h4⟩, h5, h6, h7⟩ := h
  obtain ⟨b', e, hR, n1, n2⟩ := h6.resolve_left hX0
  obtain rfl : b = b' := by cases e; rfl
  refine ⟨⟨h1.setCell (by simp only; omega) _, ?_, ?_, ?_⟩, h5, .inr ⟨b, rfl, RowF.set (E := LSec) hR hx hj u hu, n1, n2⟩, ?_⟩
  · rw [heap_setCell_other _ _ _ _ (by simp only; omega)]; exact h2
  · rw [heap_setCell_other _ _ _ _ (by simp only; omega)]; exact h3
  · rw [heap_setCell_other _ _ _ _ (by simp only; omega), List.length_set]; exact h4
  · rcases h7 with h | ⟨b2, e2, hR2, m1, m2, m3⟩
    · exact .inl h
    · have hne : b2 ≠ b := fun he => by
        rcases m3 with h | h
        · exact hX0 h
        · exact h (by rw [he])
      exact .inr ⟨b2, e2, hR2.same (heap_setCell_other _ _ _ _ (by simpa using hne)), m1, m2, .inr fun he => hne (by simp only [Option.some.injEq, Addr.mk.injEq] at he; exact he.1.symm)⟩
/-- One cell of a signal of the plan is written. -/
theorem PSt.setG {w wr : World} {g bp b : Nat} {A1 : Option Addr} {c1 c2 : Nat} {L : List It.Itm} {X : List Pl.Sec} {G : List Pl.Sig} (h : PSt w wr g bp A1 (some ⟨b, 0, none⟩) c1 c2 L X G) {k j : Nat} {x y : Pl.Sig} (hx : G[k]? = some x) (hj : j < 3) (u : Value) (hu : (sigCells x).set j u = sigCells y) :
    PSt w (wr.setCell ⟨b, k * 3 + j, none⟩ u) g bp A1 (some ⟨b, 0, none⟩) c1 c2 L X (G.set k y) := by
  have hG0 : G ≠ [] := fun h => by rw [h] at hx; cases hx
  obtain ⟨⟨h1, h2, h3, h4⟩, h5, h6, h7⟩ := h
  obtain ⟨b', e, hR, n1, n2, n3⟩ := h7.resolve_left hG0
  obtain rfl : b = b' := by cases e; rfl
  refine ⟨⟨h1.setCell (by simp only; omega) _, ?_, ?_, ?_⟩, h5, ?_, .inr ⟨b, rfl, RowF.set (E := LSig) hR hx hj u hu, n1, n2, n3⟩⟩
  · rw [heap_setCell_other _ _ _ _ (by simp only; omega)]; exact h2
  · rw [heap_setCell_other _ _ _ _ (by simp only; omega)]; exact h3
  · rw [heap_setCell_other _ _ _ _ (by simp only; omega), List.length_set]; exact h4
  · rcases h6 with h | ⟨b2, e2, hR2, m1, m2⟩
    · exact .inl h
    · by_cases hX0 : X = []
      · exact .inl hX0
      · have hne : b2 ≠ b := fun he => n3.elim hX0 fun h => h (by rw [e2, he])
        exact .inr ⟨b2, e2, hR2.same (heap_setCell_other _ _ _ _ (by simpa using hne)), m1, m2⟩
/-- What lies of a signal of the plan. -/
theorem PSt.sigCell {w wr : World} {g bp b : Nat} {A1 : Option Addr} {c1 c2 : Nat} {L : List It.Itm} {X : List Pl.Sec} {G : List Pl.Sig} (h : PSt w wr g bp A1 (some ⟨b, 0, none⟩) c1 c2 L X G) {k : Nat} {x : Pl.Sig} (hx : G[k]? = some x) :
    (wr.cell? ⟨b, k * 3, none⟩ = some (.string (txt x.name)) ∧ wr.cell? ⟨b, k * 3 + 1, none⟩ = some (.int .i64 x.sec) ∧ wr.cell? ⟨b, k * 3 + 2, none⟩ = some (.int .i64 x.en)) ∧ wr.frozen? ⟨b, k * 3 + 1, none⟩ = false ∧ b < wr.heap.size ∧ b ≠ bp ∧ wr.cell? ⟨bp, 5, none⟩ = some (.slice (some ⟨b, 0, none⟩) G.length c2) ∧ bp < wr.heap.size := by
  have hG0 : G ≠ [] := fun h => by rw [h] at hx; cases hx
  obtain ⟨⟨-, -, -, h4⟩, -, -, h7⟩ := h
  obtain ⟨b', e', hR, -, n2, -⟩ := h7.resolve_left hG0
  obtain rfl : b = b' := by cases e'; rfl
  have hc : ∀ j v, (sigCells x)[j]? = some v → wr.cell? ⟨b, k * 3 + j, none⟩ = some v ∧ wr.frozen? ⟨b, k * 3 + j, none⟩ = false := fun j v hv => hR.2 k x hx j v hv
  exact ⟨⟨(hc 0 _ rfl).1, (hc 1 _ rfl).1, (hc 2 _ rfl).1⟩, (hc 1 _ rfl).2, hR.1, n2, cell_of_row _ _ 5 _ _ _ h4, (Array.getElem?_eq_some_iff.1 h4).1⟩
theorem PSt.drew {w wr : World} {g bp : Nat} {A1 A2 : Option Addr} {c1 c2 : Nat} {L : List It.Itm} {X : List Pl.Sec} {G : List Pl.Sig} (h : PSt w wr g bp A1 A2 c1 c2 L X G) : PSt w wr.drew g bp A1 A2 c1 c2 L X G := h.below (Below.refl _ _).drew
theorem set_same {α : Type} {l : List α} {k : Nat} {a : α} (h : l[k]? = some a) : l.set k a = l := by
  apply List.ext_getElem?
  intro j
  rw [List.getElem?_set]
  by_cases hk : k = j
  · subst hk
    rw [if_pos rfl, if_pos (List.getElem?_eq_some_iff.1 h).1, h]
  · rw [if_neg hk]
theorem index_end (s : Pl.Sec) {e : Nat} (he : e < 3) (W : World) : Sem.run Tryz.prog (Instr.index 49 (.agg #[.int .i64 s.e0.goes, .int .i64 s.e0.at_, .int .i64 s.e0.sig, .int .i64 s.e1.goes, .int .i64 s.e1.at_, .int .i64 s.e1.sig, .int .i64 s.e2.goes, .int .i64 s.e2.at_, .int .i64 s.e2.sig]) (.int .i64 (e : Int))) W = .ok (.agg #[.int .i64 (s.get e).goes, .int .i64 (s.get e).at_, .int .i64 (s.get e).sig]) W := by
  have he' : e = 0 ∨ e = 1 ∨ e = 2 := by omega
  have u1 := Tryz.underlying49
  have u2 := Tryz.sizeOf48
  have u3 := Tryz.isAgg48
  rcases he' with rfl | rfl | rfl
  all_goals simp [Instr.index, run_underlying u1, u2, u3, go_sem, Pl.Sec.get]
/-- A place, asked for while the plan is made. -/
theorem place_made {w Wx W : World} {g bp b : Nat} {A2 : Option Addr} {c1 c2 : Nat} {L : List It.Itm} {vS vG : Value} {X : List Pl.Sec} {G : List Pl.Sig} (hO : Pl.Ok L) (hD : DrX tyD tyS tyG w g L vS vG (Pl.dS L) (Pl.wG L)) (hP : PSt w Wx g bp (some ⟨b, 0, none⟩) A2 c1 c2 L X G) (hN : X.map Pl.Sec.name = (Pl.fin L).secs.map Pl.Sec.name) (hX0 : X ≠ []) (hW : Below Wx.heap.size Wx W) {v : Nat} (hv : v < (Pl.dS L).length) :
    Calls Tryz.prog 60 #[.int .i64 v, .pointer (some ⟨bp, 0, none⟩), .pointer (some ⟨w.heap.size, 0, none⟩)] W fun e w' => e = .returned (.int .i64 (Pl.ren1 (Pl.ranks (Pl.nmS L)) v)) ∧ Below W.heap.size W w' ∧ Below Wx.heap.size Wx w' := by
  have hP' := hP.below hW
  obtain ⟨⟨h1, h2, h3, h4⟩, h5, h6, -⟩ := hP'
  obtain ⟨b', e, hR, -⟩ := h6.resolve_left hX0
  cases e
  have hlS : (Pl.dS L).length ≤ 24 := by rw [Pl.dS_len]; exact hO.few
  have hlX : X.length = (Pl.fin L).secs.length := by have := congrArg List.length hN; simpa using this
  have hlF : (Pl.fin L).secs.length ≤ 24 := by rw [← Pl.sorted_len, Pl.isort_len]; exact hlS
  have hu := List.getElem?_eq_getElem hv
  obtain ⟨k0, -, kg⟩ := one_cell h2
  have := pPlace g bp w.heap.size L vS vG (Pl.dS L) (Pl.wG L) (some ⟨b, 0, none⟩) c1 X W (hD.below h1) k0 (cell_of_row _ _ 4 _ _ _ h4) kg (Array.getElem?_eq_some_iff.1 h4).1 hR.row (by omega) (by omega) hu
  refine this.mono ?_
  rintro e' w' ⟨rfl, hb⟩
  exact ⟨by rw [(Pl.find_rank hO hu hN).1], hb, hW.trans (hb.mono hW.size)⟩
theorem PSt.endCell {w wr : World} {g bp b : Nat} {A2 : Option Addr} {c1 c2 : Nat} {L : List It.Itm} {X : List Pl.Sec} {G : List Pl.Sig} (h : PSt w wr g bp (some ⟨b, 0, none⟩) A2 c1 c2 L X G) {k e : Nat} {x : Pl.Sec} (hx : X[k]? = some x) (he : e < 3) :
    wr.cell? ⟨b, k * 12 + 3 + e * 3, none⟩ = some (.int .i64 (x.get e).goes) ∧ wr.frozen? ⟨b, k * 12 + 3 + e * 3, none⟩ = false ∧ wr.cell? ⟨b, k * 12 + 3 + e * 3 + 2, none⟩ = some (.int .i64 (x.get e).sig) ∧ wr.frozen? ⟨b, k * 12 + 3 + e * 3 + 2, none⟩ = false ∧ b < wr.heap.size ∧ b ≠ bp ∧ wr.cell? ⟨bp, 4, none⟩ = some (.slice (some ⟨b, 0, none⟩) X.length c1) ∧ bp < wr.heap.size := by
  have hX0 : X ≠ [] := fun h => by rw [h] at hx; cases hx
  obtain ⟨⟨-, -, -, h4⟩, -, h6, -⟩ := h
  obtain ⟨b', e', hR, -, n2⟩ := h6.resolve_left hX0
  obtain rfl : b = b' := by cases e'; rfl
  have hc : ∀ j v, (secCells x)[j]? = some v → wr.cell? ⟨b, k * 12 + j, none⟩ = some v ∧ wr.frozen? ⟨b, k * 12 + j, none⟩ = false := fun j v hv => hR.2 k x hx j v hv
  have t0 : (secCells x)[3 + e * 3]? = some (.int .i64 (x.get e).goes) := by
    have : e = 0 ∨ e = 1 ∨ e = 2 := by omega
    rcases this with rfl | rfl | rfl <;> rfl
  have t2 : (secCells x)[3 + e * 3 + 2]? = some (.int .i64 (x.get e).sig) := by
    have : e = 0 ∨ e = 1 ∨ e = 2 := by omega
    rcases this with rfl | rfl | rfl <;> rfl
  have a := hc _ _ t0
  have c := hc _ _ t2
  simp only [← Nat.add_assoc] at a c
  exact ⟨a.1, a.2, c.1, c.2, hR.1, n2, cell_of_row _ _ 4 _ _ _ h4, (Array.getElem?_eq_some_iff.1 h4).1⟩
theorem PSt.rows {w wr W : World} {g bp : Nat} {A1 A2 : Option Addr} {c1 c2 : Nat} {L : List It.Itm} {X : List Pl.Sec} {G : List Pl.Sig} (h : PSt w wr g bp A1 A2 c1 c2 L X G) (hW : ∀ b, w.heap.size + 1 < b → W.heap[b]? = wr.heap[b]?) : LSec.Row W A1 X ∧ LSig.Row W A2 G := by
  obtain ⟨-, -, h6, h7⟩ := h
  constructor
  · rcases h6 with h | ⟨b, rfl, hR, n1, -⟩
    · exact .inl h
    · exact (hR.same (hW b n1)).row
  · rcases h7 with h | ⟨b, rfl, hR, n1, -⟩
    · exact .inl h
    · exact (hR.same (hW b n1)).row
theorem zero_plan {w W0 w' : World} (hz : W0.heap.size = w.heap.size + 2) (hbl : Below ((W0.alloc planZ).drew).heap.size (W0.alloc planZ).drew w') : w'.heap[w.heap.size + 1 + 1]? = some (.cells #[.int .i64 0, .int .i64 0, .int .i64 0, .int .i64 0, .slice none 0 0, .slice none 0 0] 28 (0, 0)) := by
  have h := (hbl.block W0.heap.size (by simp)).trans (heap_alloc_new W0 planZ)
  rwa [hz] at h
set_option maxHeartbeats 8000000 in
set_option maxRecDepth 100000 in
theorem pPlan_any : DPlanOk := by
  intro L w g hO hLack hD
  obtain ⟨vS, vG, hX⟩ := hD
  have lS : (Pl.dS L).length ≤ 24 := by rw [Pl.dS_len]; exact hO.few
  have lG : (Pl.wG L).length ≤ 12 := by rw [Pl.wG_len]; exact hO.gfew
  obtain ⟨A, c, rfl, rA⟩ := own_rowF hX.2.1
  obtain ⟨A', c', rfl, rA'⟩ := own_rowF hX.2.2.1
  obtain ⟨R0, R1, XX, XS⟩ := two_blocks w (.cells #[.pointer (some ⟨g, 0, none⟩)] 83) planZ
  have X0 := Lib.hid XX
  have hX0 := hX.below XX
  obtain ⟨-, ⟨n1, n2, n3, n4⟩, ⟨s10, s11⟩, -, g1⟩ := draft_row hX0.1
  obtain ⟨b0, -, g2⟩ := one_cell R0
  have CS := Lib.hid (fun W (h : Below ((w.alloc (.cells #[.pointer (some ⟨g, 0, none⟩)] 83)).alloc planZ).heap.size ((w.alloc (.cells #[.pointer (some ⟨g, 0, none⟩)] 83)).alloc planZ) W) => (pCloneSec A c (Pl.dS L) W (rowF_below (rowF_below rA XX) h) (by omega)))
  have CG := Lib.hid (fun W (h : Below ((w.alloc (.cells #[.pointer (some ⟨g, 0, none⟩)] 83)).alloc planZ).heap.size ((w.alloc (.cells #[.pointer (some ⟨g, 0, none⟩)] 83)).alloc planZ) W) => (pCloneSig A' c' (Pl.wG L) W (rowF_below (rowF_below rA' XX) h) (by omega)))
  have W0 := Lib.hid (Below.refl ((w.alloc (.cells #[.pointer (some ⟨g, 0, none⟩)] 83)).alloc planZ).heap.size ((w.alloc (.cells #[.pointer (some ⟨g, 0, none⟩)] 83)).alloc planZ))
  have KS := Lib.hid (fun w' (hb : Below ((w.alloc (.cells #[.pointer (some ⟨g, 0, none⟩)] 83)).alloc planZ).heap.size ((w.alloc (.cells #[.pointer (some ⟨g, 0, none⟩)] 83)).alloc planZ) w') => show w'.cell? ⟨w.heap.size, 0, none⟩ = some (.pointer (some ⟨g, 0, none⟩)) ∧ w'.cell? ⟨g, 6, none⟩ = some (.int .i64 (Pl.num L 1)) ∧ w'.cell? ⟨g, 7, none⟩ = some (.int .i64 (Pl.num L 2)) ∧ w'.cell? ⟨g, 8, none⟩ = some (.int .i64 (Pl.num L 3)) ∧ w'.cell? ⟨g, 9, none⟩ = some (.int .i64 (Pl.num L 4)) ∧ w'.cell? ⟨g, 10, none⟩ = some (.slice A (Pl.dS L).length c) ∧ w'.cell? ⟨g, 11, none⟩ = some (.slice A' (Pl.wG L).length c') from
    have k := fun o => hb.cell (p := ⟨g, o, none⟩) g1
    ⟨(hb.cell (p := ⟨w.heap.size, 0, none⟩) g2).trans b0, (k _).trans n1, (k _).trans n2, (k _).trans n3, (k _).trans n4, (k _).trans s10, (k _).trans s11⟩)
  have HX := Lib.hid hX
  have HO := Lib.hid hO
  have HL := Lib.hid hLack
  have HR0 := Lib.hid R0
  have HR1 := Lib.hid R1
  clear hX hX0 hO hLack R0 R1 XX rA rA'
  go_enter Tryz.func27, Tryz.ntmps27
  go_upto_region 1 with fail
  go_cut [3] from 12 (fun s3 w' => PFirst w g L s3 w')
  case first =>
    go_region_held3 (fun w' => w'.cell? ⟨w.heap.size, 0, none⟩ = some (.pointer (some ⟨g, 0, none⟩)) ∧ w'.cell? ⟨g, 6, none⟩ = some (.int .i64 (Pl.num L 1)) ∧ w'.cell? ⟨g, 7, none⟩ = some (.int .i64 (Pl.num L 2)) ∧ w'.cell? ⟨g, 8, none⟩ = some (.int .i64 (Pl.num L 3)) ∧ w'.cell? ⟨g, 9, none⟩ = some (.int .i64 (Pl.num L 4)) ∧ w'.cell? ⟨g, 10, none⟩ = some (.slice A (Pl.dS L).length c) ∧ w'.cell? ⟨g, 11, none⟩ = some (.slice A' (Pl.wG L).length c'))
      (first | with_reducible exact KS.out _ W0.out.drew | with_reducible exact KS.out _ (W0.out.alloc (Nat.le_refl _) _).drew | (with_reducible refine KS.out _ ?_; (repeat (first | (with_reducible refine Below.setCell ?_ (by first | (simp; done) | exact hacc.size) _) | (with_reducible refine Below.drew ?_) | (with_reducible refine Below.alloc ?_ (by first | exact hacc2.size | exact hacc.size | (simp; done)) _))); first | with_reducible exact hacc2 | with_reducible exact hacc | with_reducible exact W0.out))
      (first
        | (go_at_call 53; (with_reducible refine (CS.out _ W0.out.drew).mono ?_); rintro e w' ⟨A1, c1, rfl, hc1, hr1, hf1, hbl⟩; have hacc := W0.out.drew.trans hbl)
        | (go_at_call 53; (with_reducible refine (CS.out _ (W0.out.alloc (Nat.le_refl _) planZ).drew).mono ?_); rintro e w' ⟨A1, c1, rfl, hc1, hr1, hf1, hbl⟩; have hacc := (W0.out.alloc (Nat.le_refl _) planZ).drew.trans (hbl.mono (by simp)); have hpz := zero_plan XS hbl; obtain ⟨⟨z0, z1, z2, z3, z4, z5⟩, ⟨y0, y1, y2, y3, y4, y5⟩, zg⟩ := row6 hpz)
        | (go_at_call 53; (with_reducible refine (CS.out _ hacc).mono ?_); rintro e w2 ⟨A1, c1, rfl, hc1, hr1, hf1, hbl2⟩; have hacc2 := hacc.trans (hbl2.mono hacc.size); (first | (have hpz2 := (hbl2.block _ zg).trans hpz; obtain ⟨⟨x0, x1, x2, x3, x4, x5⟩, ⟨v0, v1, v2, v3, v4, v5⟩, zg2⟩ := row6 hpz2) | skip))
        | (go_at_call 53; (with_reducible refine (CS.out _ (hacc.alloc hacc.size planZ)).mono ?_); rintro e w2 ⟨A1, c1, rfl, hc1, hr1, hf1, hbl2⟩; have hacc2 := (hacc.alloc hacc.size planZ).trans (hbl2.mono (by have := hacc.size; simp at this ⊢; omega)); have hpz2 := (hbl2.block _ (by simp)).trans (heap_alloc_new w' planZ); obtain ⟨⟨x0, x1, x2, x3, x4, x5⟩, ⟨v0, v1, v2, v3, v4, v5⟩, zg2⟩ := row6 hpz2)
        | (go_at_call 54; (with_reducible refine (CG.out _ W0.out.drew).mono ?_); rintro e w' ⟨A2, c2, rfl, hc2, hr2, hf2, hbl⟩; have hacc := W0.out.drew.trans hbl)
        | (go_at_call 54; (with_reducible refine (CG.out _ (W0.out.alloc (Nat.le_refl _) planZ).drew).mono ?_); rintro e w' ⟨A2, c2, rfl, hc2, hr2, hf2, hbl⟩; have hacc := (W0.out.alloc (Nat.le_refl _) planZ).drew.trans (hbl.mono (by simp)); have hpz := zero_plan XS hbl; obtain ⟨⟨z0, z1, z2, z3, z4, z5⟩, ⟨y0, y1, y2, y3, y4, y5⟩, zg⟩ := row6 hpz)
        | (go_at_call 54; (with_reducible refine (CG.out _ hacc).mono ?_); rintro e w2 ⟨A2, c2, rfl, hc2, hr2, hf2, hbl2⟩; have hacc2 := hacc.trans (hbl2.mono hacc.size); (first | (have hpz2 := (hbl2.block _ zg).trans hpz; obtain ⟨⟨x0, x1, x2, x3, x4, x5⟩, ⟨v0, v1, v2, v3, v4, v5⟩, zg2⟩ := row6 hpz2) | skip))
        | (go_at_call 54; (with_reducible refine (CG.out _ (hacc.alloc hacc.size planZ)).mono ?_); rintro e w2 ⟨A2, c2, rfl, hc2, hr2, hf2, hbl2⟩; have hacc2 := (hacc.alloc hacc.size planZ).trans (hbl2.mono (by have := hacc.size; simp at this ⊢; omega)); have hpz2 := (hbl2.block _ (by simp)).trans (heap_alloc_new w' planZ); obtain ⟨⟨x0, x1, x2, x3, x4, x5⟩, ⟨v0, v1, v2, v3, v4, v5⟩, zg2⟩ := row6 hpz2))
    all_goals go_wp2_with fail
    all_goals go_meet
    all_goals have HB2 := X0.out.trans (hacc2.mono X0.out.size)
    all_goals have hzz : w.heap.size + 2 ≤ w'.heap.size := by have := hacc.size; rw [XS] at this; exact this
    all_goals first
      | exact PFirst.mk (w1 := w') (w2 := w2) (bp := w2.heap.size) (lo := w.heap.size + 2) XS HR0.out HR1.out hacc2 (Nat.le_refl _) hc1 hc2 hr1 (fun a ha => by have := hf1 a ha; simp at this ⊢; omega) hbl2 hr2 hf2 hzz (by have := hacc2.size; rw [XS] at this; exact this) (.inr hbl2.size) (.inr (.inl (Nat.le_refl _))) (fun b hb _ => heap_alloc_old _ _ hb) (HB2.alloc HB2.size _) (heap_alloc_new _ _)
      | exact PFirst.mk (w1 := w') (w2 := w2) (bp := w'.heap.size) (lo := w.heap.size + 2) XS HR0.out HR1.out hacc2 (Nat.le_refl _) hc1 hc2 hr1 (fun a ha => by have := hf1 a ha; simp at this ⊢; omega) (((Below.refl w'.heap.size w').alloc (Nat.le_refl _) planZ).trans (hbl2.mono (by simp))) hr2 (fun a ha => by have := hf2 a ha; simp at this ⊢; omega) hzz hzz (.inr (Nat.le_refl _)) (.inr (.inr fun a ha => by have := hf2 a ha; simp at this ⊢; omega)) (fun b _ hn => set6_other hn) (by (repeat (with_reducible refine Below.setCell ?_ (by simp only; omega) _)); exact HB2) (set6_same hpz2)
      | exact PFirst.mk (w1 := w') (w2 := w2) (bp := w.heap.size + 1 + 1) (lo := w.heap.size + 3) XS HR0.out HR1.out hacc2 (by omega) hc1 hc2 hr1 (fun a ha => by have := hf1 a ha; simp at this ⊢; omega) hbl2 hr2 hf2 hzz (Nat.le_refl _) (.inl (by omega)) (.inl zg) (fun b _ hn => set6_other hn) (by (repeat (with_reducible refine Below.setCell ?_ (by simp only; omega) _)); exact HB2) (set6_same hpz2)
  case rest =>
    obtain ⟨bp, A1, A2, c1, c2, rfl, l1, l2, f1, f2, hP⟩ := hcut
    have nS : ((Pl.dS L).map Pl.Sec.name).Nodup := by rw [Pl.dS_names]; exact HO.out.names
    have nG : ((Pl.wG L).map Pl.Sig.name).Nodup := by rw [Pl.wG_names']; exact HO.out.gnames
    have rowS : Pl.dS L = [] ∨ ∃ b, A1 = some ⟨b, 0, none⟩ ∧ RowF LSec wc b (Pl.dS L) := hP.2.2.1.imp id fun ⟨b, e, hR, _⟩ => ⟨b, e, hR⟩
    have SS := Lib.hid (pSortSec A1 c1 (Pl.dS L) wc rowS nS (by omega))
    obtain ⟨-, p4, -, -⟩ : True ∧ wc.cell? ⟨bp, 4, none⟩ = some (.slice A1 (Pl.dS L).length c1) ∧ True ∧ True := ⟨trivial, cell_of_row _ _ 4 _ _ _ hP.1.2.2.2, trivial, trivial⟩
    have HP := Lib.hid hP
    have NG := Lib.hid nG
    have F1 := Lib.hid f1
    have F2 := Lib.hid f2
    clear hP rowS nS nG f1 f2 n1 n2 n3 n4 s10 s11 g1 b0 g2 CS CG W0 KS HR0 HR1 XS
    go_wp2_with fail
    refine SS.out.mono ?_; rintro e w2 hs1
    obtain ⟨rfl, -⟩ := id hs1
    have HP2 := Lib.hid (HP.out.sortS hs1)
    have p5 : w2.cell? ⟨bp, 5, none⟩ = some (.slice A2 (Pl.wG L).length c2) := cell_of_row _ _ 5 _ _ _ HP2.out.1.2.2.2
    have rowG : Pl.wG L = [] ∨ ∃ b, A2 = some ⟨b, 0, none⟩ ∧ RowF LSig w2 b (Pl.wG L) := HP2.out.2.2.2.imp id fun ⟨b, e, hR, _⟩ => ⟨b, e, hR⟩
    have SG := Lib.hid (pSortSig A2 c2 (Pl.wG L) w2 rowG NG.out (by omega))
    clear hs1 rowG p4 HP SS
    go_wp2_with fail
    refine SG.out.mono ?_; rintro e w3 hs1
    obtain ⟨rfl, -⟩ := id hs1
    have HP3 := Lib.hid (HP2.out.sortG hs1)
    have q4 : w3.cell? ⟨bp, 4, none⟩ = some (.slice A1 (Pl.isort Pl.Sec.name (Pl.dS L)).length c1) := cell_of_row _ _ 4 _ _ _ HP3.out.1.2.2.2
    clear hs1 p5 HP2 SG NG
    rw [Pl.sorted_len] at q4
    have lF : (Pl.fin L).secs.length ≤ 24 := by rw [← Pl.sorted_len, Pl.isort_len]; exact lS
    have HS := Lib.hid (show Pl.Shut L from fun x hx => by
      obtain ⟨j, hj, rfl⟩ := List.getElem_of_mem hx
      rw [← lackAt_eq hj]; exact HL.out j hj)
    go_wp2_with fail
    go_loopw [53] (fun v wr => ∃ i : Nat, i ≤ (Pl.fin L).secs.length ∧ v = .int .i64 i ∧ PSt w wr g bp A1 A2 c1 c2 L (Pl.secsTo L i) (Pl.isort Pl.Sig.name (Pl.wG L))) (fun v _ => (Pl.fin L).secs.length - (intOf v).toNat)
    case atStart => exact ⟨0, Nat.zero_le _, rfl, by rw [Pl.secsTo_zero]; exact HP3.out⟩
    case round =>
      clear HP3 q4
      obtain ⟨i, hi, rfl, hP⟩ := hrel
      by_cases hlt : i < (Pl.fin L).secs.length
      · obtain ⟨x, hx, hfx, hat⟩ := Pl.secsTo_at HO.out (List.getElem?_eq_getElem hlt)
        have hne : Pl.secsTo L i ≠ [] := fun h => by rw [h] at hat; cases hat
        obtain ⟨b1, rfl, hR, hb1, hb2⟩ := hP.2.2.1.resolve_left hne
        have on : LSec.On wr b1 (i * 12) (Pl.clr (Pl.secG (Pl.gW L) x)) := fun j v hv => (hR.2 i _ hat j v hv).1
        obtain ⟨a0, a1, a2, a3, a4, a5, a6, a7, a8, a9, a10, a11⟩ := sec_on on
        have NO := Lib.hid (fun e (he : e < 3) => Pl.not_open HO.out HS.out hx he)
        have RC := Lib.hid (Pl.ren_clr HO.out (x := x))
        have NSG := Lib.hid (show ∀ e, e < 3 → ((Pl.clr (Pl.secG (Pl.gW L) x)).get e).sig = -1 from fun e _ => by rw [Pl.clr_get]; rfl)
        have NX := Lib.hid (Pl.secsTo_next (List.getElem?_eq_getElem hlt))
        rw [hfx] at NX
        have HU := Lib.hid (Pl.Upto.zero (Pl.ranks (Pl.nmS L)) [] (Pl.clr (Pl.secG (Pl.gW L) x)))
        have HAT := Lib.hid hat
        have HP := Lib.hid hP
        have gb1 := hR.1
        generalize Pl.clr (Pl.secG (Pl.gW L) x) = s0 at a0 a1 a2 a3 a4 a5 a6 a7 a8 a9 a10 a11 NO RC HU HAT NSG
        clear hat hR hP on hx hfx hne
        have HP0 := Lib.hid (show PSt w (wr.alloc (.cells (secCells s0).toArray 51)) g bp (some ⟨b1, 0, none⟩) A2 c1 c2 L ((Pl.secsTo L i).set i s0) (Pl.isort Pl.Sig.name (Pl.wG L)) by
          rw [set_same HAT.out]
          exact HP.out.below ((Below.refl _ _).alloc (Nat.le_refl _) _))
        have hlx : i < (Pl.secsTo L i).length := (List.getElem?_eq_some_iff.1 HAT.out).1
        go_wp2_with fail
        clear a0 a1 a2 a3 a4 a5 a6 a7 a8 a9 a10 a11
        go_loopw [60] (fun v wr => ∃ e : Nat, e ≤ 3 ∧ v = .int .i64 e ∧ ∃ t, Pl.Upto (Pl.ranks (Pl.nmS L)) [] e s0 t ∧ PSt w wr g bp (some ⟨b1, 0, none⟩) A2 c1 c2 L ((Pl.secsTo L i).set i t) (Pl.isort Pl.Sig.name (Pl.wG L))) (fun v _ => 3 - (intOf v).toNat)
        case atStart => exact ⟨0, by omega, rfl, s0, HU.out, HP0.out⟩
        case round =>
          clear HP HU HP0
          obtain ⟨e, he, rfl, t, hU, hP⟩ := hrel
          by_cases he3 : e < 3
          · have d3 : decide ((e : Int) < 3) = true := dec_t (by omega)
            have e0 : (e : Int) < 3 := by omega
            have HU := Lib.hid hU
            have HP := Lib.hid hP
            clear hU hP
            have HIX := fun W => index_end s0 he3 W
            have hg0 := HU.out.2.2.2.2 e he3 (Nat.le_refl e)
            have hsg := NSG.out e he3
            have HNX := HU.out.next he3
            rw [Pl.put_ren HU.out he3] at HNX
            rcases NO.out e he3 with hm | ⟨v, hv, hvl⟩
            · have hmm : (t.get e).goes < 0 := by rw [hg0, hm]; decide
              rw [Pl.setTo_same he3 hmm, Pl.setSig_same he3 (by rw [hg0, hsg]; decide)] at HNX
              have HN := Lib.hid HNX
              have D : ((s0.get e).goes != -1) = false := by rw [hm]; rfl
              have HPn := Lib.hid (HP.out.below ((Below.refl wr.heap.size wr).alloc (Nat.le_refl _) (.cells #[.int .i64 (s0.get e).goes, .int .i64 (s0.get e).at_, .int .i64 (s0.get e).sig] 48)))
              clear hm hmm hg0 hsg HNX
              go_wp2_with fail
              go_roundw
              case rel => exact ⟨e + 1, by omega, by go_num, t, HN.out, HPn.out⟩
              case measure => simp [intOf]; omega
            · have hlt0 : ¬ ((t.setTo e (Pl.ren1 (Pl.ranks (Pl.nmS L)) (t.get e).goes)).get e).sig ≥ 0 := by rw [Pl.setTo_get_sig _ he3, hg0, hsg]; decide
              rw [show (t.get e).sig = ((t.setTo e (Pl.ren1 (Pl.ranks (Pl.nmS L)) (t.get e).goes)).get e).sig from (Pl.setTo_get_sig _ he3).symm, Pl.setSig_same he3 (by omega), hg0, hv] at HNX
              have HN := Lib.hid HNX
              have D : ((v : Int) != -1) = true := by rw [bne_iff_ne]; omega
              rw [hv] at HIX
              have HPn := Lib.hid (HP.out.below ((Below.refl wr.heap.size wr).alloc (Nat.le_refl _) (.cells #[.int .i64 v, .int .i64 (s0.get e).at_, .int .i64 (s0.get e).sig] 48)))
              have hNm : ((Pl.secsTo L i).set i t).map Pl.Sec.name = (Pl.fin L).secs.map Pl.Sec.name := by
                rw [List.map_set, set_same (by rw [List.getElem?_map, HAT.out, HU.out.1]; rfl), Pl.secsTo_names]
              have hti : ((Pl.secsTo L i).set i t)[i]? = some t := List.getElem?_set_self hlx
              have hXn : (Pl.secsTo L i).set i t ≠ [] := fun h => by rw [h] at hti; cases hti
              have PLC := Lib.hid (fun W hW => place_made HO.out HX.out HPn.out hNm hXn hW hvl (W := W))
              obtain ⟨-, -, -, -, kb, kn, k4, kbp⟩ := HPn.out.endCell hti he3
              have kx : (wr.alloc (.cells #[.int .i64 v, .int .i64 (s0.get e).at_, .int .i64 (s0.get e).sig] 48)).cell? ⟨wr.heap.size, 0, none⟩ = some (.int .i64 v) := cell_of_row _ _ 0 _ _ _ (heap_alloc_new _ _)
              have kxl : wr.heap.size < (wr.alloc (.cells #[.int .i64 v, .int .i64 (s0.get e).at_, .int .i64 (s0.get e).sig] 48)).heap.size := by simp
              have kbx : b1 ≠ wr.heap.size := by have := (HP.out.endCell hti he3).2.2.2.2.1; omega
              have HTI := Lib.hid hti
              have hil : i < ((Pl.secsTo L i).set i t).length := by rw [List.length_set]; exact hlx
              clear hNm hti hXn hg0 hsg HNX hlt0 hv
              go_wp2_with fail
              go_region_held3 (fun w' => w'.cell? ⟨bp, 4, none⟩ = some (.slice (some ⟨b1, 0, none⟩) ((Pl.secsTo L i).set i t).length c1) ∧ w'.cell? ⟨wr.heap.size, 0, none⟩ = some (.int .i64 v))
                (first | exact ⟨k4, kx⟩ | exact ⟨q1, q2⟩ | exact ⟨(World.cell?_setCell_far _ _ _ _ kn).trans q1, (World.cell?_setCell_far _ _ _ _ kbx).trans q2⟩)
                (first
                  | (go_at_call 60; (with_reducible refine (PLC.out _ (Below.refl _ _).drew).mono ?_); rintro e' w' ⟨rfl, hbl, hacc⟩; have q1 := (hacc.cell (p := ⟨bp, 4, none⟩) kbp).trans k4; have q2 := (hacc.cell (p := ⟨wr.heap.size, 0, none⟩) kxl).trans kx; obtain ⟨z0, zf, -, -, zb, -, -, -⟩ := (HPn.out.below hacc).endCell HTI.out he3))
              all_goals have HS1 := (HPn.out.below hacc).setS (k := i) (j := 3 + e * 3) HTI.out (by omega) (.int .i64 (Pl.ren1 (Pl.ranks (Pl.nmS L)) v)) (setTo_cells he3 _ _)
              all_goals rw [← Nat.add_assoc, List.set_set] at HS1
              all_goals have HSS := Lib.hid HS1
              all_goals clear HS1
              all_goals go_wp2_with fail
              all_goals go_roundw
              case rel => exact ⟨e + 1, by omega, by go_num, _, HN.out, by first | exact HSS.out | exact HSS.out.drew⟩
              case measure => simp [intOf]; omega
          · obtain rfl : e = 3 := by omega
            have HT := hU.done
            rw [RC.out] at HT
            rw [HT, NX.out] at hP
            have HPn := Lib.hid hP
            clear hU hP HT
            go_wp2_with fail
            go_roundw
            case rel => exact ⟨i + 1, by omega, by go_num, HPn.out⟩
            case measure => simp [intOf]; omega
      · obtain rfl : i = (Pl.fin L).secs.length := by omega
        rw [Pl.secsTo_all, ← Pl.tell_zero HO.out HS.out, ← Pl.sigsTo_zero] at hP
        have p5 : wr.cell? ⟨bp, 5, none⟩ = some (.slice A2 (Pl.fin L).sigs.length c2) := by
          have := cell_of_row _ _ 5 _ _ _ hP.1.2.2.2
          rwa [Pl.sigsTo_len L 0 (Nat.zero_le _)] at this
        have HP4 := Lib.hid hP
        have lFG : (Pl.fin L).sigs.length ≤ 12 := by rw [← Pl.gsorted_len, Pl.isort_len]; exact lG
        clear hP
        go_wp2_with fail
        go_loopw [84] (fun v wr => ∃ i : Nat, i ≤ (Pl.fin L).sigs.length ∧ v = .int .i64 i ∧ PSt w wr g bp A1 A2 c1 c2 L (Pl.secsTell L i) (Pl.sigsTo L i)) (fun v _ => (Pl.fin L).sigs.length - (intOf v).toNat)
        case atStart => exact ⟨0, Nat.zero_le _, rfl, HP4.out⟩
        case round =>
          clear HP4 p5
          obtain ⟨i, hi, rfl, hP⟩ := hrel
          by_cases hlt : i < (Pl.fin L).sigs.length
          · have hg := List.getElem?_eq_getElem hlt
            generalize (Pl.fin L).sigs[i] = gs at hg
            obtain ⟨v, hvl, hat, hren⟩ := Pl.sigsTo_at HO.out hg
            obtain ⟨k, e, s, hk, he, he3, hs, hsat, hnx⟩ := Pl.tell_next HO.out HS.out hg
            have hgx := Pl.sigsTo_next hg
            obtain ⟨gn, gsec, gen⟩ := gs
            simp only at hk he hat hren
            subst hk he
            have hne : Pl.sigsTo L i ≠ [] := fun h => by rw [h] at hat; cases hat
            have hneX : Pl.secsTell L i ≠ [] := fun h => by rw [h] at hsat; cases hsat
            obtain ⟨b2, rfl, -⟩ := hP.2.2.2.resolve_left hne
            obtain ⟨b1, rfl, -⟩ := hP.2.2.1.resolve_left hneX
            obtain ⟨⟨a0, a1, a2⟩, -, gb2, -, -, gbp⟩ := hP.sigCell hat
            simp only at a0 a1 a2
            have hli : i < (Pl.sigsTo L i).length := (List.getElem?_eq_some_iff.1 hat).1
            have hlk : k < (Pl.secsTell L i).length := (List.getElem?_eq_some_iff.1 hsat).1
            have HPn := Lib.hid (hP.below ((Below.refl wr.heap.size wr).alloc (Nat.le_refl _) (.cells #[.string (txt gn), .int .i64 v, .int .i64 e] 53)))
            have PLC := Lib.hid (fun W hW => place_made HO.out HX.out HPn.out (Pl.secsTell_names L i) hneX hW hvl (W := W))
            rw [hren] at PLC
            have kb := heap_alloc_new wr (.cells #[.string (txt gn), .int .i64 v, .int .i64 e] 53)
            have kx1 := cell_of_row _ _ 1 _ _ _ kb
            have kxl : wr.heap.size < (wr.alloc (.cells #[.string (txt gn), .int .i64 v, .int .i64 e] 53)).heap.size := by simp
            have kn1 : b1 ≠ wr.heap.size := by have := (hP.endCell hsat he3).2.2.2.2.1; omega
            have HAT := Lib.hid hat
            have HSA := Lib.hid hsat
            have HNX := Lib.hid hnx
            have HGX := Lib.hid hgx
            clear hP hat hsat hnx hgx hren hg hs hne hneX kb
            go_wp2_with fail
            refine (PLC.out _ (Below.refl _ _)).mono ?_
            rintro e' w' ⟨rfl, hbl, hacc⟩
            have HPw := Lib.hid (HPn.out.below hacc)
            obtain ⟨⟨-, z0, -⟩, z1, z2, z3, z4, z5⟩ := HPw.out.sigCell HAT.out
            have kx2 : w'.cell? ⟨wr.heap.size, 2, none⟩ = some (.int .i64 e) := (hacc.cell (p := ⟨wr.heap.size, 2, none⟩) kxl).trans (cell_of_row _ _ 2 _ _ _ (heap_alloc_new wr (.cells #[.string (txt gn), .int .i64 v, .int .i64 e] 53)))
            have HQ0 := HPw.out.setG HAT.out (j := 1) (by decide) (.int .i64 k) (y := ⟨gn, k, e⟩) rfl
            rw [HGX.out] at HQ0
            have HQ := Lib.hid HQ0
            obtain ⟨-, -, y00, y0, y1, y2, y3, y4⟩ := HQ.out.endCell HSA.out he3
            have kx3 := (World.cell?_setCell_far w' ⟨b2, i * 3 + 1, none⟩ ⟨wr.heap.size, 2, none⟩ (.int .i64 k) (by simp only; omega)).trans kx2
            have HR1 := HQ.out.setS HSA.out (j := 3 + e * 3 + 2) (by omega) (.int .i64 i) (setSig_cells he3 _ _)
            have HR2 := HQ.out.drew.setS HSA.out (j := 3 + e * 3 + 2) (by omega) (.int .i64 i) (setSig_cells he3 _ _)
            rw [HNX.out, ← Nat.add_assoc, ← Nat.add_assoc] at HR1 HR2
            have HRA := Lib.hid HR1
            have HRB := Lib.hid HR2
            have e0 : (e : Int) < 3 := by omega
            clear HR1 HR2 HQ0 a0 a1 a2 kx1 kx2
            go_wp2_with fail
            go_region
            go_wp2_with fail
            go_roundw
            case rel => exact ⟨i + 1, by omega, by go_num, by first | exact HRA.out | exact HRB.out | exact HRA.out.drew | exact HRB.out.drew⟩
            case measure => simp [intOf]; omega
          · obtain rfl : i = (Pl.fin L).sigs.length := by omega
            rw [Pl.tell_all HO.out HS.out, Pl.sigsTo_all] at hP
            obtain ⟨⟨q0, q1, q2, q3, q4, q5⟩, -, gq⟩ := row6 hP.1.2.2.2
            obtain ⟨⟨v0, v1, v2, v3, v4, v5⟩, ⟨e0, e1, e2, e3, e4, e5⟩, gz⟩ := row6 hP.1.2.2.1
            have HPn := Lib.hid hP
            have m1 : (Pl.fin L).secs.length ≤ c1 := by rw [← Pl.sorted_len, Pl.isort_len]; exact l1
            have m2 : (Pl.fin L).sigs.length ≤ c2 := by rw [← Pl.gsorted_len, Pl.isort_len]; exact l2
            clear hP
            go_wp2_with fail
            refine bodyPost_ret ?_ rfl ⟨A1, c1, A2, c2, m1, m2, rfl, (HPn.out.rows fun b hb => set6_other (by omega)).1, (HPn.out.rows fun b hb => set6_other (by omega)).2, F1.out, F2.out, ?_⟩
            · simp [results, Tryz.results27, go_sem, *]
              exact ⟨rfl, rfl, rfl, rfl⟩
            · (repeat (with_reducible refine Below.setCell ?_ (by exact Nat.le_succ _) _)); exact HPn.out.1.1
end Go.Proofs.YtaheiolbeiofpaaGreatDoor
/-
  A plan that is given: in memory; and the walks of layer 5 that give a plan's lines: an end by its names, a section's line.
-/
namespace Go.Proofs.YtaheiolbeiofpaaGreatDoor
open Go.RowKit

abbrev planV (p : Pl.Plan) (A : Option Addr) (c : Nat) (A' : Option Addr) (c' : Nat) : Value := .agg #[.int .i64 p.ov, .int .i64 p.ap, .int .i64 p.se, .int .i64 p.ho, .slice A p.secs.length c, .slice A' p.sigs.length c']
abbrev planO (p : Pl.Plan) (A : Option Addr) (c : Nat) (A' : Option Addr) (c' : Nat) : Obj := .cells #[.int .i64 p.ov, .int .i64 p.ap, .int .i64 p.se, .int .i64 p.ho, .slice A p.secs.length c, .slice A' p.sigs.length c'] 28
def PlanIn (w : World) (p : Pl.Plan) (A A' : Option Addr) : Prop := LSec.Row w A p.secs ∧ LSig.Row w A' p.sigs
theorem PlanIn.below {w w' : World} {p : Pl.Plan} {A A' : Option Addr} (h : PlanIn w p A A') (hb : Below w.heap.size w w') : PlanIn w' p A A' := ⟨h.1.below rfl hb, h.2.below rfl hb⟩
abbrev tipZ : Obj := .cells #[.string ⟨#[]⟩, .int .u8 0] 41
abbrev secO (s : Pl.Sec) : Obj := .cells #[.string (txt s.name), .bool s.pt, .int .i64 s.len, .int .i64 s.e0.goes, .int .i64 s.e0.at_, .int .i64 s.e0.sig, .int .i64 s.e1.goes, .int .i64 s.e1.at_, .int .i64 s.e1.sig, .int .i64 s.e2.goes, .int .i64 s.e2.at_, .int .i64 s.e2.sig] 51
def tipV (s : Pl.Sec) (e : Int) : Value := .agg #[.string (txt s.name), .int .u8 (letterI s.pt e).toNat]
/-- A section of the plan, out of memory. -/
theorem sec_cells {w : World} {A : Option Addr} {L : List Pl.Sec} (h : LSec.Row w A L) {i : Nat} {s : Pl.Sec} (hs : L[i]? = some s) : ∃ b o, A = some ⟨b, o, none⟩ ∧ b < w.heap.size ∧ LSec.On w b (o + i * 12) s := by
  obtain ⟨hi, rfl⟩ := List.getElem?_eq_some_iff.1 hs
  exact h.at hi
set_option maxHeartbeats 4000000 in
set_option maxRecDepth 100000 in
theorem pTip_any (p : Pl.Plan) (A : Option Addr) (c : Nat) (A' : Option Addr) (c' : Nat) (i : Nat) (e : Int) (s : Pl.Sec) (w : World) (h : PlanIn w p A A') (hs : p.secs[i]? = some s) :
    Calls Tryz.prog 37 #[planV p A c A' c', .int .i64 i, .int .i64 e] w fun x w' => x = .returned (tipV s e) ∧ Below w.heap.size w w' := by
  obtain ⟨R0, R1, XX, XS⟩ := two_blocks w (planO p A c A' c') tipZ
  obtain ⟨⟨-, -, -, -, p4, -⟩, -, gp⟩ := row6 R0
  obtain ⟨b, o, rfl, hb, on⟩ := sec_cells (h.1.below rfl XX) hs
  obtain ⟨a0, a1, a2, a3, a4, a5, a6, a7, a8, a9, a10, a11⟩ := sec_on on
  have hi : i < p.secs.length := (List.getElem?_eq_some_iff.1 hs).1
  have X0 := Lib.hid XX
  have LT := Lib.hid (fun W => pLetter_any s.pt e W)
  clear on h hs XX
  go_enter Tryz.func37, Tryz.ntmps37
  go_wp2_with fail
  clear a0 a1 a2 a3 a4 a5 a6 a7 a8 a9 a10 a11 p4
  have k0 : ∀ T, (((w.alloc (planO p (some ⟨b, o, none⟩) c A' c')).alloc T).alloc (secO s)).cell? ⟨w.heap.size + 2, 0, none⟩ = some (.string (txt s.name)) ∧ (((w.alloc (planO p (some ⟨b, o, none⟩) c A' c')).alloc T).alloc (secO s)).cell? ⟨w.heap.size + 2, 1, none⟩ = some (.bool s.pt) := fun T => by
    have hn := heap_alloc_new ((w.alloc (planO p (some ⟨b, o, none⟩) c A' c')).alloc T) (secO s)
    rw [(two_blocks w (planO p (some ⟨b, o, none⟩) c A' c') T).2.2.2] at hn
    obtain ⟨k0, k1, -⟩ := sec_on (heap_sec (t := s) hn)
    rw [Nat.zero_add] at k1
    exact ⟨k0, k1⟩
  have HB := Lib.hid (fun T => (two_blocks w (planO p (some ⟨b, o, none⟩) c A' c') T).2.2.1.alloc (two_blocks w (planO p (some ⟨b, o, none⟩) c A' c') T).2.2.1.size (secO s))
  obtain ⟨k00, k01⟩ := k0 tipZ
  have KK := Lib.hid k0
  clear k0
  have KT := (heap_alloc_old ((w.alloc (planO p (some ⟨b, o, none⟩) c A' c')).alloc (.cells #[.string (txt s.name), .int .u8 (letterI s.pt e).toNat] 41)) (secO s) (by simp)).trans (two_blocks w (planO p (some ⟨b, o, none⟩) c A' c') (.cells #[.string (txt s.name), .int .u8 (letterI s.pt e).toNat] 41)).2.1
  obtain ⟨⟨t0, t1⟩, -⟩ := row2c KT
  have TT := Lib.hid (show ((((w.alloc (planO p (some ⟨b, o, none⟩) c A' c')).alloc (.cells #[.string (txt s.name), .int .u8 (letterI s.pt e).toNat] 41)).alloc (secO s)).drew.cell? ⟨w.heap.size + 1, 0, none⟩ = some (.string (txt s.name)) ∧ (((w.alloc (planO p (some ⟨b, o, none⟩) c A' c')).alloc (.cells #[.string (txt s.name), .int .u8 (letterI s.pt e).toNat] 41)).alloc (secO s)).drew.cell? ⟨w.heap.size + 1, 1, none⟩ = some (.int .u8 (letterI s.pt e).toNat)) from ⟨t0, t1⟩)
  clear KT t0 t1
  go_region_held3 (fun w' => w'.cell? ⟨w.heap.size + 2, 0, none⟩ = some (.string (txt s.name)) ∧ w'.cell? ⟨w.heap.size + 2, 1, none⟩ = some (.bool s.pt))
    (exact KK.out _)
    (first
      | (go_at_call 15; (with_reducible refine (LT.out _).mono ?_); rintro e w' ⟨rfl, rfl⟩))
  all_goals go_wp2_with fail
  all_goals refine bodyPost_ret ?_ rfl ⟨rfl, ?_⟩
  all_goals first | exact (HB.out _).drew | (obtain ⟨t0, t1⟩ := TT.out; simp [results, Tryz.results37, go_sem, t0, t1, tipV]; done) | (obtain ⟨t0, t1⟩ := TT.out; simp [results, Tryz.results37, go_sem, t0, t1, tipV]; trace_state)
theorem txt_none : txt [] = ⟨#[]⟩ := rfl
abbrev secV (s : Pl.Sec) : Value := .agg #[.string (txt s.name), .bool s.pt, .int .i64 s.len, .int .i64 s.e0.goes, .int .i64 s.e0.at_, .int .i64 s.e0.sig, .int .i64 s.e1.goes, .int .i64 s.e1.at_, .int .i64 s.e1.sig, .int .i64 s.e2.goes, .int .i64 s.e2.at_, .int .i64 s.e2.sig]
set_option maxHeartbeats 4000000 in
set_option maxRecDepth 100000 in
theorem pSectionI_any (s : Pl.Sec) (w : World) : Calls Tryz.prog 34 #[secV s] w fun x w' => x = .returned (itemV (Pl.secI s)) ∧ Below w.heap.size w w' := by
  obtain ⟨nm, pt, n, x0, x1, x2⟩ := s
  cases pt
  all_goals
    go_enter Tryz.func34, Tryz.ntmps34
    go_wp2_with fail
    refine bodyPost_ret ?_ rfl ⟨rfl, ?_⟩
    · simp [results, Tryz.results34, go_sem, Pl.secI, It.Tp.zero, txt_none]
    · exact ((Below.refl _ _).alloc (Nat.le_refl _) _).alloc (by simp) _
end Go.Proofs.YtaheiolbeiofpaaGreatDoor
/-
  Plain mathematics of layer 5: a plan's lines as loops over sections and their three ends find them. No program is named here.
-/
namespace Go.Proofs.YtaheiolbeiofpaaGreatDoor.Pl
open Go It

/-- A plan of which every end and every signal leads where a section is. -/
structure Fit (p : Plan) : Prop where
  ends : ∀ (i : Nat) (s : Sec), p.secs[i]? = some s → ∀ e, e < 3 → -1 ≤ (s.get e).goes ∧ (s.get e).goes < p.secs.length ∧ (0 ≤ (s.get e).goes → 0 ≤ (s.get e).at_ ∧ (s.get e).at_ ≤ 2)
  plain : ∀ (i : Nat) (s : Sec), p.secs[i]? = some s → s.pt = false → (s.get 2).goes = -1
  sigs : ∀ (i : Nat) (g : Sig), p.sigs[i]? = some g → 0 ≤ g.sec ∧ g.sec < p.secs.length ∧ 0 ≤ g.en ∧ g.en ≤ 2
  few : p.secs.length ≤ 24
  gfew : p.sigs.length ≤ 12
theorem fit_fin {L : List Itm} (hL : Ok L) (hS : Shut L) : Fit (fin L) where
  ends i s hs e he := by
    rcases end_cases hL hS hs he with h | ⟨_, -, -, -, -, -, h1, -, -⟩ | ⟨_, j, f, t, -, -, -, -, hj, hf, h1, h2, -⟩
    · rw [h]
      refine ⟨by decide, ?_, fun h0 => absurd h0 (by decide)⟩
      have := (List.getElem?_eq_some_iff.1 hs).1
      show (-1 : Int) < _
      omega
    · refine ⟨by omega, ?_, fun h0 => by omega⟩
      have := (List.getElem?_eq_some_iff.1 hs).1
      omega
    · have := (List.getElem?_eq_some_iff.1 hj).1
      exact ⟨by omega, by omega, fun _ => ⟨by omega, by omega⟩⟩
  plain i s hs hp := by
    show s.e2.goes = -1
    rw [plain_end hL hs hp]; rfl
  sigs i g hg := by
    obtain ⟨j, f, t, hj, hf, h1, h2, -⟩ := sig_cases hL hg
    have := (List.getElem?_eq_some_iff.1 hj).1
    exact ⟨by omega, by omega, by omega, by omega⟩
  few := by rw [secs_len]; exact hL.few
  gfew := by rw [sigs_len]; exact hL.gfew
/-- What a loop over the ends of sections has found ahead of section i's end e. -/
def upTo (f : Nat × Nat → Option Itm) (i e : Nat) : List Itm := ((List.range i).flatMap fun s => (List.range 3).filterMap fun e => f (s, e)) ++ (List.range e).filterMap fun e => f (i, e)
theorem upTo_zero (f : Nat × Nat → Option Itm) : upTo f 0 0 = [] := rfl
theorem upTo_end (f : Nat × Nat → Option Itm) (i : Nat) : upTo f i 3 = upTo f (i + 1) 0 := by
  unfold upTo
  rw [List.range_succ (n := i), List.flatMap_append]
  simp
theorem upTo_some {f : Nat × Nat → Option Itm} {i e : Nat} {y : Itm} (h : f (i, e) = some y) : upTo f i (e + 1) = upTo f i e ++ [y] := by
  unfold upTo
  rw [List.range_succ (n := e), List.filterMap_append, ← List.append_assoc]
  simp [h]
theorem upTo_none {f : Nat × Nat → Option Itm} {i e : Nat} (h : f (i, e) = none) : upTo f i (e + 1) = upTo f i e := by
  unfold upTo
  rw [List.range_succ (n := e), List.filterMap_append]
  simp [h]
theorem flat_len (f : Nat × Nat → Option Itm) : ∀ i, ((List.range i).flatMap fun s => (List.range 3).filterMap fun e => f (s, e)).length ≤ 3 * i
  | 0 => Nat.le_refl _
  | i + 1 => by
    rw [List.range_succ (n := i), List.flatMap_append, List.length_append]
    have h1 := flat_len f i
    have h2 : ((List.range 3).filterMap fun e => f (i, e)).length ≤ 3 := Nat.le_trans (List.length_filterMap_le _ _) (by simp)
    simp only [List.flatMap_cons, List.flatMap_nil, List.append_nil]
    omega
theorem upTo_len (f : Nat × Nat → Option Itm) (i e : Nat) : (upTo f i e).length ≤ 3 * i + e := by
  unfold upTo
  rw [List.length_append]
  have h1 := flat_len f i
  have h2 : ((List.range e).filterMap fun e => f (i, e)).length ≤ e := Nat.le_trans (List.length_filterMap_le _ _) (by simp)
  omega
/-- An end that a section hasn't adds nothing. -/
theorem upTo_all {p : Plan} {f g : Nat × Nat → Option Itm} (hf : ∀ (i : Nat) (s : Sec), p.secs[i]? = some s → ∀ e, e < 3 → e < nEnds s.pt → f (i, e) = g (i, e)) (hn : ∀ (i : Nat) (s : Sec), p.secs[i]? = some s → s.pt = false → f (i, 2) = none) : upTo f p.secs.length 0 = (endsP p).filterMap g := by
  have e0 : upTo f p.secs.length 0 = (List.range p.secs.length).flatMap fun s => (List.range 3).filterMap fun e => f (s, e) := by unfold upTo; simp
  rw [e0, endsP, List.filterMap_flatMap]
  have : ∀ l : List Nat, (∀ s ∈ l, s < p.secs.length) → (l.flatMap fun s => (List.range 3).filterMap fun e => f (s, e)) = l.flatMap fun s => ((List.range (nEnds (((p.secs[s]?).map Sec.pt).getD false))).map fun e => (s, e)).filterMap g := by
    intro l hl
    induction l with
    | nil => rfl
    | cons s l ih =>
      rw [List.flatMap_cons, List.flatMap_cons, ih fun t ht => hl t (List.mem_cons_of_mem _ ht)]
      congr 1
      have hs := hl s (List.mem_cons_self ..)
      have hx := List.getElem?_eq_getElem hs
      generalize p.secs[s] = x at hx
      rw [hx, Option.map_some, Option.getD_some, List.filterMap_map]
      cases hp : x.pt with
      | true =>
        have h0 := hf s x hx 0 (by decide) (by rw [hp]; decide)
        have h1 := hf s x hx 1 (by decide) (by rw [hp]; decide)
        have h2 := hf s x hx 2 (by decide) (by rw [hp]; decide)
        simp only [nEnds, if_true, List.range, List.range.loop, List.filterMap_cons, List.filterMap_nil, h0, h1, h2, Function.comp]
      | false =>
        have h0 := hf s x hx 0 (by decide) (by rw [hp]; decide)
        have h1 := hf s x hx 1 (by decide) (by rw [hp]; decide)
        have h2 := hn s x hx hp
        simp only [nEnds, Bool.false_eq_true, if_false, List.range, List.range.loop, List.filterMap_cons, List.filterMap_nil, h0, h1, h2, Function.comp]
  exact this _ fun s hs => List.mem_range.1 hs
theorem enP_at {p : Plan} {i : Nat} {s : Sec} (h : p.secs[i]? = some s) (e : Nat) : enP p (i, e) = s.get e := by unfold enP; rw [h]; rfl
theorem tipP_at {p : Plan} {i : Nat} {s : Sec} (h : p.secs[i]? = some s) (e : Nat) : tipP p i e = ⟨s.name, letter s.pt e⟩ := by unfold tipP; rw [h]
theorem upTo_joins {p : Plan} (hp : Fit p) : upTo (joinP p) p.secs.length 0 = (endsP p).filterMap (joinP p) :=
  upTo_all (fun _ _ _ _ _ _ => rfl) fun i s hs h => by
    unfold joinP
    rw [enP_at hs, hp.plain i s hs h, if_neg (by omega)]
/-- A stop, as the loop finds it. -/
def stopQ (p : Plan) (a : Nat × Nat) : Option Itm := if (enP p a).goes = -1 ∧ a.2 < nEnds (((p.secs[a.1]?).map Sec.pt).getD false) then some ⟨8, [], 0, tipP p a.1 a.2, Tp.zero⟩ else none
theorem upTo_stops {p : Plan} (hp : Fit p) : upTo (stopQ p) p.secs.length 0 = (endsP p).filterMap (stopP p) :=
  upTo_all (fun i s hs e he hn => by
    have := (hp.ends i s hs e he).1
    unfold stopQ stopP
    rw [enP_at hs, hs, Option.map_some, Option.getD_some]
    by_cases h : (s.get e).goes = -1
    · rw [if_pos ⟨h, hn⟩, if_pos (by omega)]
    · rw [if_neg (fun h' => h h'.1), if_neg (by omega)]) fun i s hs h => by
    unfold stopQ
    rw [hs, Option.map_some, Option.getD_some, h, if_neg (fun h' => absurd h'.2 (show ¬ (2 : Nat) < nEnds false by decide))]
theorem joinP_some {p : Plan} (hp : Fit p) {i e : Nat} {s : Sec} (hs : p.secs[i]? = some s) (he : e < 3) (h : (i : Int) < (s.get e).goes ∨ (i : Int) = (s.get e).goes ∧ (e : Int) < (s.get e).at_) :
    ∃ (j f : Nat) (t : Sec), (s.get e).goes = (j : Int) ∧ (s.get e).at_ = (f : Int) ∧ f < 3 ∧ p.secs[j]? = some t ∧ joinP p (i, e) = some ⟨7, [], 0, ⟨s.name, letter s.pt e⟩, ⟨t.name, letter t.pt f⟩⟩ := by
  obtain ⟨h1, h2, h3⟩ := hp.ends i s hs e he
  have h0 : 0 ≤ (s.get e).goes := by omega
  obtain ⟨h4, h5⟩ := h3 h0
  have hj : (s.get e).goes.toNat < p.secs.length := by omega
  refine ⟨(s.get e).goes.toNat, (s.get e).at_.toNat, _, by omega, by omega, by omega, List.getElem?_eq_getElem hj, ?_⟩
  unfold joinP
  rw [enP_at hs, if_pos h, tipP_at hs, tipP_at (List.getElem?_eq_getElem hj)]
theorem joinP_none {p : Plan} {i e : Nat} {s : Sec} (hs : p.secs[i]? = some s) (h : ¬ ((i : Int) < (s.get e).goes ∨ (i : Int) = (s.get e).goes ∧ (e : Int) < (s.get e).at_)) : joinP p (i, e) = none := by
  unfold joinP
  rw [enP_at hs, if_neg h]
theorem stopQ_some {p : Plan} {i e : Nat} {s : Sec} (hs : p.secs[i]? = some s) (h : (s.get e).goes = -1) (hn : e < nEnds s.pt) : stopQ p (i, e) = some ⟨8, [], 0, ⟨s.name, letter s.pt e⟩, Tp.zero⟩ := by
  unfold stopQ
  rw [enP_at hs, hs, Option.map_some, Option.getD_some, if_pos ⟨h, hn⟩, tipP_at hs]
theorem stopQ_none {p : Plan} {i e : Nat} {s : Sec} (hs : p.secs[i]? = some s) (h : ¬ ((s.get e).goes = -1 ∧ e < nEnds s.pt)) : stopQ p (i, e) = none := by
  unfold stopQ
  rw [enP_at hs, hs, Option.map_some, Option.getD_some, if_neg h]
/-- The numbers ahead of the k-th. -/
def numOf (p : Plan) (k : Nat) : Int := if k = 0 then p.ov else if k = 1 then p.ap else if k = 2 then p.se else p.ho
def numI (p : Plan) (k : Nat) : Option Itm := if numOf p k = 0 then none else some ⟨1 + k, [], numOf p k, Tp.zero, Tp.zero⟩
def numsTo (p : Plan) (k : Nat) : List Itm := (List.range k).filterMap (numI p)
theorem numsTo_some {p : Plan} {k : Nat} {y : Itm} (h : numI p k = some y) : numsTo p (k + 1) = numsTo p k ++ [y] := by
  unfold numsTo
  rw [List.range_succ (n := k), List.filterMap_append]
  simp [h]
theorem numsTo_none {p : Plan} {k : Nat} (h : numI p k = none) : numsTo p (k + 1) = numsTo p k := by
  unfold numsTo
  rw [List.range_succ (n := k), List.filterMap_append]
  simp [h]
theorem numsTo_len (p : Plan) (k : Nat) : (numsTo p k).length ≤ k := Nat.le_trans (List.length_filterMap_le _ _) (by simp)
theorem numsTo_all (p : Plan) : numsTo p 4 = numsP p := by
  unfold numsTo numsP
  simp only [List.range, List.range.loop, List.filterMap_cons, List.filterMap_nil, numI, numOf]
  rfl
theorem sigI_at {p : Plan} (hp : Fit p) {i : Nat} {g : Sig} (h : p.sigs[i]? = some g) : ∃ (j f : Nat) (t : Sec), g.sec = (j : Int) ∧ g.en = (f : Int) ∧ f < 3 ∧ p.secs[j]? = some t ∧ sigI p g = ⟨9, g.name, 0, ⟨t.name, letter t.pt f⟩, Tp.zero⟩ := by
  obtain ⟨h1, h2, h3, h4⟩ := hp.sigs i g h
  have hj : g.sec.toNat < p.secs.length := by omega
  refine ⟨g.sec.toNat, g.en.toNat, _, by omega, by omega, by omega, List.getElem?_eq_getElem hj, ?_⟩
  unfold sigI
  rw [tipP_at (List.getElem?_eq_getElem hj)]
end Go.Proofs.YtaheiolbeiofpaaGreatDoor.Pl
