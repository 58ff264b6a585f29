/-
  Texts of this claim, merged: PlRItA, PlRItB, PlRItC.
-/
import Derived.Test.YtaheiolbeiofpaaGreatDoorMg22
import Derived.Deep.CutRange
/-
  The walk of the document's answer of layer 5: an end by its names.
-/
namespace Go.Proofs.YtaheiolbeiofpaaGreatDoor
open Go.RowKit

set_option maxHeartbeats 8000000 in
set_option maxRecDepth 100000 in
theorem rpTip_any (p : Pl.Plan) (A : Option Addr) (c : Nat) (A' : Option Addr) (c' : Nat) (i : Nat) (e : Int) (s : Pl.Sec) (w : World) (h : PlanIn w p A A') (hs : p.secs[i]? = some s) :
    Calls Tryz.prog 38 #[planV p A c A' c', .int .i64 i, .int .i64 e] w fun x w' => x = .returned (tipV s e) ∧ Below w.heap.size w w' := by
  obtain ⟨R0, R1, XX, XS⟩ := two_blocks w (planO p A c A' c') tipZ
  obtain ⟨⟨-, -, -, -, p4, -⟩, -, gp⟩ := row6 R0
  obtain ⟨b, o, rfl, hb, on⟩ := sec_cells (h.1.below rfl XX) hs
  obtain ⟨a0, a1, -⟩ := sec_on on
  have hi : i < p.secs.length := (List.getElem?_eq_some_iff.1 hs).1
  have X0 := Lib.hid XX
  have HR1 := Lib.hid R1
  have gR1 := (Array.getElem?_eq_some_iff.1 R1).1
  have W0 := Lib.hid (Below.refl ((w.alloc (planO p (some ⟨b, o, none⟩) c A' c')).alloc tipZ).heap.size ((w.alloc (planO p (some ⟨b, o, none⟩) c A' c')).alloc tipZ))
  have LT := Lib.hid (fun W (hW : Below ((w.alloc (planO p (some ⟨b, o, none⟩) c A' c')).alloc tipZ).heap.size ((w.alloc (planO p (some ⟨b, o, none⟩) c A' c')).alloc tipZ) W) => Made.of hW (rpLetter_any s.pt e W))
  have KS := Lib.hid (fun w' (hb' : Below ((w.alloc (planO p (some ⟨b, o, none⟩) c A' c')).alloc tipZ).heap.size ((w.alloc (planO p (some ⟨b, o, none⟩) c A' c')).alloc tipZ) w') => show w'.cell? ⟨w.heap.size, 4, none⟩ = some (.slice (some ⟨b, o, none⟩) p.secs.length c) ∧ w'.cell? ⟨b, o + i * 12, none⟩ = some (.string (txt s.name)) ∧ w'.cell? ⟨b, o + i * 12 + 1, none⟩ = some (.bool s.pt) from
    ⟨(hb'.cell (p := ⟨w.heap.size, 4, none⟩) gp).trans p4, (hb'.cell (p := ⟨b, o + i * 12, none⟩) hb).trans a0, (hb'.cell (p := ⟨b, o + i * 12 + 1, none⟩) hb).trans a1⟩)
  obtain ⟨b', o', hA', hbw, -⟩ := sec_cells h.1 hs
  cases hA'
  have hn1 : w.heap.size + 1 ≠ b := by omega
  have hn2 : w.heap.size + 1 ≠ w.heap.size := by omega
  have SF := Lib.hid (fun (w' : World) (u v : Value) (hS : w'.cell? ⟨w.heap.size, 4, none⟩ = some (.slice (some ⟨b, o, none⟩) p.secs.length c) ∧ w'.cell? ⟨b, o + i * 12, none⟩ = some (.string (txt s.name)) ∧ w'.cell? ⟨b, o + i * 12 + 1, none⟩ = some (.bool s.pt)) => show ((w'.setCell ⟨w.heap.size + 1, 0, none⟩ u).setCell ⟨w.heap.size + 1, 1, none⟩ v).cell? ⟨w.heap.size, 4, none⟩ = some (.slice (some ⟨b, o, none⟩) p.secs.length c) ∧ ((w'.setCell ⟨w.heap.size + 1, 0, none⟩ u).setCell ⟨w.heap.size + 1, 1, none⟩ v).cell? ⟨b, o + i * 12, none⟩ = some (.string (txt s.name)) ∧ ((w'.setCell ⟨w.heap.size + 1, 0, none⟩ u).setCell ⟨w.heap.size + 1, 1, none⟩ v).cell? ⟨b, o + i * 12 + 1, none⟩ = some (.bool s.pt) from
    ⟨(World.cell?_setCell_far _ _ _ _ hn2).trans ((World.cell?_setCell_far _ _ _ _ hn2).trans hS.1), (World.cell?_setCell_far _ _ _ _ hn1).trans ((World.cell?_setCell_far _ _ _ _ hn1).trans hS.2.1), (World.cell?_setCell_far _ _ _ _ hn1).trans ((World.cell?_setCell_far _ _ _ _ hn1).trans hS.2.2)⟩)
  clear on h hs XX R0 R1
  go_enter Tryz.func38, Tryz.ntmps38
  go_wp2_with fail
  go_region_held3 (fun w' => w'.cell? ⟨w.heap.size, 4, none⟩ = some (.slice (some ⟨b, o, none⟩) p.secs.length c) ∧ w'.cell? ⟨b, o + i * 12, none⟩ = some (.string (txt s.name)) ∧ w'.cell? ⟨b, o + i * 12 + 1, none⟩ = some (.bool s.pt))
    (first | with_reducible exact KS.out _ W0.out.drew | with_reducible exact KS.out _ hacc | with_reducible exact SF.out _ _ _ (KS.out _ hacc))
    (first
      | (go_at_call 16; (with_reducible refine (LT.out _ W0.out.drew).mono ?_); rintro x w' ⟨rfl, hbl, hacc, hz⟩; obtain ⟨⟨z0, z1⟩, ⟨f0, f1⟩, gz⟩ := row2f ((hacc.block _ gR1).trans HR1.out)))
  all_goals have HB := Lib.hid (X0.out.trans (hacc.mono X0.out.size))
  all_goals go_wp2_with fail
  all_goals refine bodyPost_ret ?_ rfl ⟨rfl, ?_⟩
  all_goals first
    | (simp [results, Tryz.results38, go_sem, tipV, *]; done)
    | ((repeat (with_reducible refine Below.setCell ?_ (by exact Nat.le_succ _) _)); with_reducible exact HB.out)
end Go.Proofs.YtaheiolbeiofpaaGreatDoor
/-
  What the document's lines of a plan are gathered in: three rows of the call's own, one beside the other.
-/
namespace Go.Proofs.YtaheiolbeiofpaaGreatDoor
open Go.RowKit

/-- Two slices that don't lie in one block. -/
def Apart (v v' : Value) : Prop := ∀ b, v.ownBlock = some b → v'.ownBlock ≠ some b
theorem Apart.symm {v v' : Value} (h : Apart v v') : Apart v' v := fun b h1 h2 => h b h2 h1
theorem Apart.ne {v v' : Value} (h : Apart v v') : v'.ownBlock = none ∨ v'.ownBlock ≠ v.ownBlock := by
  cases hv : v'.ownBlock with
  | none => exact .inl rfl
  | some b => exact .inr fun e => h b e.symm hv
theorem Apart.nil (v : Value) : Apart v (.slice none 0 0) := fun _ _ h => by cases h
/-- A row that has grown is apart from one that hasn't. -/
theorem Apart.grown {w : World} {v v' v2 : Value} {base n : Nat} {e : TypeId} {size : Nat} {xs : List Value} (h : Apart v v2) (h2 : w.ownsRow base e size v2 n xs) {g : Nat} (hb : v'.ownBlock = some g) (hg : v.ownBlock = some g ∨ g = w.heap.size) : Apart v' v2 := fun b h1 h3 => by
  rw [hb] at h1
  cases h1
  rcases hg with hg | hg
  · exact h _ hg h3
  · have := (h2.lt _ h3).2
    omega
structure R3 (w wr : World) (O O2 : Obj) (v1 v2 v3 : Value) (X J S : List It.Itm) : Prop where
  bel : Below w.heap.size w wr
  box : wr.heap[w.heap.size]? = some O
  box2 : wr.heap[w.heap.size + 1]? = some O2
  o1 : wr.ownsRow (w.heap.size + 2) 44 7 v1 X.length (cellsL X)
  o2 : wr.ownsRow (w.heap.size + 2) 44 7 v2 J.length (cellsL J)
  o3 : wr.ownsRow (w.heap.size + 2) 44 7 v3 S.length (cellsL S)
  a12 : Apart v1 v2
  a13 : Apart v1 v3
  a23 : Apart v2 v3
theorem R3.start {w wr : World} {O O2 : Obj} (h1 : Below w.heap.size w wr) (h2 : wr.heap[w.heap.size]? = some O) (h3 : wr.heap[w.heap.size + 1]? = some O2) : R3 w wr O O2 (.slice none 0 0) (.slice none 0 0) (.slice none 0 0) [] [] [] :=
  ⟨h1, h2, h3, World.ownsRow_nil _ _ _ _, World.ownsRow_nil _ _ _ _, World.ownsRow_nil _ _ _ _, .nil _, .nil _, .nil _⟩
theorem R3.lt {w wr : World} {O O2 : Obj} {v1 v2 v3 : Value} {X J S : List It.Itm} (h : R3 w wr O O2 v1 v2 v3 X J S) : w.heap.size + 1 < wr.heap.size := (Array.getElem?_eq_some_iff.1 h.box2).1
theorem R3.below {w wr w2 : World} {O O2 : Obj} {v1 v2 v3 : Value} {X J S : List It.Itm} (h : R3 w wr O O2 v1 v2 v3 X J S) (hb : Below wr.heap.size wr w2) : R3 w w2 O O2 v1 v2 v3 X J S :=
  ⟨h.bel.trans (hb.mono h.bel.size), (hb.block _ (Nat.lt_of_succ_lt h.lt)).trans h.box, (hb.block _ h.lt).trans h.box2, ownsRow_below h.o1 hb, ownsRow_below h.o2 hb, ownsRow_below h.o3 hb, h.a12, h.a13, h.a23⟩
theorem R3.bel_grown {w wr w2 : World} {O O2 : Obj} {v1 v2 v3 v : Value} {X J S : List It.Itm} (h : R3 w wr O O2 v1 v2 v3 X J S) (hg : wr.grownBy w2 v.ownBlock) (hv : ∀ k, v.ownBlock = some k → w.heap.size + 2 ≤ k) : Below w.heap.size w w2 ∧ w2.heap[w.heap.size]? = some O ∧ w2.heap[w.heap.size + 1]? = some O2 := by
  have hl := h.lt
  refine ⟨h.bel.grown hg (by omega) (fun k hk => by have := hv k hk; omega), ?_, ?_⟩
  · rw [hg.block _ (by omega) (fun e => by have := hv _ e.symm; omega)]; exact h.box
  · rw [hg.block _ hl (fun e => by have := hv _ e.symm; omega)]; exact h.box2
theorem own_snoc {w2 : World} {base : Nat} {v : Value} {n : Nat} {X : List It.Itm} {y : It.Itm} (hn : n = X.length) (h : w2.ownsRow base 44 7 v (n + 1) (cellsL X ++ LItm.all [y])) : w2.ownsRow base 44 7 v (X ++ [y]).length (cellsL (X ++ [y])) := by
  subst hn
  rw [List.length_append, List.length_singleton, cellsL_append]
  exact h
theorem R3.one {w wr w2 : World} {O O2 : Obj} {v1 v2 v3 v' : Value} {X J S : List It.Itm} {y : It.Itm} {g : Nat} (h : R3 w wr O O2 v1 v2 v3 X J S) (ho : w2.ownsRow (w.heap.size + 2) 44 7 v' (X.length + 1) (cellsL X ++ LItm.all [y])) (hg : wr.grownBy w2 v1.ownBlock) (hb : v'.ownBlock = some g) (hgg : v1.ownBlock = some g ∨ g = wr.heap.size) : R3 w w2 O O2 v' v2 v3 (X ++ [y]) J S := by
  obtain ⟨b1, b2, b3⟩ := h.bel_grown hg fun k hk => (h.o1.lt k hk).1
  exact ⟨b1, b2, b3, own_snoc rfl ho, h.o2.kept hg h.a12.ne, h.o3.kept hg h.a13.ne, h.a12.grown h.o2 hb hgg, h.a13.grown h.o3 hb hgg, h.a23⟩
theorem R3.two {w wr w2 : World} {O O2 : Obj} {v1 v2 v3 v' : Value} {X J S : List It.Itm} {y : It.Itm} {g : Nat} (h : R3 w wr O O2 v1 v2 v3 X J S) (ho : w2.ownsRow (w.heap.size + 2) 44 7 v' (J.length + 1) (cellsL J ++ LItm.all [y])) (hg : wr.grownBy w2 v2.ownBlock) (hb : v'.ownBlock = some g) (hgg : v2.ownBlock = some g ∨ g = wr.heap.size) : R3 w w2 O O2 v1 v' v3 X (J ++ [y]) S := by
  obtain ⟨b1, b2, b3⟩ := h.bel_grown hg fun k hk => (h.o2.lt k hk).1
  exact ⟨b1, b2, b3, h.o1.kept hg h.a12.symm.ne, own_snoc rfl ho, h.o3.kept hg h.a23.ne, (h.a12.symm.grown h.o1 hb hgg).symm, h.a13, h.a23.grown h.o3 hb hgg⟩
theorem R3.three {w wr w2 : World} {O O2 : Obj} {v1 v2 v3 v' : Value} {X J S : List It.Itm} {y : It.Itm} {g : Nat} (h : R3 w wr O O2 v1 v2 v3 X J S) (ho : w2.ownsRow (w.heap.size + 2) 44 7 v' (S.length + 1) (cellsL S ++ LItm.all [y])) (hg : wr.grownBy w2 v3.ownBlock) (hb : v'.ownBlock = some g) (hgg : v3.ownBlock = some g ∨ g = wr.heap.size) : R3 w w2 O O2 v1 v2 v' X J (S ++ [y]) := by
  obtain ⟨b1, b2, b3⟩ := h.bel_grown hg fun k hk => (h.o3.lt k hk).1
  exact ⟨b1, b2, b3, h.o1.kept hg h.a13.symm.ne, h.o2.kept hg h.a23.symm.ne, own_snoc rfl ho, h.a12, (h.a13.symm.grown h.o1 hb hgg).symm, (h.a23.symm.grown h.o2 hb hgg).symm⟩
/-- The first row alone. -/
theorem R3.st {w wr : World} {O O2 : Obj} {v1 v2 v3 : Value} {X J S : List It.Itm} (h : R3 w wr O O2 v1 v2 v3 X J S) : ItSt w wr O v1 X := ⟨h.bel, h.box, own_mono h.o1 (Nat.le_succ _)⟩
theorem on_end3 {w : World} {b o : Nat} {s : Pl.Sec} (h : LSec.On w b o s) {e : Nat} (he : e < 3) : w.cell? ⟨b, o + 3 + e * 3, none⟩ = some (.int .i64 (s.get e).goes) ∧ w.cell? ⟨b, o + 3 + e * 3 + 1, none⟩ = some (.int .i64 (s.get e).at_) ∧ w.cell? ⟨b, o + 3 + e * 3 + 2, none⟩ = some (.int .i64 (s.get e).sig) := by
  obtain ⟨-, -, -, a3, a4, a5, a6, a7, a8, a9, a10, a11⟩ := sec_on h
  have : e = 0 ∨ e = 1 ∨ e = 2 := by omega
  rcases this with rfl | rfl | rfl
  · exact ⟨a3, a4, a5⟩
  · exact ⟨a6, a7, a8⟩
  · exact ⟨a9, a10, a11⟩
abbrev numsO (p : Pl.Plan) : Obj := .cells #[.int .i64 p.ov, .int .i64 p.ap, .int .i64 p.se, .int .i64 p.ho] 75
theorem numOf_cell {w : World} {g : Nat} {p : Pl.Plan} (h : w.heap[g]? = some (numsO p)) {k : Nat} (hk : k < 4) : w.cell? ⟨g, k, none⟩ = some (.int .i64 (Pl.numOf p k)) := by
  have hk' : k = 0 ∨ k = 1 ∨ k = 2 ∨ k = 3 := by omega
  obtain ⟨⟨a, b, c, d⟩, -⟩ := row4c h
  rcases hk' with rfl | rfl | rfl | rfl
  · exact a
  · exact b
  · exact c
  · exact d
/-- An item that was made just now, as a row of one. -/
theorem new_one (W : World) (y : It.Itm) : LItm.Row (W.alloc (.cells (cells7 y).toArray 44)) (some ⟨W.heap.size, 0, none⟩) [y] := by
  refine .inr ⟨W.heap.size, 0, rfl, by simp, fun k z hk j v hj => ?_⟩
  obtain ⟨rfl, rfl⟩ : k = 0 ∧ z = y := by
    cases k with
    | zero => exact ⟨rfl, (Option.some.inj hk).symm⟩
    | succ k => cases hk
  have := cell_of_row _ W.heap.size (0 + 0 * LItm.m + j) _ _ _ (heap_alloc_new W (.cells (cells7 z).toArray 44))
  rw [this]
  simp only [Nat.zero_mul, Nat.zero_add, List.getElem?_toArray]
  exact hj
end Go.Proofs.YtaheiolbeiofpaaGreatDoor
/-
  The walk of the document's answer of layer 5: a plan's lines.
-/
namespace Go.Proofs.YtaheiolbeiofpaaGreatDoor
open Go.RowKit

theorem rpTip_made (p : Pl.Plan) (A : Option Addr) (c : Nat) (A' : Option Addr) (c' : Nat) {w W0 : World} (h : PlanIn w p A A') (h0 : Below w.heap.size w W0) {i e : Nat} {s : Pl.Sec} (hs : p.secs[i]? = some s) (he : e < 3) (W : World) (hW : Below W0.heap.size W0 W) :
    Calls Tryz.prog 38 #[planV p A c A' c', .int .i64 i, .int .i64 e] W (Made W0 (tip2 s e) W) := by
  refine Made.of hW ?_
  have := rpTip_any p A c A' c' i e s W (h.below (h0.trans (hW.mono h0.size))) hs
  unfold tipV at this
  rwa [letterI_nat _ _ he] at this
theorem nEnds_le (pt : Bool) : Pl.nEnds pt ≤ 3 := by cases pt <;> decide
/-- Behind a section's ends the next section's begin: a plain section has no third one. -/
theorem upTo_ends {p : Pl.Plan} (hp : Pl.Fit p) {k : Nat} {s : Pl.Sec} (hs : p.secs[k]? = some s) : Pl.upTo (Pl.joinP p) k (Pl.nEnds s.pt) = Pl.upTo (Pl.joinP p) (k + 1) 0 ∧ Pl.upTo (Pl.stopQ p) k (Pl.nEnds s.pt) = Pl.upTo (Pl.stopQ p) (k + 1) 0 := by
  cases hpt : s.pt with
  | true => exact ⟨Pl.upTo_end _ _, Pl.upTo_end _ _⟩
  | false =>
    have e2 := hp.plain k s hs hpt
    have hj : Pl.joinP p (k, 2) = none := Pl.joinP_none hs (by rw [e2]; omega)
    have hq : Pl.stopQ p (k, 2) = none := Pl.stopQ_none hs (by rw [hpt]; intro h; exact absurd h.2 (by decide))
    exact ⟨(Pl.upTo_none hj).symm.trans (Pl.upTo_end _ _), (Pl.upTo_none hq).symm.trans (Pl.upTo_end _ _)⟩
/-- The joins' row behind the first one. -/
theorem R3.joined {w wr w2 : World} {O O2 : Obj} {v1 v2 v3 v' : Value} {X J S : List It.Itm} (h : R3 w wr O O2 v1 v2 v3 X J S) (ho : w2.ownsRow (w.heap.size + 2) 44 7 v' (X.length + J.length) (cellsL X ++ cellsL J)) (hg : wr.grownBy w2 v1.ownBlock) : ItSt w w2 O v' (X ++ J) ∧ w2.ownsRow (w.heap.size + 2) 44 7 v3 S.length (cellsL S) := by
  obtain ⟨b1, b2, -⟩ := h.bel_grown hg fun k hk => (h.o1.lt k hk).1
  refine ⟨⟨b1, b2, ?_⟩, h.o3.kept hg h.a13.ne⟩
  rw [List.length_append, cellsL_append]
  exact own_mono ho (Nat.le_succ _)
set_option maxHeartbeats 8000000 in
set_option maxRecDepth 100000 in
theorem rpItems_any (p : Pl.Plan) (A : Option Addr) (c : Nat) (A' : Option Addr) (c' : Nat) (w : World) (hp : Pl.Fit p) (h : PlanIn w p A A') :
    Calls Tryz.prog 20 #[planV p A c A' c'] w fun x w' => ∃ v, x = .returned v ∧ Below w.heap.size w w' ∧ w'.ownsRow w.heap.size 44 7 v (Pl.items p).length (cellsL (Pl.items p)) := by
  obtain ⟨i0, hi, hz0, hz1, hz2⟩ := info_parts infoItem
  obtain ⟨R0, R1, XX, XS⟩ := two_blocks w (planO p A c A' c') (numsO p)
  have HS0 := Lib.hid (R3.start XX R0 R1)
  obtain ⟨⟨p0, p1, p2, p3, -, -⟩, -, -⟩ := row6 (heap_alloc_new w (planO p A c A' c'))
  have HF := Lib.hid hp
  have HI := Lib.hid h
  have hfew := hp.few
  have hgfew := hp.gfew
  clear hp h R0 R1 XX XS
  go_enter Tryz.func20, Tryz.ntmps20
  go_wp2_with fail
  clear p0 p1 p2 p3
  go_loopw [3, 7] (fun v i wr => ∃ k : Nat, k ≤ 4 ∧ i = .int .i64 k ∧ R3 w wr (planO p A c A' c') (numsO p) v (.slice none 0 0) (.slice none 0 0) (Pl.numsTo p k) [] []) (fun _ i _ => 4 - (intOf i).toNat)
  case atStart => exact ⟨0, by omega, rfl, HS0.out⟩
  case round =>
    clear HS0
    obtain ⟨k, hk, rfl, hS⟩ := hrel
    have HS := Lib.hid hS
    clear hS
    by_cases hk4 : k < 4
    · have d3 : decide ((k : Int) < 4) = true := dec_t (by omega)
      have kn := numOf_cell HS.out.box2 hk4
      have e0 : (k : Int) < 4 := by omega
      --[
      by_cases hn : Pl.numOf p k = 0
      · have D : (Pl.numOf p k != 0) = false := by rw [hn]; rfl
        have HN := Lib.hid (show Pl.numsTo p (k + 1) = Pl.numsTo p k from Pl.numsTo_none (by unfold Pl.numI; rw [if_pos hn]))
        clear hn
        go_wp2_with fail
        go_roundw
        case rel => exact ⟨k + 1, by omega, by go_num, by rw [HN.out]; exact HS.out⟩
        case measure => simp [intOf]; omega
      · have D : (Pl.numOf p k != 0) = true := by simpa using hn
        have HN := Lib.hid (show Pl.numsTo p (k + 1) = Pl.numsTo p k ++ [numY k (Pl.numOf p k)] from Pl.numsTo_some (by unfold Pl.numI; rw [if_neg hn]))
        have HI8 := Lib.hid (HS.out.below ((Below.refl wr.heap.size wr).alloc (Nat.le_refl _) (.cells (cells7 (numY k (Pl.numOf p k))).toArray 44)))
        have NW := Lib.hid (new_one wr (numY k (Pl.numOf p k)))
        have hlen := Pl.numsTo_len p k
        have hlt := HS.out.lt
        clear hn
        go_wp2_with (at_builtin; refine wpList_append_row LItm _ rfl (.tmp 31) (.tmp 38) 22 rfl (w.heap.size + 2) 44 i0 _ 80 Tryz.underlying22 hi hz0 hz1 hz2 rfl _ _ _ rfl HI8.out.o1 (some ⟨wr.heap.size, 0, none⟩) 1 1 [numY k (Pl.numOf p k)] rfl (by decide) rfl NW.out (by omega) (by omega) (by simp; omega) ?_; intro g1 cap1 w3 hown1 hg1 hb1)
        have H3 := Lib.hid (HI8.out.one hown1 hg1 rfl hb1)
        clear hown1 hg1 hb1
        go_wp2_with fail
        go_roundw
        case rel => exact ⟨k + 1, by omega, by go_num, by rw [HN.out]; exact H3.out⟩
        case measure => simp [intOf]; omega
      --]
    · have k4 : k = 4 := by omega
      have d3 : decide ((k : Int) < 4) = false := dec_f (by omega)
      have H0 := HS.out
      rw [k4, Pl.numsTo_all] at H0
      clear hk4 k4 hk
      have HS2 := Lib.hid H0
      obtain ⟨⟨-, -, -, -, p4, -⟩, -, gP⟩ := row6 HS2.out.box
      have hln := numsP_len p
      clear H0 HS
      go_wp2_with fail
      clear p4 gP
      go_loopw [3, 4, 5, 8] (fun v1 v2 v3 i wr => ∃ k : Nat, k ≤ p.secs.length ∧ i = .int .i64 k ∧ R3 w wr (planO p A c A' c') (numsO p) v1 v2 v3 (Pl.numsP p ++ (p.secs.take k).map Pl.secI) (Pl.upTo (Pl.joinP p) k 0) (Pl.upTo (Pl.stopQ p) k 0)) (fun _ _ _ i _ => p.secs.length - (intOf i).toNat)
      case atStart => exact ⟨0, by omega, rfl, by rw [List.take_zero, List.map_nil, List.append_nil]; exact HS2.out⟩
      case round =>
        clear HS2
        obtain ⟨k, hk, rfl, hS⟩ := hrel
        have HS := Lib.hid hS
        clear hS
        obtain ⟨⟨-, -, -, -, p4, -⟩, -, gP⟩ := row6 HS.out.box
        by_cases hlt : k < p.secs.length
        · have hs := List.getElem?_eq_getElem hlt
          generalize p.secs[k] = s at hs
          obtain ⟨b, o, rfl, hb, on⟩ := sec_cells (HI.out.1.below rfl HS.out.bel) hs
          obtain ⟨a0, a1, a2, -⟩ := sec_on on
          have HN := Lib.hid (take_map_snoc Pl.secI hs)
          have hlen : (Pl.numsP p ++ (p.secs.take k).map Pl.secI).length ≤ 28 := by
            rw [List.length_append, List.length_map, List.length_take]; omega
          have HSS := Lib.hid hs
          have HLX := Lib.hid (show (Pl.numsP p ++ (p.secs.take k).map Pl.secI).length = (Pl.numsP p).length + k by rw [List.length_append, List.length_map, List.length_take]; omega)
          clear on hs
          go_wp2_with fail
          go_region
          go_upto_if 65 with fail
          go_cut [10] from 40 to 126 (fun s10 w' => s10 = .int .i64 (Pl.nEnds s.pt : Nat) ∧ w' = (wr.alloc (.cells (cells7 (Pl.secI s)).toArray 44)).drew)
          case first =>
            cases hpt : s.pt
            · rw [hpt] at a1
              go_wp2_with fail
              go_meet
              exact ⟨by rw [hpt]; rfl, by unfold Pl.secI; rw [hpt]; rfl⟩
            · rw [hpt] at a1
              go_wp2_with fail
              go_meet
              exact ⟨by rw [hpt]; rfl, by unfold Pl.secI; rw [hpt]; rfl⟩
          case rest =>
            obtain ⟨rfl, rfl⟩ := hcut
            obtain ⟨⟨k0, k1, k2, k3, k4, k5, k6⟩, -⟩ := row7 (heap_alloc_new wr (.cells (cells7 (Pl.secI s)).toArray 44))
            have HX := Lib.hid (HS.out.below (((Below.refl wr.heap.size wr).alloc (Nat.le_refl _) (.cells (cells7 (Pl.secI s)).toArray 44)).alloc (by simp) (.cells (cells7 (Pl.secI s)).toArray 44)).drew)
            have NW := new_one (wr.alloc (.cells (cells7 (Pl.secI s)).toArray 44)) (Pl.secI s)
            rw [World.size_alloc] at NW
            have NW2 := Lib.hid NW
            have hlt2 := HS.out.lt
            clear a0 a1 a2 p4 gP NW HS
            go_wp2_with (at_builtin; refine wpList_append_row LItm _ rfl (.tmp 67) (.tmp 69) 22 rfl (w.heap.size + 2) 44 i0 _ 80 Tryz.underlying22 hi hz0 hz1 hz2 rfl _ _ _ rfl HX.out.o1 (some ⟨wr.heap.size + 1, 0, none⟩) 1 1 [Pl.secI s] rfl (by decide) rfl NW2.out (by omega) (by omega) (by simp; omega) ?_; intro g1 cap1 w3 hown1 hg1 hb1)
            have H3 := Lib.hid (HX.out.one hown1 hg1 rfl hb1)
            clear hown1 hg1 hb1 HX NW2 k0 k1 k2 k3 k4 k5 k6
            go_wp2_with fail
            have hn3 := nEnds_le s.pt
            go_loopw [4, 5, 11] (fun v2 v3 i wr => ∃ e : Nat, e ≤ Pl.nEnds s.pt ∧ i = .int .i64 e ∧ R3 w wr (planO p (some ⟨b, o, none⟩) c A' c') (numsO p) (.slice (some ⟨g1, 0, none⟩) ((Pl.numsP p ++ (p.secs.take k).map Pl.secI).length + 1) cap1) v2 v3 ((Pl.numsP p ++ (p.secs.take k).map Pl.secI) ++ [Pl.secI s]) (Pl.upTo (Pl.joinP p) k e) (Pl.upTo (Pl.stopQ p) k e)) (fun _ _ i _ => Pl.nEnds s.pt - (intOf i).toNat)
            case atStart => exact ⟨0, by omega, rfl, H3.out⟩
            case round =>
              clear H3
              obtain ⟨e, he, rfl, hS⟩ := hrel
              have HS := Lib.hid hS
              clear hS
              by_cases hen : e < Pl.nEnds s.pt
              · have he3 : e < 3 := by omega
                have d3 : decide ((e : Int) < (Pl.nEnds s.pt : Nat)) = true := dec_t (by omega)
                have e0 : (e : Int) < 3 := by omega
                obtain ⟨⟨p0, p1, p2, p3, p4, p5⟩, -, gP⟩ := row6 HS.out.box
                obtain ⟨c0, c1, c2⟩ : wr.cell? ⟨b, o + k * 12 + 3 + e * 3, none⟩ = some (.int .i64 (s.get e).goes) ∧ wr.cell? ⟨b, o + k * 12 + 3 + e * 3 + 1, none⟩ = some (.int .i64 (s.get e).at_) ∧ wr.cell? ⟨b, o + k * 12 + 3 + e * 3 + 2, none⟩ = some (.int .i64 (s.get e).sig) := by
                  obtain ⟨b', o', hA, -, on'⟩ := sec_cells (HI.out.1.below rfl HS.out.bel) HSS.out
                  cases hA
                  exact on_end3 on' he3
                have hto := (HF.out.ends k s HSS.out e he3).1
                obtain ⟨⟨xt, xa, xq⟩, hx⟩ : ∃ x, s.get e = x := ⟨_, rfl⟩
                rw [hx] at c0 c1 c2 hto
                simp only at c0 c1 c2 hto
                have HSe := Lib.hid (HS.out.below ((Below.refl _ _).alloc (Nat.le_refl _) (endO xt xa xq)))
                have hkE := heap_alloc_new wr (endO xt xa xq)
                have kz0 : (wr.alloc (endO xt xa xq)).cell? ⟨wr.heap.size, 0, none⟩ = some (.int .i64 xt) := cell_of_row _ _ 0 _ _ _ hkE
                have kz1 : (wr.alloc (endO xt xa xq)).cell? ⟨wr.heap.size, 1, none⟩ = some (.int .i64 xa) := cell_of_row _ _ 1 _ _ _ hkE
                have gE := (Array.getElem?_eq_some_iff.1 hkE).1
                have T1 := Lib.hid (rpTip_made p (some ⟨b, o, none⟩) c A' c' HI.out HSe.out.bel HSS.out he3)
                clear hkE
                by_cases hneg : xt < 0
                · have D0 : decide (xt < 0) = true := dec_t hneg
                  have HN := Lib.hid (Pl.upTo_some (Pl.stopQ_some HSS.out (by rw [hx]; show xt = -1; omega) hen))
                  have HM := Lib.hid (Pl.upTo_none (e := e) (Pl.joinP_none HSS.out (by rw [hx]; show ¬ ((k : Int) < xt ∨ (k : Int) = xt ∧ (e : Int) < xa); omega)))
                  have HLN := Pl.upTo_len (Pl.stopQ p) k e
                  --[
                  clear hneg hx
                  go_wp2_with fail
                  refine (T1.out _ (Below.refl _ _)).mono ?_; rintro e' w2 ⟨rfl, hbl, hacc, hz⟩
                  have HS2 := Lib.hid (HSe.out.below hacc)
                  have HI8 := Lib.hid (HS2.out.below ((Below.refl w2.heap.size w2).alloc (Nat.le_refl _) (.cells (cells7 ⟨8, [], 0, ⟨s.name, Pl.letter s.pt e⟩, It.Tp.zero⟩).toArray 44)))
                  have NW := Lib.hid (new_one w2 ⟨8, [], 0, ⟨s.name, Pl.letter s.pt e⟩, It.Tp.zero⟩)
                  have hlw := HS2.out.lt
                  clear kz0 kz1 p0 p1 p2 p3 p4 p5 c0 c1 c2 hbl hacc T1 HSe
                  go_wp2_with (at_builtin; refine wpList_append_row LItm _ rfl (.tmp 87) (.tmp 94) 22 rfl (w.heap.size + 2) 44 i0 _ 80 Tryz.underlying22 hi hz0 hz1 hz2 rfl _ _ _ rfl HI8.out.o3 (some ⟨w2.heap.size, 0, none⟩) 1 1 [⟨8, [], 0, ⟨s.name, Pl.letter s.pt e⟩, It.Tp.zero⟩] rfl (by decide) rfl NW.out (by omega) (by omega) (by simp; omega) ?_; intro g2 cap2 w3 hown1 hg1 hb1)
                  have H3 := Lib.hid (HI8.out.three hown1 hg1 rfl hb1)
                  clear hown1 hg1 hb1
                  go_wp2_with fail
                  go_roundw
                  case rel => exact ⟨e + 1, by omega, by go_num, by rw [HN.out, HM.out]; exact H3.out⟩
                  case measure => simp [intOf]; omega
                  --]
                · have D0 : decide (xt < 0) = false := dec_f hneg
                  have HN := Lib.hid (Pl.upTo_none (e := e) (Pl.stopQ_none HSS.out (fun h => by rw [hx] at h; have h1 : xt = -1 := h.1; omega)))
                  by_cases hc : (k : Int) < xt ∨ (k : Int) = xt ∧ (e : Int) < xa
                  · obtain ⟨j, f, t, hto', hat, hf, ht, hj⟩ := Pl.joinP_some HF.out HSS.out he3 (by rw [hx]; exact hc)
                    rw [hx] at hto' hat
                    simp only at hto' hat
                    have HM := Lib.hid (Pl.upTo_some hj)
                    have HLN := Pl.upTo_len (Pl.joinP p) k e
                    have T2 := Lib.hid (rpTip_made p (some ⟨b, o, none⟩) c A' c' HI.out HSe.out.bel ht hf)
                    have NE := Lib.hid (show some wr.heap.size ≠ u4.ownBlock from fun e => by have := (HS.out.o2.lt _ e.symm).2; omega)
                    have HT := Lib.hid (And.intro hto' hat)
                    clear hto' hat hj ht hneg hx
                    go_upto_region 22 with fail
                    go_cut [111] from 71 to 126 (fun s111 w' => s111 = .bool true ∧ w' = wr.alloc (endO xt xa xq))
                    case first =>
                      by_cases hkj : (k : Int) < xt
                      · have D1 : decide ((k : Int) < xt) = true := dec_t hkj
                        go_wp2_with fail
                        go_meet
                        exact ⟨rfl, rfl⟩
                      · have D1 : decide ((k : Int) < xt) = false := dec_f hkj
                        have D2 : ((k : Int) == xt) = true := by rw [beq_iff_eq]; omega
                        have D3 : decide ((e : Int) < xa) = true := dec_t (by omega)
                        clear hkj hc
                        go_wp2_with fail
                        go_meet
                        exact ⟨rfl, rfl⟩
                    case rest =>
                      obtain ⟨rfl, rfl⟩ := hcut
                      clear hc
                      go_upto_region 23 with fail
                      obtain ⟨rfl, rfl⟩ := HT.out
                      --[
                      have W0 := Lib.hid (Below.refl (wr.alloc (endO j f xq)).heap.size (wr.alloc (endO j f xq)))
                      have KS := Lib.hid (fun w' (hb : Below (wr.alloc (endO j f xq)).heap.size (wr.alloc (endO j f xq)) w') => show (w'.cell? ⟨w.heap.size, 0, none⟩ = some (.int .i64 p.ov) ∧ w'.cell? ⟨w.heap.size, 1, none⟩ = some (.int .i64 p.ap) ∧ w'.cell? ⟨w.heap.size, 2, none⟩ = some (.int .i64 p.se) ∧ w'.cell? ⟨w.heap.size, 3, none⟩ = some (.int .i64 p.ho) ∧ w'.cell? ⟨w.heap.size, 4, none⟩ = some (.slice (some ⟨b, o, none⟩) p.secs.length c) ∧ w'.cell? ⟨w.heap.size, 5, none⟩ = some (.slice A' p.sigs.length c')) ∧ w'.cell? ⟨wr.heap.size, 0, none⟩ = some (.int .i64 j) ∧ w'.cell? ⟨wr.heap.size, 1, none⟩ = some (.int .i64 f) from
                        ⟨(row6 (HSe.out.below hb).box).1, (hb.cell (p := ⟨wr.heap.size, 0, none⟩) gE).trans kz0, (hb.cell (p := ⟨wr.heap.size, 1, none⟩) gE).trans kz1⟩)
                      clear p0 p1 p2 p3 p4 p5 kz0 kz1 c0 c1 c2 HT
                      go_region_held3 (fun w' => (w'.cell? ⟨w.heap.size, 0, none⟩ = some (.int .i64 p.ov) ∧ w'.cell? ⟨w.heap.size, 1, none⟩ = some (.int .i64 p.ap) ∧ w'.cell? ⟨w.heap.size, 2, none⟩ = some (.int .i64 p.se) ∧ w'.cell? ⟨w.heap.size, 3, none⟩ = some (.int .i64 p.ho) ∧ w'.cell? ⟨w.heap.size, 4, none⟩ = some (.slice (some ⟨b, o, none⟩) p.secs.length c) ∧ w'.cell? ⟨w.heap.size, 5, none⟩ = some (.slice A' p.sigs.length c')) ∧ w'.cell? ⟨wr.heap.size, 0, none⟩ = some (.int .i64 j) ∧ w'.cell? ⟨wr.heap.size, 1, none⟩ = some (.int .i64 f))
                        (first | with_reducible exact KS.out _ W0.out.drew | with_reducible exact KS.out _ hacc2 | with_reducible exact KS.out _ hacc | with_reducible exact KS.out _ (hacc2.alloc hacc2.size _) | with_reducible exact KY)
                        (first
                          | (go_at_call 38; (with_reducible refine (T1.out _ W0.out.drew).mono ?_); rintro e' w' ⟨rfl, hbl, hacc, hz⟩)
                          | (go_at_call 38; (with_reducible refine (T2.out _ hacc).mono ?_); rintro e' w2 ⟨rfl, hbl2, hacc2, hy2⟩; have HI8 := Lib.hid ((HSe.out.below hacc2).below ((Below.refl w2.heap.size w2).alloc (Nat.le_refl _) (.cells (cells7 ⟨7, [], 0, ⟨s.name, Pl.letter s.pt e⟩, ⟨t.name, Pl.letter t.pt f⟩⟩).toArray 44))); have NW := Lib.hid (new_item w2 ⟨7, [], 0, ⟨s.name, Pl.letter s.pt e⟩, ⟨t.name, Pl.letter t.pt f⟩⟩); have hlw := (HSe.out.below hacc2).lt)
                          | (refine step_append_lies _ (by rfl) (.tmp 112) (.tmp 125) 22 (by rfl) (w.heap.size + 2) 44 i0 _ 7 80 Tryz.underlying22 hi hz0 hz1 hz2 rfl (by decide) u4 (Pl.upTo (Pl.joinP p) k e).length (cellsL (Pl.upTo (Pl.joinP p) k e)) (by rfl) HI8.out.o2 ⟨w2.heap.size, 0, none⟩ 1 1 (cells7 ⟨7, [], 0, ⟨s.name, Pl.letter s.pt e⟩, ⟨t.name, Pl.letter t.pt f⟩⟩) (by rfl) (by rfl) NW.out (cells7_one _) (by omega) (by unfold maxLen; omega) (by omega) (by simp; omega) _ rfl ?_; intro g2 cap2 w3 hown1 hg1 hb1 hl1; have H3 := Lib.hid (HI8.out.two (y := ⟨7, [], 0, ⟨s.name, Pl.letter s.pt e⟩, ⟨t.name, Pl.letter t.pt f⟩⟩) (by rw [LItm_all, cellsL_one]; exact hown1) hg1 rfl hb1); have KY := KS.out _ (hacc2.alloc hacc2.size (.cells (cells7 ⟨7, [], 0, ⟨s.name, Pl.letter s.pt e⟩, ⟨t.name, Pl.letter t.pt f⟩⟩).toArray 44)); have KY := And.intro (row6 H3.out.box).1 (And.intro ((World.cell?_of_block (a := ⟨wr.heap.size, 0, none⟩) (hg1.block _ (by have := hacc2.size; simp at this; simp; omega) NE.out)).trans KY.2.1) ((World.cell?_of_block (a := ⟨wr.heap.size, 1, none⟩) (hg1.block _ (by have := hacc2.size; simp at this; simp; omega) NE.out)).trans KY.2.2))))
                      all_goals go_wp2_with fail
                      all_goals go_roundw
                      case rel => exact ⟨e + 1, by omega, by go_num, by rw [HN.out, HM.out]; exact H3.out⟩
                      case measure => simp [intOf]; omega
                      --]
                  · have HM := Lib.hid (Pl.upTo_none (e := e) (Pl.joinP_none HSS.out (by rw [hx]; exact hc)))
                    have D : decide ((k : Int) < xt) = false := dec_f (by omega)
                    by_cases hq : (k : Int) = xt
                    · have D2 : ((k : Int) == xt) = true := by rw [beq_iff_eq]; exact hq
                      have D3 : decide ((e : Int) < xa) = false := dec_f (by omega)
                      --[
                      clear hc hq hneg hx
                      go_wp2_with fail
                      go_roundw
                      case rel => exact ⟨e + 1, by omega, by go_num, by rw [HN.out, HM.out]; exact HSe.out⟩
                      case measure => simp [intOf]; omega
                      --]
                    · have D2 : ((k : Int) == xt) = false := by rw [beq_eq_false_iff_ne]; exact hq
                      --[
                      clear hc hq hneg hx
                      go_wp2_with fail
                      go_roundw
                      case rel => exact ⟨e + 1, by omega, by go_num, by rw [HN.out, HM.out]; exact HSe.out⟩
                      case measure => simp [intOf]; omega
                      --]
              · obtain rfl : e = Pl.nEnds s.pt := by omega
                have d3 : decide (((Pl.nEnds s.pt : Nat) : Int) < (Pl.nEnds s.pt : Nat)) = false := dec_f (by omega)
                have H0 := HS.out
                obtain ⟨q1, q2⟩ := upTo_ends HF.out HSS.out
                rw [q1, q2] at H0
                have HSn := Lib.hid H0
                clear H0 HS q1 q2
                go_wp2_with fail
                go_roundw
                case rel => exact ⟨k + 1, by omega, by go_num, by rw [HN.out, ← List.append_assoc]; have h3 := HSn.out; rw [HLX.out] at h3; exact h3⟩
                case measure => simp [intOf]; omega
        · obtain rfl : k = p.secs.length := by omega
          have H0 := HS.out
          rw [List.take_length, Pl.upTo_joins HF.out, Pl.upTo_stops HF.out] at H0
          have HSn := Lib.hid H0
          have hlj := joins_len HF.out
          have hls := stops_len HF.out
          have hlen : (Pl.numsP p ++ p.secs.map Pl.secI).length ≤ 28 := by
            rw [List.length_append, List.length_map]; omega
          have hlen2 : ((Pl.numsP p ++ p.secs.map Pl.secI) ++ (Pl.endsP p).filterMap (Pl.joinP p)).length ≤ 100 := by
            rw [List.length_append]; omega
          clear H0 HS
          go_wp2_with (first
            | (at_builtin; refine wpList_append_rows _ rfl (.tmp 127) (.tmp 128) 22 rfl (w.heap.size + 2) 44 i0 _ 7 80 Tryz.underlying22 hi hz0 hz1 hz2 rfl (by decide) _ _ _ rfl HSn.out.o1 _ _ _ _ rfl HSn.out.o2 (cellsL_one' _) (by unfold maxLen; omega) (by omega) (by have := HSn.out.lt; omega) ?_; intro v6 w3 hown1 hg1; have H3 := Lib.hid (HSn.out.joined hown1 hg1); clear hown1 hg1)
            | (at_builtin; refine wpList_append_rows _ rfl (.tmp 129) (.tmp 130) 22 rfl (w.heap.size + 1) 44 i0 _ 7 80 Tryz.underlying22 hi hz0 hz1 hz2 rfl (by decide) _ _ _ rfl H3.out.1.2.2 _ _ _ _ rfl H3.out.2 (cellsL_one' _) (by unfold maxLen; omega) (by omega) (by have := H3.out.1.lt; omega) ?_; intro v7 w5 hown1 hg1; have H5 := Lib.hid (H3.out.1.more hown1 hg1); clear hown1 hg1))
          have hlen3 : (((Pl.numsP p ++ p.secs.map Pl.secI) ++ (Pl.endsP p).filterMap (Pl.joinP p)) ++ (Pl.endsP p).filterMap (Pl.stopP p)).length ≤ 172 := by
            rw [List.length_append]; omega
          have HY := Lib.hid (show Pl.items p = (((Pl.numsP p ++ p.secs.map Pl.secI) ++ (Pl.endsP p).filterMap (Pl.joinP p)) ++ (Pl.endsP p).filterMap (Pl.stopP p)) ++ p.sigs.map (Pl.sigI p) from rfl)
          generalize (((Pl.numsP p ++ p.secs.map Pl.secI) ++ (Pl.endsP p).filterMap (Pl.joinP p)) ++ (Pl.endsP p).filterMap (Pl.stopP p)) = X0 at H5 hlen3 HY
          have HS1 := Lib.hid (show ItSt w w5 (planO p A c A' c') v7 (X0 ++ (p.sigs.take 0).map (Pl.sigI p)) by rw [List.take_zero, List.map_nil, List.append_nil]; exact H5.out)
          clear H5 H3 HSn hlen hlen2 hlj hls p4 gP
          go_loopw [3, 13] (fun v i wr => ∃ k : Nat, k ≤ p.sigs.length ∧ i = .int .i64 k ∧ ItSt w wr (planO p A c A' c') v (X0 ++ (p.sigs.take k).map (Pl.sigI p))) (fun _ i _ => p.sigs.length - (intOf i).toNat)
          case atStart => exact ⟨0, by omega, rfl, HS1.out⟩
          case round =>
            clear HS1
            obtain ⟨k, hk, rfl, hS⟩ := hrel
            have HS := Lib.hid hS
            clear hS
            obtain ⟨⟨p0, p1, p2, p3, p4, p5⟩, -, gP⟩ := row6 HS.out.2.1
            by_cases hlt : k < p.sigs.length
            · have hg := List.getElem?_eq_getElem hlt
              generalize p.sigs[k] = gs at hg
              obtain ⟨b, o, rfl, hb, on⟩ : ∃ b o, A' = some ⟨b, o, none⟩ ∧ b < w.heap.size ∧ LSig.On w b (o + k * 3) gs := by
                obtain ⟨hi', rfl⟩ := List.getElem?_eq_some_iff.1 hg
                exact HI.out.2.at hi'
              obtain ⟨j, f, t, hj, hf, hf3, ht, hy⟩ := Pl.sigI_at HF.out hg
              have HN := Lib.hid (take_map_snoc (Pl.sigI p) hg)
              rw [hy] at HN
              obtain ⟨gn, gsec, gen⟩ := gs
              simp only at hj hf HN
              subst hj hf
              obtain ⟨c0, c1, c2⟩ := sig_on on
              simp only at c0 c1 c2
              have T1 := Lib.hid (rpTip_made p A c (some ⟨b, o, none⟩) c' HI.out HS.out.1 ht hf3)
              have W0 := Lib.hid (Below.refl wr.heap.size wr)
              have HLX := Lib.hid (show (X0 ++ (p.sigs.take k).map (Pl.sigI p)).length = X0.length + k by rw [List.length_append, List.length_map, List.length_take]; omega)
              have hlen4 : (X0 ++ (p.sigs.take k).map (Pl.sigI p)).length ≤ 184 := by
                rw [List.length_append, List.length_map, List.length_take]; omega
              have KS := Lib.hid (fun w' v X (h : ItSt w w' (planO p A c (some ⟨b, o, none⟩) c') v X) => show (w'.cell? ⟨w.heap.size, 0, none⟩ = some (.int .i64 p.ov) ∧ w'.cell? ⟨w.heap.size, 1, none⟩ = some (.int .i64 p.ap) ∧ w'.cell? ⟨w.heap.size, 2, none⟩ = some (.int .i64 p.se) ∧ w'.cell? ⟨w.heap.size, 3, none⟩ = some (.int .i64 p.ho) ∧ w'.cell? ⟨w.heap.size, 4, none⟩ = some (.slice A p.secs.length c) ∧ w'.cell? ⟨w.heap.size, 5, none⟩ = some (.slice (some ⟨b, o, none⟩) p.sigs.length c')) ∧ w'.cell? ⟨b, o + k * 3, none⟩ = some (.string (txt gn)) ∧ w'.cell? ⟨b, o + k * 3 + 1, none⟩ = some (.int .i64 j) ∧ w'.cell? ⟨b, o + k * 3 + 2, none⟩ = some (.int .i64 f) from
                ⟨(row6 h.2.1).1, (h.1.cell (p := ⟨b, o + k * 3, none⟩) hb).trans c0, (h.1.cell (p := ⟨b, o + k * 3 + 1, none⟩) hb).trans c1, (h.1.cell (p := ⟨b, o + k * 3 + 2, none⟩) hb).trans c2⟩)
              obtain ⟨-, a0, a1, a2⟩ := KS.out _ _ _ HS.out
              clear on hg ht hy c0 c1 c2 hb
              go_upto_region 28 with fail
              clear p0 p1 p2 p3 p4 p5 a0 a1 a2
              go_region_held3 (fun w' => (w'.cell? ⟨w.heap.size, 0, none⟩ = some (.int .i64 p.ov) ∧ w'.cell? ⟨w.heap.size, 1, none⟩ = some (.int .i64 p.ap) ∧ w'.cell? ⟨w.heap.size, 2, none⟩ = some (.int .i64 p.se) ∧ w'.cell? ⟨w.heap.size, 3, none⟩ = some (.int .i64 p.ho) ∧ w'.cell? ⟨w.heap.size, 4, none⟩ = some (.slice A p.secs.length c) ∧ w'.cell? ⟨w.heap.size, 5, none⟩ = some (.slice (some ⟨b, o, none⟩) p.sigs.length c')) ∧ w'.cell? ⟨b, o + k * 3, none⟩ = some (.string (txt gn)) ∧ w'.cell? ⟨b, o + k * 3 + 1, none⟩ = some (.int .i64 j) ∧ w'.cell? ⟨b, o + k * 3 + 2, none⟩ = some (.int .i64 f))
                (first | with_reducible exact KS.out _ _ _ (HS.out.below W0.out.drew) | with_reducible exact KS.out _ _ _ (HS.out.below hacc) | with_reducible exact KS.out _ _ _ (HS.out.below (hacc.alloc hacc.size _)) | with_reducible exact KS.out _ _ _ H3.out)
                (first
                  | (go_at_call 38; (with_reducible refine (T1.out _ W0.out.drew).mono ?_); rintro e' w2 ⟨rfl, hbl, hacc, hy2⟩; have HI8 := Lib.hid ((HS.out.below hacc).item ⟨9, gn, 0, ⟨t.name, Pl.letter t.pt f⟩, It.Tp.zero⟩); have NW := Lib.hid (new_item w2 ⟨9, gn, 0, ⟨t.name, Pl.letter t.pt f⟩, It.Tp.zero⟩); have hlw := (HS.out.below hacc).lt)
                  | (refine step_append_lies _ (by rfl) (.tmp 139) (.tmp 162) 22 (by rfl) (w.heap.size + 1) 44 i0 _ 7 80 Tryz.underlying22 hi hz0 hz1 hz2 rfl (by decide) u3 (X0 ++ (p.sigs.take k).map (Pl.sigI p)).length (cellsL (X0 ++ (p.sigs.take k).map (Pl.sigI p))) (by rfl) HI8.out.2.2 ⟨w2.heap.size, 0, none⟩ 1 1 (cells7 ⟨9, gn, 0, ⟨t.name, Pl.letter t.pt f⟩, It.Tp.zero⟩) (by rfl) (by rfl) NW.out (cells7_one _) (by omega) (by unfold maxLen; omega) (by omega) (by simp; omega) _ rfl ?_; intro g2 cap2 w3 hown1 hg1 hb1 hl1; have H3 := Lib.hid (HI8.out.snoc hown1 hg1)))
              all_goals go_wp2_with fail
              all_goals go_roundw
              case rel => exact ⟨k + 1, by omega, by go_num, by rw [HN.out, ← List.append_assoc]; have h3 := H3.out; rw [HLX.out] at h3; exact h3⟩
              case measure => simp [intOf]; omega
            · obtain rfl : k = p.sigs.length := by omega
              have H0 := HS.out
              rw [List.take_length, ← HY.out] at H0
              have HSf := Lib.hid H0
              clear H0 HS
              go_wp2_with fail
              refine bodyPost_ret ?_ rfl ⟨_, rfl, HSf.out.1, own_mono HSf.out.2.2 (Nat.le_succ _)⟩
              simp [results, Tryz.results20, go_sem]
end Go.Proofs.YtaheiolbeiofpaaGreatDoor
