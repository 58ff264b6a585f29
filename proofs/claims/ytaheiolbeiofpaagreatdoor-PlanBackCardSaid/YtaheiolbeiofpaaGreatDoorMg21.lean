/-
  Texts of this claim, merged: PlItB, PlItC, PlItD, PlItE.
-/
import Derived.Test.YtaheiolbeiofpaaGreatDoorMg20
import Derived.Deep.CutRange
import Derived.Laws.AppendOwnNone
/-
  What a plan's lines are gathered in; and the walk of layer 5 that gives the numbers' lines.
-/
namespace Go.Proofs.YtaheiolbeiofpaaGreatDoor
open Go.RowKit

theorem own_mono {w : World} {base base' : Nat} {e : TypeId} {size : Nat} {v : Value} {n : Nat} {xs : List Value} (h : w.ownsRow base e size v n xs) (hb : base' ≤ base) : w.ownsRow base' e size v n xs := by
  refine ⟨h.1, ?_⟩
  rcases h.2 with hn | ⟨g, cap, cur, rfl, hbb, rest⟩
  · exact .inl hn
  · exact .inr ⟨g, cap, cur, rfl, Nat.le_trans hb hbb, rest⟩
/-- A box, and lines of the call's own. -/
def ItSt (w wr : World) (O : Obj) (v : Value) (X : List It.Itm) : Prop :=
  Below w.heap.size w wr ∧ wr.heap[w.heap.size]? = some O ∧ wr.ownsRow (w.heap.size + 1) 44 7 v X.length (cellsL X)
theorem ItSt.start {w wr : World} {O : Obj} (h1 : Below w.heap.size w wr) (h2 : wr.heap[w.heap.size]? = some O) : ItSt w wr O (.slice none 0 0) [] := ⟨h1, h2, World.ownsRow_nil _ _ _ _⟩
theorem ItSt.lt {w wr : World} {O : Obj} {v : Value} {X : List It.Itm} (h : ItSt w wr O v X) : w.heap.size < wr.heap.size := (Array.getElem?_eq_some_iff.1 h.2.1).1
theorem ItSt.below {w wr w2 : World} {O : Obj} {v : Value} {X : List It.Itm} (h : ItSt w wr O v X) (hb : Below wr.heap.size wr w2) : ItSt w w2 O v X :=
  ⟨h.1.trans (hb.mono h.1.size), (hb.block _ h.lt).trans h.2.1, ownsRow_below h.2.2 hb⟩
theorem ItSt.grown {w wr w2 : World} {O : Obj} {v v' : Value} {X Y : List It.Itm} (h : ItSt w wr O v X) (ho : w2.ownsRow (w.heap.size + 1) 44 7 v' (X.length + Y.length) (cellsL X ++ cellsL Y)) (hg : wr.grownBy w2 v.ownBlock) : ItSt w w2 O v' (X ++ Y) := by
  have hl := h.lt
  refine ⟨h.1.grown hg (Nat.le_of_lt hl) (fun k hk => by have := (h.2.2.lt k hk).1; omega), ?_, ?_⟩
  · rw [hg.block _ hl (fun e => by have := (h.2.2.lt _ e.symm).1; omega)]; exact h.2.1
  · rw [List.length_append, cellsL_append]; exact ho
theorem ItSt.snoc {w wr w2 : World} {O : Obj} {v v' : Value} {X : List It.Itm} {y : It.Itm} (h : ItSt w wr O v X) (ho : w2.ownsRow (w.heap.size + 1) 44 7 v' (X.length + 1) (cellsL X ++ cells7 y)) (hg : wr.grownBy w2 v.ownBlock) : ItSt w w2 O v' (X ++ [y]) := by
  refine h.grown (Y := [y]) ?_ hg
  rw [cellsL_one]; exact ho
/-- The cells of an item that was made just now. -/
theorem new_item (W : World) (y : It.Itm) : ∀ j u, (cells7 y)[j]? = some u → (W.alloc (.cells (cells7 y).toArray 44)).cell? ((⟨W.heap.size, 0, none⟩ : Addr).add j) = some u :=
  fun j u hu => World.news_of_block (B := W.heap.size) (cs := (cells7 y).toArray) (t := 44) (fr := (0, 0)) (heap_alloc_new W _) j u (by simpa using hu)
theorem ItSt.item {w wr : World} {O : Obj} {v : Value} {X : List It.Itm} (h : ItSt w wr O v X) (y : It.Itm) : ItSt w (wr.alloc (.cells (cells7 y).toArray 44)) O v X := h.below ((Below.refl _ _).alloc (Nat.le_refl _) _)
theorem numOf_index (p : Pl.Plan) {k : Nat} (hk : k < 4) (W : World) : Sem.run Tryz.prog (Instr.index 75 (.agg #[.int .i64 p.ov, .int .i64 p.ap, .int .i64 p.se, .int .i64 p.ho]) (.int .i64 (k : Int))) W = .ok (.int .i64 (Pl.numOf p k)) W := by
  have hk' : k = 0 ∨ k = 1 ∨ k = 2 ∨ k = 3 := by omega
  have u1 := Tryz.underlying75
  have u2 := Tryz.sizeOf3
  have u3 := Tryz.isAgg3
  rcases hk' with rfl | rfl | rfl | rfl
  all_goals simp [Instr.index, run_underlying u1, u2, u3, go_sem, Pl.numOf]
abbrev numY (k : Nat) (n : Int) : It.Itm := ⟨1 + (k : Int), [], n, It.Tp.zero, It.Tp.zero⟩
set_option maxHeartbeats 4000000 in
set_option maxRecDepth 100000 in
theorem pNumbers_any (p : Pl.Plan) (A : Option Addr) (c : Nat) (A' : Option Addr) (c' : Nat) (w : World) :
    Calls Tryz.prog 33 #[planV p A c A' c'] w fun x w' => ∃ v, x = .returned v ∧ Below w.heap.size w w' ∧ w'.ownsRow w.heap.size 44 7 v (Pl.numsP p).length (cellsL (Pl.numsP p)) := by
  obtain ⟨i0, hi, hz0, hz1, hz2⟩ := info_parts infoItem
  have HS0 := Lib.hid (ItSt.start ((Below.refl w.heap.size w).alloc (Nat.le_refl _) (planO p A c A' c')) (heap_alloc_new w (planO p A c A' c')))
  obtain ⟨⟨p0, p1, p2, p3, -, -⟩, -, -⟩ := row6 HS0.out.2.1
  go_enter Tryz.func33, Tryz.ntmps33
  go_wp2_with fail
  clear p0 p1 p2 p3
  go_loopw [3, 15] (fun v i wr => ∃ k : Nat, k ≤ 4 ∧ i = .int .i64 k ∧ ItSt w wr (planO p A c A' c') v (Pl.numsTo p k)) (fun _ i _ => 4 - (intOf i).toNat)
  case atStart => exact ⟨0, by omega, rfl, HS0.out⟩
  case round =>
    clear HS0
    obtain ⟨k, hk, rfl, hS⟩ := hrel
    have HS := Lib.hid hS
    clear hS
    by_cases hk4 : k < 4
    · have d3 : decide ((k : Int) < 4) = true := dec_t (by omega)
      have HIX := fun W => numOf_index p hk4 W
      by_cases hn : Pl.numOf p k = 0
      · have D : (Pl.numOf p k != 0) = false := by rw [hn]; rfl
        have HN := Lib.hid (show Pl.numsTo p (k + 1) = Pl.numsTo p k from Pl.numsTo_none (by unfold Pl.numI; rw [if_pos hn]))
        clear hn
        go_wp2_with fail
        go_roundw
        case rel => exact ⟨k + 1, by omega, by go_num, by rw [HN.out]; exact HS.out⟩
        case measure => simp [intOf]; omega
      · have D : (Pl.numOf p k != 0) = true := by simpa using hn
        have HN := Lib.hid (show Pl.numsTo p (k + 1) = Pl.numsTo p k ++ [numY k (Pl.numOf p k)] from Pl.numsTo_some (by unfold Pl.numI; rw [if_neg hn]))
        have HI := Lib.hid (HS.out.item (numY k (Pl.numOf p k)))
        have NW := Lib.hid (new_item wr (numY k (Pl.numOf p k)))
        have hlen := Pl.numsTo_len p k
        have hlt := HS.out.lt
        clear hn
        go_wp2_with (at_builtin; refine wpList_append_own _ rfl (.tmp 21) (.tmp 26) 22 rfl (w.heap.size + 1) 44 i0 _ 7 80 Tryz.underlying22 hi hz0 hz1 hz2 rfl (by decide) _ _ _ rfl HI.out.2.2 ⟨wr.heap.size, 0, none⟩ 1 1 (cells7 (numY k (Pl.numOf p k))) rfl rfl NW.out (cells7_one _) (by unfold maxLen; omega) (by omega) (by simp; omega) ?_; intro v1 w3 hown1 hg1 _)
        have H3 := Lib.hid (HI.out.snoc hown1 hg1)
        clear hown1 hg1
        go_wp2_with fail
        go_roundw
        case rel => exact ⟨k + 1, by omega, by go_num, by rw [HN.out]; exact H3.out⟩
        case measure => simp [intOf]; omega
    · obtain rfl : k = 4 := by omega
      have H0 := HS.out
      rw [Pl.numsTo_all] at H0
      have HS2 := Lib.hid H0
      clear H0 HS
      go_wp2_with fail
      refine bodyPost_ret ?_ rfl ⟨_, rfl, HS2.out.1, own_mono HS2.out.2.2 (Nat.le_succ _)⟩
      simp [results, Tryz.results33, go_sem]
end Go.Proofs.YtaheiolbeiofpaaGreatDoor
/-
  The walk of layer 5 that gives the joins' lines.
-/
namespace Go.Proofs.YtaheiolbeiofpaaGreatDoor
open Go.RowKit

abbrev tipsZ : Obj := .cells #[.string ⟨#[]⟩, .int .u8 0, .string ⟨#[]⟩, .int .u8 0] 42
abbrev endO (a b q : Int) : Obj := .cells #[.int .i64 a, .int .i64 b, .int .i64 q] 48
abbrev tip2 (s : Pl.Sec) (e : Nat) : Value := .agg #[.string (txt s.name), .int .u8 (Pl.letter s.pt e).toNat]
theorem pTip_made (p : Pl.Plan) (A : Option Addr) (c : Nat) (A' : Option Addr) (c' : Nat) {w W0 : World} (h : PlanIn w p A A') (h0 : Below w.heap.size w W0) {i e : Nat} {s : Pl.Sec} (hs : p.secs[i]? = some s) (he : e < 3) (W : World) (hW : Below W0.heap.size W0 W) :
    Calls Tryz.prog 37 #[planV p A c A' c', .int .i64 i, .int .i64 e] W (Made W0 (tip2 s e) W) := by
  refine Made.of hW ?_
  have := pTip_any p A c A' c' i e s W (h.below (h0.trans (hW.mono h0.size))) hs
  unfold tipV at this
  rwa [letterI_nat _ _ he] at this
theorem row4c {w : World} {g : Nat} {a b c d : Value} {t : TypeId} (h : w.heap[g]? = some (.cells #[a, b, c, d] t (0, 0))) :
    (w.cell? ⟨g, 0, none⟩ = some a ∧ w.cell? ⟨g, 1, none⟩ = some b ∧ w.cell? ⟨g, 2, none⟩ = some c ∧ w.cell? ⟨g, 3, none⟩ = some d) ∧ (w.frozen? ⟨g, 0, none⟩ = false ∧ w.frozen? ⟨g, 1, none⟩ = false ∧ w.frozen? ⟨g, 2, none⟩ = false ∧ w.frozen? ⟨g, 3, none⟩ = false) ∧ g < w.heap.size :=
  ⟨⟨cell_of_row w g 0 _ t _ h, cell_of_row w g 1 _ t _ h, cell_of_row w g 2 _ t _ h, cell_of_row w g 3 _ t _ h⟩, ⟨frozen_of_row w g 0 _ t h, frozen_of_row w g 1 _ t h, frozen_of_row w g 2 _ t h, frozen_of_row w g 3 _ t h⟩, (Array.getElem?_eq_some_iff.1 h).1⟩
theorem set4_same {W : World} {B : Nat} {x0 x1 x2 x3 v0 v1 v2 v3 : Value} {t : TypeId} (h : W.heap[B]? = some (.cells #[x0, x1, x2, x3] t (0, 0))) :
    ((((W.setCell ⟨B, 0, none⟩ v0).setCell ⟨B, 1, none⟩ v1).setCell ⟨B, 2, none⟩ v2).setCell ⟨B, 3, none⟩ v3).heap[B]? = some (.cells #[v0, v1, v2, v3] t (0, 0)) :=
  heap_setCell_same _ _ _ _ _ _ (heap_setCell_same _ _ _ _ _ _ (heap_setCell_same _ _ _ _ _ _ (heap_setCell_same _ _ _ _ _ _ h)))
/-- Two tips in a box of their own, beside the lines. -/
def TwoTips (w : World) (O : Obj) (v : Value) (X : List It.Itm) (s t : Pl.Sec) (e f : Nat) (s8 : Value) (w' : World) : Prop :=
  ∃ g8 : Nat, s8 = .pointer (some ⟨g8, 0, none⟩) ∧ w'.heap[g8]? = some (.cells #[.string (txt s.name), .int .u8 (Pl.letter s.pt e).toNat, .string (txt t.name), .int .u8 (Pl.letter t.pt f).toNat] 42 (0, 0)) ∧ ItSt w w' O v X
set_option maxHeartbeats 8000000 in
set_option maxRecDepth 100000 in
theorem pJoins_any (p : Pl.Plan) (A : Option Addr) (c : Nat) (A' : Option Addr) (c' : Nat) (w : World) (hp : Pl.Fit p) (h : PlanIn w p A A') :
    Calls Tryz.prog 35 #[planV p A c A' c'] w fun x w' => ∃ v, x = .returned v ∧ Below w.heap.size w w' ∧ w'.ownsRow w.heap.size 44 7 v ((Pl.endsP p).filterMap (Pl.joinP p)).length (cellsL ((Pl.endsP p).filterMap (Pl.joinP p))) := by
  obtain ⟨i0, hi, hz0, hz1, hz2⟩ := info_parts infoItem
  have HS0 := Lib.hid (ItSt.start ((Below.refl w.heap.size w).alloc (Nat.le_refl _) (planO p A c A' c')) (heap_alloc_new w (planO p A c A' c')))
  obtain ⟨⟨-, -, -, -, p4, -⟩, -, -⟩ := row6 HS0.out.2.1
  have HF := Lib.hid hp
  have HI := Lib.hid h
  have hfew := hp.few
  clear hp h
  go_enter Tryz.func35, Tryz.ntmps35
  go_wp2_with fail
  clear p4
  go_loopw [3, 12] (fun v i wr => ∃ k : Nat, k ≤ p.secs.length ∧ i = .int .i64 k ∧ ItSt w wr (planO p A c A' c') v (Pl.upTo (Pl.joinP p) k 0)) (fun _ i _ => p.secs.length - (intOf i).toNat)
  case atStart => exact ⟨0, by omega, rfl, HS0.out⟩
  case round =>
    clear HS0
    obtain ⟨k, hk, rfl, hS⟩ := hrel
    have HS := Lib.hid hS
    clear hS
    by_cases hlt : k < p.secs.length
    · have hs := List.getElem?_eq_getElem hlt
      generalize p.secs[k] = s at hs
      obtain ⟨b, o, rfl, hb, on⟩ := sec_cells (HI.out.1.below rfl HS.out.1) hs
      obtain ⟨a0, a1, a2, a3, a4, a5, a6, a7, a8, a9, a10, a11⟩ := sec_on on
      have HSk := Lib.hid (HS.out.below ((Below.refl _ _).alloc (Nat.le_refl _) (secO s)))
      have HSS := Lib.hid hs
      clear on hs
      go_wp2_with fail
      clear a0 a1 a2 a3 a4 a5 a6 a7 a8 a9 a10 a11 HS
      go_loopw [3, 19] (fun v i wr => ∃ e : Nat, e ≤ 3 ∧ i = .int .i64 e ∧ ItSt w wr (planO p (some ⟨b, o, none⟩) c A' c') v (Pl.upTo (Pl.joinP p) k e)) (fun _ i _ => 3 - (intOf i).toNat)
      case atStart => exact ⟨0, by omega, rfl, HSk.out⟩
      case round =>
        clear HSk
        obtain ⟨e, he, rfl, hS⟩ := hrel
        have HS := Lib.hid hS
        clear hS
        by_cases he3 : e < 3
        · have d3 : decide ((e : Int) < 3) = true := dec_t (by omega)
          have e0 : (e : Int) < 3 := by omega
          have HIX := fun W => index_end s he3 W
          obtain ⟨⟨xt, xa, xq⟩, hx⟩ : ∃ x, s.get e = x := ⟨_, rfl⟩
          rw [hx] at HIX
          simp only at HIX
          have HSe := Lib.hid (HS.out.below ((Below.refl _ _).alloc (Nat.le_refl _) (endO xt xa xq)))
          have hkE := heap_alloc_new wr (endO xt xa xq)
          have kz0 : (wr.alloc (endO xt xa xq)).cell? ⟨wr.heap.size, 0, none⟩ = some (.int .i64 xt) := cell_of_row _ _ 0 _ _ _ hkE
          have kz1 : (wr.alloc (endO xt xa xq)).cell? ⟨wr.heap.size, 1, none⟩ = some (.int .i64 xa) := cell_of_row _ _ 1 _ _ _ hkE
          have gE := (Array.getElem?_eq_some_iff.1 hkE).1
          clear hkE
          by_cases hc : (k : Int) < xt ∨ (k : Int) = xt ∧ (e : Int) < xa
          · obtain ⟨j, f, t, hto, hat, hf, ht, hj⟩ := Pl.joinP_some HF.out HSS.out he3 (by rw [hx]; exact hc)
            rw [hx] at hto hat
            simp only at hto hat
            subst hto hat
            have HN := Lib.hid (Pl.upTo_some hj)
            have HLN := Pl.upTo_len (Pl.joinP p) k e
            by_cases hkj : (k : Int) < j
            · have D1 : decide ((k : Int) < (j : Int)) = true := dec_t hkj
              have n1 : k < j := by omega
              have n2 : ¬ j ≤ k := by omega
              have B1 : decide (k < j) = true := decide_eq_true n1
              clear hc hkj
              have T1 := Lib.hid (pTip_made p (some ⟨b, o, none⟩) c A' c' HI.out HSe.out.1 HSS.out he3)
              have T2 := Lib.hid (pTip_made p (some ⟨b, o, none⟩) c A' c' HI.out HSe.out.1 ht hf)
              have gP := HSe.out.lt
              have KS := Lib.hid (fun w' (hb : Below (wr.alloc (endO j f xq)).heap.size (wr.alloc (endO j f xq)) w') => show ((w'.cell? ⟨w.heap.size, 0, none⟩ = some (.int .i64 p.ov) ∧ w'.cell? ⟨w.heap.size, 1, none⟩ = some (.int .i64 p.ap) ∧ w'.cell? ⟨w.heap.size, 2, none⟩ = some (.int .i64 p.se) ∧ w'.cell? ⟨w.heap.size, 3, none⟩ = some (.int .i64 p.ho) ∧ w'.cell? ⟨w.heap.size, 4, none⟩ = some (.slice (some ⟨b, o, none⟩) p.secs.length c) ∧ w'.cell? ⟨w.heap.size, 5, none⟩ = some (.slice A' p.sigs.length c')) ∧ w'.cell? ⟨wr.heap.size, 0, none⟩ = some (.int .i64 j) ∧ w'.cell? ⟨wr.heap.size, 1, none⟩ = some (.int .i64 f)) from
                ⟨(row6 (HSe.out.below hb).2.1).1, (hb.cell (p := ⟨wr.heap.size, 0, none⟩) gE).trans kz0, (hb.cell (p := ⟨wr.heap.size, 1, none⟩) gE).trans kz1⟩)
              have W0 := Lib.hid (Below.refl (wr.alloc (endO j f xq)).heap.size (wr.alloc (endO j f xq)))
              clear hj ht
              go_upto_region 9 with fail
              go_cut [8] from 20 to 55 (fun s8 w' => TwoTips w (planO p (some ⟨b, o, none⟩) c A' c') u3 (Pl.upTo (Pl.joinP p) k e) s t e f s8 w')
              case first =>
                go_region_held3 (fun w' => (w'.cell? ⟨w.heap.size, 0, none⟩ = some (.int .i64 p.ov) ∧ w'.cell? ⟨w.heap.size, 1, none⟩ = some (.int .i64 p.ap) ∧ w'.cell? ⟨w.heap.size, 2, none⟩ = some (.int .i64 p.se) ∧ w'.cell? ⟨w.heap.size, 3, none⟩ = some (.int .i64 p.ho) ∧ w'.cell? ⟨w.heap.size, 4, none⟩ = some (.slice (some ⟨b, o, none⟩) p.secs.length c) ∧ w'.cell? ⟨w.heap.size, 5, none⟩ = some (.slice A' p.sigs.length c')) ∧ w'.cell? ⟨wr.heap.size, 0, none⟩ = some (.int .i64 j) ∧ w'.cell? ⟨wr.heap.size, 1, none⟩ = some (.int .i64 f))
                  (first | with_reducible exact KS.out _ W0.out.drew | with_reducible exact KS.out _ (W0.out.alloc (Nat.le_refl _) _).drew | (with_reducible refine KS.out _ ?_; (repeat (first | (with_reducible refine Below.setCell ?_ (by first | (simp; done) | exact hacc.size) _) | (with_reducible refine Below.drew ?_) | (with_reducible refine Below.alloc ?_ (by first | exact hacc2.size | exact hacc.size | (simp; done)) _))); first | with_reducible exact hacc2 | with_reducible exact hacc | with_reducible exact W0.out))
                  (first
                    | (go_at_call 37; (with_reducible refine (T1.out _ W0.out.drew).mono ?_); rintro e' w' ⟨rfl, hbl, hacc, hz⟩)
                    | (go_at_call 37; (with_reducible refine (T1.out _ (W0.out.alloc (Nat.le_refl _) tipsZ).drew).mono ?_); rintro e' w' ⟨rfl, hbl, hacc, hz⟩; have hpz := (hbl.block _ (show (wr.alloc (endO j f xq)).heap.size < _ by simp)).trans (heap_alloc_new (wr.alloc (endO j f xq)) tipsZ); (rw [show (wr.alloc (endO j f xq)).heap.size = wr.heap.size + 1 from by simp] at hpz); obtain ⟨⟨z0, z1, z2, z3⟩, ⟨y0, y1, y2, y3⟩, zg⟩ := row4c hpz)
                    | (go_at_call 37; (with_reducible refine (T2.out _ hacc).mono ?_); rintro e' w2 ⟨rfl, hbl2, hacc2, hz2⟩; (first | (have hpz2 := (hbl2.block _ zg).trans hpz; obtain ⟨⟨x0, x1, x2, x3⟩, ⟨v0, v1, v2, v3⟩, zg2⟩ := row4c hpz2) | skip))
                    | (go_at_call 37; (with_reducible refine (T2.out _ (hacc.alloc hacc.size tipsZ)).mono ?_); rintro e' w2 ⟨rfl, hbl2, hacc2, hz2⟩; have hpz2 := (hbl2.block _ (by simp)).trans (heap_alloc_new w' tipsZ); obtain ⟨⟨x0, x1, x2, x3⟩, ⟨v0, v1, v2, v3⟩, zg2⟩ := row4c hpz2))
                all_goals go_wp2_with fail
                all_goals go_meet
                all_goals refine ⟨_, rfl, ?_, HSe.out.below ?_⟩
                all_goals first
                  | with_reducible exact heap_alloc_new _ _
                  | with_reducible exact set4_same hpz2
                  | ((repeat (first | (with_reducible refine Below.alloc ?_ hacc2.size _) | (with_reducible refine Below.setCell ?_ (by first | exact hacc.size | (simp; done)) _))); with_reducible exact hacc2)
              case rest =>
                obtain ⟨g8, rfl, h8, hS8⟩ := hcut
                obtain ⟨⟨t0, t1, t2, t3⟩, -, -⟩ := row4c h8
                have HI8 := Lib.hid (hS8.item ⟨7, [], 0, ⟨s.name, Pl.letter s.pt e⟩, ⟨t.name, Pl.letter t.pt f⟩⟩)
                have NW := Lib.hid (new_item wc ⟨7, [], 0, ⟨s.name, Pl.letter s.pt e⟩, ⟨t.name, Pl.letter t.pt f⟩⟩)
                have hlw := hS8.lt
                clear h8 hS8 KS T1 T2 W0 kz0 kz1 HSe
                go_wp2_with (at_builtin; refine wpList_append_own _ rfl (.tmp 50) (.tmp 53) 22 rfl (w.heap.size + 1) 44 i0 _ 7 80 Tryz.underlying22 hi hz0 hz1 hz2 rfl (by decide) _ _ _ rfl HI8.out.2.2 ⟨wc.heap.size, 0, none⟩ 1 1 (cells7 ⟨7, [], 0, ⟨s.name, Pl.letter s.pt e⟩, ⟨t.name, Pl.letter t.pt f⟩⟩) rfl rfl NW.out (cells7_one _) (by unfold maxLen; omega) (by omega) (by simp; omega) ?_; intro v1 w3 hown1 hg1 _)
                have H3 := Lib.hid (HI8.out.snoc hown1 hg1)
                clear hown1 hg1
                go_wp2_with fail
                go_roundw
                case rel => exact ⟨e + 1, by omega, by go_num, by rw [HN.out]; exact H3.out⟩
                case measure => simp [intOf]; omega
            · obtain rfl : k = j := by omega
              have n3 : e < f := by omega
              have B3 : decide (e < f) = true := decide_eq_true n3
              have D3 : decide ((e : Int) < (f : Int)) = true := dec_t (by omega)
              clear hc hkj
              have T1 := Lib.hid (pTip_made p (some ⟨b, o, none⟩) c A' c' HI.out HSe.out.1 HSS.out he3)
              have T2 := Lib.hid (pTip_made p (some ⟨b, o, none⟩) c A' c' HI.out HSe.out.1 ht hf)
              have gP := HSe.out.lt
              have KS := Lib.hid (fun w' (hb : Below (wr.alloc (endO k f xq)).heap.size (wr.alloc (endO k f xq)) w') => show ((w'.cell? ⟨w.heap.size, 0, none⟩ = some (.int .i64 p.ov) ∧ w'.cell? ⟨w.heap.size, 1, none⟩ = some (.int .i64 p.ap) ∧ w'.cell? ⟨w.heap.size, 2, none⟩ = some (.int .i64 p.se) ∧ w'.cell? ⟨w.heap.size, 3, none⟩ = some (.int .i64 p.ho) ∧ w'.cell? ⟨w.heap.size, 4, none⟩ = some (.slice (some ⟨b, o, none⟩) p.secs.length c) ∧ w'.cell? ⟨w.heap.size, 5, none⟩ = some (.slice A' p.sigs.length c')) ∧ w'.cell? ⟨wr.heap.size, 0, none⟩ = some (.int .i64 k) ∧ w'.cell? ⟨wr.heap.size, 1, none⟩ = some (.int .i64 f)) from
                ⟨(row6 (HSe.out.below hb).2.1).1, (hb.cell (p := ⟨wr.heap.size, 0, none⟩) gE).trans kz0, (hb.cell (p := ⟨wr.heap.size, 1, none⟩) gE).trans kz1⟩)
              have W0 := Lib.hid (Below.refl (wr.alloc (endO k f xq)).heap.size (wr.alloc (endO k f xq)))
              clear hj ht
              go_upto_region 9 with fail
              go_cut [8] from 20 to 55 (fun s8 w' => TwoTips w (planO p (some ⟨b, o, none⟩) c A' c') u3 (Pl.upTo (Pl.joinP p) k e) s t e f s8 w')
              case first =>
                go_region_held3 (fun w' => (w'.cell? ⟨w.heap.size, 0, none⟩ = some (.int .i64 p.ov) ∧ w'.cell? ⟨w.heap.size, 1, none⟩ = some (.int .i64 p.ap) ∧ w'.cell? ⟨w.heap.size, 2, none⟩ = some (.int .i64 p.se) ∧ w'.cell? ⟨w.heap.size, 3, none⟩ = some (.int .i64 p.ho) ∧ w'.cell? ⟨w.heap.size, 4, none⟩ = some (.slice (some ⟨b, o, none⟩) p.secs.length c) ∧ w'.cell? ⟨w.heap.size, 5, none⟩ = some (.slice A' p.sigs.length c')) ∧ w'.cell? ⟨wr.heap.size, 0, none⟩ = some (.int .i64 k) ∧ w'.cell? ⟨wr.heap.size, 1, none⟩ = some (.int .i64 f))
                  (first | with_reducible exact KS.out _ W0.out.drew | with_reducible exact KS.out _ (W0.out.alloc (Nat.le_refl _) _).drew | (with_reducible refine KS.out _ ?_; (repeat (first | (with_reducible refine Below.setCell ?_ (by first | (simp; done) | exact hacc.size) _) | (with_reducible refine Below.drew ?_) | (with_reducible refine Below.alloc ?_ (by first | exact hacc2.size | exact hacc.size | (simp; done)) _))); first | with_reducible exact hacc2 | with_reducible exact hacc | with_reducible exact W0.out))
                  (first
                    | (go_at_call 37; (with_reducible refine (T1.out _ W0.out.drew).mono ?_); rintro e' w' ⟨rfl, hbl, hacc, hz⟩)
                    | (go_at_call 37; (with_reducible refine (T1.out _ (W0.out.alloc (Nat.le_refl _) tipsZ).drew).mono ?_); rintro e' w' ⟨rfl, hbl, hacc, hz⟩; have hpz := (hbl.block _ (show (wr.alloc (endO k f xq)).heap.size < _ by simp)).trans (heap_alloc_new (wr.alloc (endO k f xq)) tipsZ); (rw [show (wr.alloc (endO k f xq)).heap.size = wr.heap.size + 1 from by simp] at hpz); obtain ⟨⟨z0, z1, z2, z3⟩, ⟨y0, y1, y2, y3⟩, zg⟩ := row4c hpz)
                    | (go_at_call 37; (with_reducible refine (T2.out _ hacc).mono ?_); rintro e' w2 ⟨rfl, hbl2, hacc2, hz2⟩; (first | (have hpz2 := (hbl2.block _ zg).trans hpz; obtain ⟨⟨x0, x1, x2, x3⟩, ⟨v0, v1, v2, v3⟩, zg2⟩ := row4c hpz2) | skip))
                    | (go_at_call 37; (with_reducible refine (T2.out _ (hacc.alloc hacc.size tipsZ)).mono ?_); rintro e' w2 ⟨rfl, hbl2, hacc2, hz2⟩; have hpz2 := (hbl2.block _ (by simp)).trans (heap_alloc_new w' tipsZ); obtain ⟨⟨x0, x1, x2, x3⟩, ⟨v0, v1, v2, v3⟩, zg2⟩ := row4c hpz2))
                all_goals go_wp2_with fail
                all_goals go_meet
                all_goals refine ⟨_, rfl, ?_, HSe.out.below ?_⟩
                all_goals first
                  | with_reducible exact heap_alloc_new _ _
                  | with_reducible exact set4_same hpz2
                  | ((repeat (first | (with_reducible refine Below.alloc ?_ hacc2.size _) | (with_reducible refine Below.setCell ?_ (by first | exact hacc.size | (simp; done)) _))); with_reducible exact hacc2)
              case rest =>
                obtain ⟨g8, rfl, h8, hS8⟩ := hcut
                obtain ⟨⟨t0, t1, t2, t3⟩, -, -⟩ := row4c h8
                have HI8 := Lib.hid (hS8.item ⟨7, [], 0, ⟨s.name, Pl.letter s.pt e⟩, ⟨t.name, Pl.letter t.pt f⟩⟩)
                have NW := Lib.hid (new_item wc ⟨7, [], 0, ⟨s.name, Pl.letter s.pt e⟩, ⟨t.name, Pl.letter t.pt f⟩⟩)
                have hlw := hS8.lt
                clear h8 hS8 KS T1 T2 W0 kz0 kz1 HSe
                go_wp2_with (at_builtin; refine wpList_append_own _ rfl (.tmp 50) (.tmp 53) 22 rfl (w.heap.size + 1) 44 i0 _ 7 80 Tryz.underlying22 hi hz0 hz1 hz2 rfl (by decide) _ _ _ rfl HI8.out.2.2 ⟨wc.heap.size, 0, none⟩ 1 1 (cells7 ⟨7, [], 0, ⟨s.name, Pl.letter s.pt e⟩, ⟨t.name, Pl.letter t.pt f⟩⟩) rfl rfl NW.out (cells7_one _) (by unfold maxLen; omega) (by omega) (by simp; omega) ?_; intro v1 w3 hown1 hg1 _)
                have H3 := Lib.hid (HI8.out.snoc hown1 hg1)
                clear hown1 hg1
                go_wp2_with fail
                go_roundw
                case rel => exact ⟨e + 1, by omega, by go_num, by rw [HN.out]; exact H3.out⟩
                case measure => simp [intOf]; omega
          · have HN := Lib.hid (Pl.upTo_none (e := e) (Pl.joinP_none HSS.out (by rw [hx]; exact hc)))
            have D : decide ((k : Int) < xt) = false := dec_f (by omega)
            by_cases hq : xt = (k : Int)
            · have D2 : (xt == (k : Int)) = true := by rw [beq_iff_eq]; exact hq
              have D3 : decide ((e : Int) < xa) = false := dec_f (by omega)
              clear hc hq
              go_wp2_with fail
              go_roundw
              case rel => exact ⟨e + 1, by omega, by go_num, by rw [HN.out]; exact HSe.out⟩
              case measure => simp [intOf]; omega
            · have D2 : (xt == (k : Int)) = false := by rw [beq_eq_false_iff_ne]; exact hq
              clear hc hq
              go_wp2_with fail
              go_roundw
              case rel => exact ⟨e + 1, by omega, by go_num, by rw [HN.out]; exact HSe.out⟩
              case measure => simp [intOf]; omega
        · obtain rfl : e = 3 := by omega
          have H0 := HS.out
          rw [Pl.upTo_end] at H0
          have HSn := Lib.hid H0
          clear H0 HS
          go_wp2_with fail
          go_roundw
          case rel => exact ⟨k + 1, by omega, by go_num, HSn.out⟩
          case measure => simp [intOf]; omega
    · obtain rfl : k = p.secs.length := by omega
      have H0 := HS.out
      rw [Pl.upTo_joins HF.out] at H0
      have HS2 := Lib.hid H0
      clear H0 HS
      go_wp2_with fail
      refine bodyPost_ret ?_ rfl ⟨_, rfl, HS2.out.1, own_mono HS2.out.2.2 (Nat.le_succ _)⟩
      simp [results, Tryz.results35, go_sem]
end Go.Proofs.YtaheiolbeiofpaaGreatDoor
/-
  The walk of layer 5 that gives the buffer stops' lines.
-/
namespace Go.Proofs.YtaheiolbeiofpaaGreatDoor
open Go.RowKit

/-- A block of another type isn't the lines' own. -/
theorem ItSt.ne {w wr : World} {O : Obj} {v : Value} {X : List It.Itm} (h : ItSt w wr O v X) {g : Nat} {cs : Array Value} {t : TypeId} (hg : wr.heap[g]? = some (.cells cs t (0, 0))) (ht : t ≠ 44) : some g ≠ v.ownBlock := fun he => by
  rcases h.2.2.2 with ⟨rfl, -⟩ | ⟨b, cap, cur, rfl, -, hb, -⟩
  · cases he
  · have : g = b := by simpa [Value.ownBlock] using he
    subst this
    rw [hg] at hb
    simp only [Option.some.injEq, Obj.cells.injEq] at hb
    exact ht hb.2.1
theorem letter_z {pt : Bool} {k : Nat} (hk : k < 3) (h : ¬ k < Pl.nEnds pt) : Pl.letter pt k = 0 := by
  cases pt
  · have : k = 2 := by simp [Pl.nEnds] at h; omega
    subst this; rfl
  · simp [Pl.nEnds] at h; omega
theorem letter_nz' {pt : Bool} {k : Nat} (hk : k < 3) (h : k < Pl.nEnds pt) : (((Pl.letter pt k).toNat : Int) == 0) = false := by
  refine letter_nz hk ?_
  cases pt
  · simp [Pl.nEnds] at h; exact .inr h
  · exact .inl rfl
set_option maxHeartbeats 8000000 in
set_option maxRecDepth 100000 in
theorem pBuffers_any (p : Pl.Plan) (A : Option Addr) (c : Nat) (A' : Option Addr) (c' : Nat) (w : World) (hp : Pl.Fit p) (h : PlanIn w p A A') :
    Calls Tryz.prog 36 #[planV p A c A' c'] w fun x w' => ∃ v, x = .returned v ∧ Below w.heap.size w w' ∧ w'.ownsRow w.heap.size 44 7 v ((Pl.endsP p).filterMap (Pl.stopP p)).length (cellsL ((Pl.endsP p).filterMap (Pl.stopP p))) := by
  obtain ⟨i0, hi, hz0, hz1, hz2⟩ := info_parts infoItem
  have HS0 := Lib.hid (ItSt.start ((Below.refl w.heap.size w).alloc (Nat.le_refl _) (planO p A c A' c')) (heap_alloc_new w (planO p A c A' c')))
  obtain ⟨⟨-, -, -, -, p4, -⟩, -, -⟩ := row6 HS0.out.2.1
  have HF := Lib.hid hp
  have HI := Lib.hid h
  have hfew := hp.few
  clear hp h
  go_enter Tryz.func36, Tryz.ntmps36
  go_wp2_with fail
  clear p4
  go_loopw [3, 11] (fun v i wr => ∃ k : Nat, k ≤ p.secs.length ∧ i = .int .i64 k ∧ ItSt w wr (planO p A c A' c') v (Pl.upTo (Pl.stopQ p) k 0)) (fun _ i _ => p.secs.length - (intOf i).toNat)
  case atStart => exact ⟨0, by omega, rfl, HS0.out⟩
  case round =>
    clear HS0
    obtain ⟨k, hk, rfl, hS⟩ := hrel
    have HS := Lib.hid hS
    clear hS
    by_cases hlt : k < p.secs.length
    · have hs := List.getElem?_eq_getElem hlt
      generalize p.secs[k] = s at hs
      obtain ⟨b, o, rfl, hb, on⟩ := sec_cells (HI.out.1.below rfl HS.out.1) hs
      obtain ⟨a0, a1, a2, a3, a4, a5, a6, a7, a8, a9, a10, a11⟩ := sec_on on
      have HSk := Lib.hid (HS.out.below ((Below.refl _ _).alloc (Nat.le_refl _) (secO s)))
      have HBk := Lib.hid (heap_alloc_new wr (secO s))
      have HSS := Lib.hid hs
      clear on hs
      go_wp2_with fail
      clear a0 a1 a2 a3 a4 a5 a6 a7 a8 a9 a10 a11 HS
      generalize wr.heap.size = g5 at HBk ⊢
      go_loopw [3, 18] (fun v i wr => ∃ e : Nat, e ≤ 3 ∧ i = .int .i64 e ∧ wr.heap[g5]? = some (secO s) ∧ ItSt w wr (planO p (some ⟨b, o, none⟩) c A' c') v (Pl.upTo (Pl.stopQ p) k e)) (fun _ i _ => 3 - (intOf i).toNat)
      case atStart => exact ⟨0, by omega, rfl, HBk.out, HSk.out⟩
      case round =>
        clear HSk HBk
        obtain ⟨e, he, rfl, hB, hS⟩ := hrel
        have HS := Lib.hid hS
        have HB := Lib.hid hB
        clear hS hB
        by_cases he3 : e < 3
        · have d3 : decide ((e : Int) < 3) = true := dec_t (by omega)
          have e0 : (e : Int) < 3 := by omega
          have HIX := fun W => index_end s he3 W
          obtain ⟨⟨xt, xa, xq⟩, hx⟩ : ∃ x, s.get e = x := ⟨_, rfl⟩
          rw [hx] at HIX
          simp only at HIX
          have HSe := Lib.hid (HS.out.below ((Below.refl _ _).alloc (Nat.le_refl _) (endO xt xa xq)))
          have hkE := heap_alloc_new wr (endO xt xa xq)
          have kz0 : (wr.alloc (endO xt xa xq)).cell? ⟨wr.heap.size, 0, none⟩ = some (.int .i64 xt) := cell_of_row _ _ 0 _ _ _ hkE
          have gE := (Array.getElem?_eq_some_iff.1 hkE).1
          have hBe := (heap_alloc_old wr (endO xt xa xq) (Array.getElem?_eq_some_iff.1 HB.out).1).trans HB.out
          have HBe := Lib.hid hBe
          obtain ⟨-, kp, -⟩ := sec_on (heap_sec (t := s) hBe)
          rw [Nat.zero_add] at kp
          clear hkE hBe
          have LT := Lib.hid (fun W => pLetter_any s.pt e W)
          rw [letterI_nat _ _ he3] at LT
          by_cases hm : xt = -1
          · have D1 : (xt == (-1 : Int)) = true := by rw [beq_iff_eq]; exact hm
            by_cases hn : e < Pl.nEnds s.pt
            · have z := letter_nz' he3 hn
              have z' : (((Pl.letter s.pt e).toNat : Int) != 0) = true := by unfold bne; rw [z]; rfl
              have HN := Lib.hid (Pl.upTo_some (Pl.stopQ_some HSS.out (by rw [hx]; exact hm) hn))
              have HLN := Pl.upTo_len (Pl.stopQ p) k e
              have T1 := Lib.hid (pTip_made p (some ⟨b, o, none⟩) c A' c' HI.out HSe.out.1 HSS.out he3)
              obtain ⟨⟨p0, p1, p2, p3, p4, p5⟩, -, gP⟩ := row6 HSe.out.2.1
              clear hm hn
              go_wp2_with fail
              refine (LT.out _).mono ?_; rintro e' w2 ⟨rfl, rfl⟩
              go_wp2_with fail
              refine (T1.out _ (Below.refl _ _)).mono ?_; rintro e' w2 ⟨rfl, hbl, hacc, hz⟩
              have HS2 := Lib.hid (HSe.out.below hacc)
              have HB2 := Lib.hid ((hacc.block _ (Array.getElem?_eq_some_iff.1 HBe.out).1).trans HBe.out)
              have HI8 := Lib.hid (HS2.out.item ⟨8, [], 0, ⟨s.name, Pl.letter s.pt e⟩, It.Tp.zero⟩)
              have NW := Lib.hid (new_item w2 ⟨8, [], 0, ⟨s.name, Pl.letter s.pt e⟩, It.Tp.zero⟩)
              have HB3 := (heap_alloc_old w2 (.cells (cells7 ⟨8, [], 0, ⟨s.name, Pl.letter s.pt e⟩, It.Tp.zero⟩).toArray 44) (Array.getElem?_eq_some_iff.1 HB2.out).1).trans HB2.out
              have HB4 := Lib.hid HB3
              have hlw := HS2.out.lt
              clear kz0 kp p0 p1 p2 p3 p4 p5 hbl hacc HB3
              go_wp2_with (at_builtin; refine wpList_append_own _ rfl (.tmp 32) (.tmp 39) 22 rfl (w.heap.size + 1) 44 i0 _ 7 80 Tryz.underlying22 hi hz0 hz1 hz2 rfl (by decide) _ _ _ rfl HI8.out.2.2 ⟨w2.heap.size, 0, none⟩ 1 1 (cells7 ⟨8, [], 0, ⟨s.name, Pl.letter s.pt e⟩, It.Tp.zero⟩) rfl rfl NW.out (cells7_one _) (by unfold maxLen; omega) (by omega) (by simp; omega) ?_; intro v1 w3 hown1 hg1 _)
              have H3 := Lib.hid (HI8.out.snoc hown1 hg1)
              have H5 := Lib.hid ((hg1.block _ (Array.getElem?_eq_some_iff.1 HB4.out).1 (HI8.out.ne HB4.out (by decide))).trans HB4.out)
              clear hown1 hg1
              go_wp2_with fail
              go_roundw
              case rel => exact ⟨e + 1, by omega, by go_num, H5.out, by rw [HN.out]; exact H3.out⟩
              case measure => simp [intOf]; omega
            · have z : (((Pl.letter s.pt e).toNat : Int) == 0) = true := by rw [letter_z he3 hn]; rfl
              have z' : (((Pl.letter s.pt e).toNat : Int) != 0) = false := by unfold bne; rw [z]; rfl
              have HN := Lib.hid (Pl.upTo_none (e := e) (Pl.stopQ_none HSS.out (fun h => hn h.2)))
              clear hm hn
              go_wp2_with fail
              refine (LT.out _).mono ?_; rintro e' w2 ⟨rfl, rfl⟩
              go_wp2_with fail
              go_roundw
              case rel => exact ⟨e + 1, by omega, by go_num, HBe.out, by rw [HN.out]; exact HSe.out⟩
              case measure => simp [intOf]; omega
          · have D1 : (xt == (-1 : Int)) = false := by rw [beq_eq_false_iff_ne]; exact hm
            have HN := Lib.hid (Pl.upTo_none (e := e) (Pl.stopQ_none HSS.out (fun h => hm (by rw [hx] at h; exact h.1))))
            clear hm
            go_wp2_with fail
            go_roundw
            case rel => exact ⟨e + 1, by omega, by go_num, HBe.out, by rw [HN.out]; exact HSe.out⟩
            case measure => simp [intOf]; omega
        · obtain rfl : e = 3 := by omega
          have H0 := HS.out
          rw [Pl.upTo_end] at H0
          have HSn := Lib.hid H0
          clear H0 HS
          go_wp2_with fail
          go_roundw
          case rel => exact ⟨k + 1, by omega, by go_num, HSn.out⟩
          case measure => simp [intOf]; omega
    · obtain rfl : k = p.secs.length := by omega
      have H0 := HS.out
      rw [Pl.upTo_stops HF.out] at H0
      have HS2 := Lib.hid H0
      clear H0 HS
      go_wp2_with fail
      refine bodyPost_ret ?_ rfl ⟨_, rfl, HS2.out.1, own_mono HS2.out.2.2 (Nat.le_succ _)⟩
      simp [results, Tryz.results36, go_sem]
end Go.Proofs.YtaheiolbeiofpaaGreatDoor
/-
  The walk of layer 5 that gives a plan's lines.
-/
namespace Go.Proofs.YtaheiolbeiofpaaGreatDoor
open Go.RowKit

/-- The library's law on append, of a row that is nil or lies somewhere, onto a slice of the call's own. -/
theorem wpList_append_rows {P : Program} (w : World) {ops : Array Oper} {rest : List Oper} {o : Oper} {a : Act} {Q : Exit → Act → World → Prop} (hgd : o.guard = none) (s x : Operand) (t : TypeId)
    (ho : o.op = .call { callee := .builtin .append, args := #[s, x], argTypes := #[t, t] })
    (base : Nat) (e : TypeId) (i : TypeInfo) (z : Value) (size bytes : Nat) (ht : P.underlying t = some (.slice e)) (hi : P.info? e = some i) (hz : i.zero = some z)
    (hsize : i.size = size) (hby : i.bytes = bytes) (hzs : z.cells.size = size) (hsz : 0 < size)
    (v : Value) (n : Nat) (xs : List Value) (hs : a.eval s = v) (hown : w.ownsRow base e size v n xs)
    (base2 : Nat) (u : Value) (m : Nat) (ys : List Value) (hx : a.eval x = u) (hou : w.ownsRow base2 e size u m ys) (hys : ∀ y ∈ ys, y.oneCell' = true) (hlen : n + m ≤ maxLen) (hbytes : (n + m) * bytes ≤ 140737488355328) (hbase : base ≤ w.heap.size)
    (h : ∀ v' w', w'.ownsRow base e size v' (n + m) (xs ++ ys) → w.grownBy w' v.ownBlock → wpList P ops Q rest (a.put o.dst v') w') : wpList P ops Q (o :: rest) a w := by
  have hl := hou.1
  rcases hou.2 with ⟨rfl, rfl⟩ | ⟨g, cap, cur, rfl, -⟩
  · have h0 : ys = [] := List.eq_nil_of_length_eq_zero (by rw [hl, Nat.zero_mul])
    subst h0
    exact wpList_append_own_none hgd s x t ho base e i size ht hi v n xs hs hown hx (h v w (by rw [List.append_nil]; exact hown) (World.grownBy.refl w _))
  · exact wpList_append_own w hgd s x t ho base e i z size bytes ht hi hz hsize hby hzs hsz v n xs hs hown ⟨g, 0, none⟩ m cap ys hx hl (fun j y hj => hou.cells (g := g) rfl j y hj) hys hlen hbytes hbase fun v' w' h1 h2 _ => h v' w' h1 h2
theorem take_map_snoc {α β : Type} {l : List α} {k : Nat} {a : α} (f : α → β) (h : l[k]? = some a) : (l.take (k + 1)).map f = (l.take k).map f ++ [f a] := by
  rw [List.take_add_one, h, List.map_append]; rfl
theorem ItSt.more {w wr w2 : World} {O : Obj} {v v' : Value} {X Y : List It.Itm} (h : ItSt w wr O v X) (ho : w2.ownsRow (w.heap.size + 1) 44 7 v' (X.length + Y.length) (cellsL X ++ cellsL Y)) (hg : wr.grownBy w2 v.ownBlock) : ItSt w w2 O v' (X ++ Y) := h.grown ho hg
theorem numsP_len (p : Pl.Plan) : (Pl.numsP p).length ≤ 4 := by rw [← Pl.numsTo_all]; exact Pl.numsTo_len p 4
theorem joins_len {p : Pl.Plan} (hp : Pl.Fit p) : ((Pl.endsP p).filterMap (Pl.joinP p)).length ≤ 72 := by
  rw [← Pl.upTo_joins hp]
  have := Pl.upTo_len (Pl.joinP p) p.secs.length 0
  have := hp.few
  omega
theorem stops_len {p : Pl.Plan} (hp : Pl.Fit p) : ((Pl.endsP p).filterMap (Pl.stopP p)).length ≤ 72 := by
  rw [← Pl.upTo_stops hp]
  have := Pl.upTo_len (Pl.stopQ p) p.secs.length 0
  have := hp.few
  omega
set_option maxHeartbeats 8000000 in
set_option maxRecDepth 100000 in
theorem pItems_any (p : Pl.Plan) (A : Option Addr) (c : Nat) (A' : Option Addr) (c' : Nat) (w : World) (hp : Pl.Fit p) (h : PlanIn w p A A') :
    Calls Tryz.prog 18 #[planV p A c A' c'] w fun x w' => ∃ v, x = .returned v ∧ Below w.heap.size w w' ∧ w'.ownsRow w.heap.size 44 7 v (Pl.items p).length (cellsL (Pl.items p)) := by
  obtain ⟨i0, hi, hz0, hz1, hz2⟩ := info_parts infoItem
  have HB0 := Lib.hid ((Below.refl w.heap.size w).alloc (Nat.le_refl _) (planO p A c A' c'))
  have HR0 := Lib.hid (heap_alloc_new w (planO p A c A' c'))
  obtain ⟨⟨p0, p1, p2, p3, p4, p5⟩, -, -⟩ := row6 HR0.out
  have HF := Lib.hid hp
  have HI := Lib.hid h
  have hfew := hp.few
  have hgfew := hp.gfew
  have PN := Lib.hid (fun W => pNumbers_any p A c A' c' W)
  have PJ := Lib.hid (fun W (hW : Below w.heap.size w W) => pJoins_any p A c A' c' W hp (h.below hW))
  have PB := Lib.hid (fun W (hW : Below w.heap.size w W) => pBuffers_any p A c A' c' W hp (h.below hW))
  have hln := numsP_len p
  have hlj := joins_len hp
  have hls := stops_len hp
  clear hp h
  go_enter Tryz.func18, Tryz.ntmps18
  go_wp2_with fail
  refine (PN.out _).mono ?_; rintro e w1 ⟨v1, rfl, hb1, ho1⟩
  have HS1 := Lib.hid (show ItSt w w1 (planO p A c A' c') v1 (Pl.numsP p ++ (p.secs.take 0).map Pl.secI) from
    ⟨HB0.out.trans (hb1.mono HB0.out.size), (hb1.block _ (by simp)).trans HR0.out, by rw [List.take_zero, List.map_nil, List.append_nil]; rwa [World.size_alloc] at ho1⟩)
  clear p0 p1 p2 p3 p4 p5 hb1 ho1 PN HB0 HR0
  obtain ⟨⟨p0, p1, p2, p3, p4, p5⟩, -, gP⟩ := row6 HS1.out.2.1
  go_wp2_with fail
  go_loopw [3, 14] (fun v i wr => ∃ k : Nat, k ≤ p.secs.length ∧ i = .int .i64 k ∧ ItSt w wr (planO p A c A' c') v (Pl.numsP p ++ (p.secs.take k).map Pl.secI)) (fun _ i _ => p.secs.length - (intOf i).toNat)
  case atStart => exact ⟨0, by omega, rfl, HS1.out⟩
  case round =>
    clear HS1 p0 p1 p2 p3 p4 p5 gP
    obtain ⟨k, hk, rfl, hS⟩ := hrel
    have HS := Lib.hid hS
    clear hS
    by_cases hlt : k < p.secs.length
    · have hs := List.getElem?_eq_getElem hlt
      generalize p.secs[k] = s at hs
      obtain ⟨b, o, rfl, hb, on⟩ := sec_cells (HI.out.1.below rfl HS.out.1) hs
      obtain ⟨a0, a1, a2, a3, a4, a5, a6, a7, a8, a9, a10, a11⟩ := sec_on on
      have HSk := Lib.hid (HS.out.below ((Below.refl _ _).alloc (Nat.le_refl _) (secO s)))
      obtain ⟨k0, k1, k2, k3, k4, k5, k6, k7, k8, k9, k10, k11⟩ := sec_on (heap_sec (t := s) (heap_alloc_new wr (secO s)))
      rw [Nat.zero_add] at k1 k2 k3 k4 k5 k6 k7 k8 k9 k10 k11
      have SC := Lib.hid (fun W => pSectionI_any s W)
      have HN := Lib.hid (take_map_snoc Pl.secI hs)
      have hlen : (Pl.numsP p ++ (p.secs.take k).map Pl.secI).length ≤ 28 := by
        rw [List.length_append, List.length_map, List.length_take]; omega
      clear on hs
      go_wp2_with fail
      refine (SC.out _).mono ?_; rintro e w2 ⟨rfl, hbl⟩
      have HS2 := Lib.hid (HSk.out.below hbl)
      have HI8 := Lib.hid (HS2.out.item (Pl.secI s))
      have NW := Lib.hid (new_item w2 (Pl.secI s))
      have hlw := HS2.out.lt
      clear a0 a1 a2 a3 a4 a5 a6 a7 a8 a9 a10 a11 k0 k1 k2 k3 k4 k5 k6 k7 k8 k9 k10 k11 hbl
      go_wp2_with (at_builtin; refine wpList_append_own _ rfl (.tmp 18) (.tmp 21) 22 rfl (w.heap.size + 1) 44 i0 _ 7 80 Tryz.underlying22 hi hz0 hz1 hz2 rfl (by decide) _ _ _ rfl HI8.out.2.2 ⟨w2.heap.size, 0, none⟩ 1 1 (cells7 (Pl.secI s)) rfl rfl NW.out (cells7_one _) (by unfold maxLen; omega) (by omega) (by simp; omega) ?_; intro v1 w3 hown1 hg1 _)
      have H3 := Lib.hid (HI8.out.snoc hown1 hg1)
      clear hown1 hg1
      go_wp2_with fail
      go_roundw
      case rel => exact ⟨k + 1, by omega, by go_num, by rw [HN.out, ← List.append_assoc]; exact H3.out⟩
      case measure => simp [intOf]; omega
    · obtain rfl : k = p.secs.length := by omega
      have H0 := HS.out
      rw [List.take_length] at H0
      have HSn := Lib.hid H0
      obtain ⟨⟨p0, p1, p2, p3, p4, p5⟩, -, gP⟩ := row6 H0.2.1
      have hlen : (Pl.numsP p ++ p.secs.map Pl.secI).length ≤ 28 := by
        rw [List.length_append, List.length_map]; omega
      clear H0 HS
      go_wp2_with fail
      refine (PJ.out _ HSn.out.1).mono ?_; rintro e w2 ⟨v2, rfl, hb2, ho2⟩
      have HS2 := Lib.hid (HSn.out.below hb2)
      clear p0 p1 p2 p3 p4 p5 gP hb2
      go_wp2_with (at_builtin; refine wpList_append_rows _ rfl (.tmp 24) (.tmp 26) 22 rfl (w.heap.size + 1) 44 i0 _ 7 80 Tryz.underlying22 hi hz0 hz1 hz2 rfl (by decide) _ _ _ rfl HS2.out.2.2 _ _ _ _ rfl ho2 (cellsL_one' _) (by unfold maxLen; omega) (by omega) (by have := HS2.out.lt; omega) ?_; intro v3 w3 hown1 hg1; have H3 := Lib.hid (HS2.out.more hown1 hg1); obtain ⟨⟨p0, p1, p2, p3, p4, p5⟩, -, gP⟩ := row6 H3.out.2.1)
      clear hown1 hg1 HS2 HSn ho2
      have hlen2 : ((Pl.numsP p ++ p.secs.map Pl.secI) ++ (Pl.endsP p).filterMap (Pl.joinP p)).length ≤ 100 := by
        rw [List.length_append]; omega
      refine (PB.out _ H3.out.1).mono ?_; rintro e w4 ⟨v4, rfl, hb2, ho2⟩
      have HS2 := Lib.hid (H3.out.below hb2)
      clear p0 p1 p2 p3 p4 p5 gP hb2 H3
      go_wp2_with (at_builtin; refine wpList_append_rows _ rfl (.tmp 28) (.tmp 30) 22 rfl (w.heap.size + 1) 44 i0 _ 7 80 Tryz.underlying22 hi hz0 hz1 hz2 rfl (by decide) _ _ _ rfl HS2.out.2.2 _ _ _ _ rfl ho2 (cellsL_one' _) (by unfold maxLen; omega) (by omega) (by have := HS2.out.lt; omega) ?_; intro v5 w5 hown1 hg1; have H5 := Lib.hid (HS2.out.more hown1 hg1); obtain ⟨⟨p0, p1, p2, p3, p4, p5⟩, -, gP⟩ := row6 H5.out.2.1)
      clear hown1 hg1 HS2 ho2
      have hlen3 : (((Pl.numsP p ++ p.secs.map Pl.secI) ++ (Pl.endsP p).filterMap (Pl.joinP p)) ++ (Pl.endsP p).filterMap (Pl.stopP p)).length ≤ 172 := by
        rw [List.length_append]; omega
      have HY := Lib.hid (show Pl.items p = (((Pl.numsP p ++ p.secs.map Pl.secI) ++ (Pl.endsP p).filterMap (Pl.joinP p)) ++ (Pl.endsP p).filterMap (Pl.stopP p)) ++ p.sigs.map (Pl.sigI p) from rfl)
      generalize (((Pl.numsP p ++ p.secs.map Pl.secI) ++ (Pl.endsP p).filterMap (Pl.joinP p)) ++ (Pl.endsP p).filterMap (Pl.stopP p)) = X0 at H5 hlen3 HY
      have HS1 := Lib.hid (show ItSt w w5 (planO p A c A' c') v5 (X0 ++ (p.sigs.take 0).map (Pl.sigI p)) by rw [List.take_zero, List.map_nil, List.append_nil]; exact H5.out)
      clear H5
      go_loopw [3, 35] (fun v i wr => ∃ k : Nat, k ≤ p.sigs.length ∧ i = .int .i64 k ∧ ItSt w wr (planO p A c A' c') v (X0 ++ (p.sigs.take k).map (Pl.sigI p))) (fun _ i _ => p.sigs.length - (intOf i).toNat)
      case atStart => exact ⟨0, by omega, rfl, HS1.out⟩
      case round =>
        clear HS1 p0 p1 p2 p3 p4 p5 gP
        obtain ⟨k, hk, rfl, hS⟩ := hrel
        have HS := Lib.hid hS
        clear hS
        by_cases hlt : k < p.sigs.length
        · have hg := List.getElem?_eq_getElem hlt
          generalize p.sigs[k] = gs at hg
          obtain ⟨b, o, rfl, hb, on⟩ : ∃ b o, A' = some ⟨b, o, none⟩ ∧ b < wr.heap.size ∧ LSig.On wr b (o + k * 3) gs := by
            obtain ⟨hi', rfl⟩ := List.getElem?_eq_some_iff.1 hg
            exact (HI.out.2.below rfl HS.out.1).at hi'
          obtain ⟨j, f, t, hj, hf, hf3, ht, hy⟩ := Pl.sigI_at HF.out hg
          have HN := Lib.hid (take_map_snoc (Pl.sigI p) hg)
          rw [hy] at HN
          obtain ⟨gn, gsec, gen⟩ := gs
          simp only at hj hf
          subst hj hf
          obtain ⟨a0, a1, a2⟩ := sig_on on
          simp only at a0 a1 a2
          have kb := heap_alloc_new wr (.cells #[.string (txt gn), .int .i64 j, .int .i64 f] 53)
          have HSk := Lib.hid (HS.out.below ((Below.refl _ _).alloc (Nat.le_refl _) (.cells #[.string (txt gn), .int .i64 j, .int .i64 f] 53)))
          have kx1 : (wr.alloc (.cells #[.string (txt gn), .int .i64 j, .int .i64 f] 53)).cell? ⟨wr.heap.size, 1, none⟩ = some (.int .i64 j) := cell_of_row _ _ 1 _ _ _ kb
          have kx2 : (wr.alloc (.cells #[.string (txt gn), .int .i64 j, .int .i64 f] 53)).cell? ⟨wr.heap.size, 2, none⟩ = some (.int .i64 f) := cell_of_row _ _ 2 _ _ _ kb
          have kx0 : (wr.alloc (.cells #[.string (txt gn), .int .i64 j, .int .i64 f] 53)).cell? ⟨wr.heap.size, 0, none⟩ = some (.string (txt gn)) := cell_of_row _ _ 0 _ _ _ kb
          have gb := (Array.getElem?_eq_some_iff.1 kb).1
          have T1 := Lib.hid (pTip_made p A c (some ⟨b, o, none⟩) c' HI.out HSk.out.1 ht hf3)
          obtain ⟨⟨p0, p1, p2, p3, p4, p5⟩, -, gP⟩ := row6 HSk.out.2.1
          have hlen4 : (X0 ++ (p.sigs.take k).map (Pl.sigI p)).length ≤ 184 := by
            rw [List.length_append, List.length_map, List.length_take]; omega
          clear on hg ht hy kb
          go_wp2_with fail
          refine (T1.out _ (Below.refl _ _)).mono ?_; rintro e w2 ⟨rfl, hbl, hacc, hz⟩
          have HS2 := Lib.hid ((HSk.out.below hacc).below ((Below.refl _ _).alloc (Nat.le_refl _) (.cells #[.string (txt t.name), .int .u8 (Pl.letter t.pt f).toNat, .string ⟨#[]⟩, .int .u8 0] 42)))
          have kb := heap_alloc_new w2 (.cells #[.string (txt t.name), .int .u8 (Pl.letter t.pt f).toNat, .string ⟨#[]⟩, .int .u8 0] 42)
          obtain ⟨⟨t0, t1, t2, t3⟩, -, -⟩ := row4c kb
          have ky0 : (w2.alloc (.cells #[.string (txt t.name), .int .u8 (Pl.letter t.pt f).toNat, .string ⟨#[]⟩, .int .u8 0] 42)).cell? ⟨wr.heap.size, 0, none⟩ = some (.string (txt gn)) := ((hacc.alloc hacc.size _).cell (p := ⟨wr.heap.size, 0, none⟩) gb).trans kx0
          have HI8 := Lib.hid (HS2.out.item ⟨9, gn, 0, ⟨t.name, Pl.letter t.pt f⟩, It.Tp.zero⟩)
          have NW := Lib.hid (new_item (w2.alloc (.cells #[.string (txt t.name), .int .u8 (Pl.letter t.pt f).toNat, .string ⟨#[]⟩, .int .u8 0] 42)) ⟨9, gn, 0, ⟨t.name, Pl.letter t.pt f⟩, It.Tp.zero⟩)
          rw [World.size_alloc] at NW
          have hlw := HS2.out.lt
          simp at hlw
          clear a0 a1 a2 kx0 kx1 kx2 p0 p1 p2 p3 p4 p5 gP kb hbl hacc T1
          go_wp2_with (at_builtin; refine wpList_append_own _ rfl (.tmp 46) (.tmp 51) 22 rfl (w.heap.size + 1) 44 i0 _ 7 80 Tryz.underlying22 hi hz0 hz1 hz2 rfl (by decide) _ _ _ rfl HI8.out.2.2 ⟨w2.heap.size + 1, 0, none⟩ 1 1 (cells7 ⟨9, gn, 0, ⟨t.name, Pl.letter t.pt f⟩, It.Tp.zero⟩) rfl rfl NW.out (cells7_one _) (by unfold maxLen; omega) (by omega) (by simp; omega) ?_; intro v1 w3 hown1 hg1 _)
          have H3 := Lib.hid (HI8.out.snoc hown1 hg1)
          clear hown1 hg1
          go_wp2_with fail
          go_roundw
          case rel => exact ⟨k + 1, by omega, by go_num, by rw [HN.out, ← List.append_assoc]; exact H3.out⟩
          case measure => simp [intOf]; omega
        · obtain rfl : k = p.sigs.length := by omega
          have H0 := HS.out
          rw [List.take_length, ← HY.out] at H0
          have HSn := Lib.hid H0
          clear H0 HS
          go_wp2_with fail
          refine bodyPost_ret ?_ rfl ⟨_, rfl, HSn.out.1, own_mono HSn.out.2.2 (Nat.le_succ _)⟩
          simp [results, Tryz.results18, go_sem]
end Go.Proofs.YtaheiolbeiofpaaGreatDoor
