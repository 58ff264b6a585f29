/-
  Texts of this claim, merged: PlRefE, PlRefF, PlRefG, PlRefH, PlRefI.
-/
import Derived.Test.YtbmmcmdopekccaaMg09
import Derived.Deep.RegionLaw
/-
  The walk of the document's answer of layer 5: a section more.
-/
namespace Go.Proofs.Ytbmmcmdopekccaa
open Go.RowKit

theorem infoSec : (Try.prog.info? 123).map (fun i => (i.zero, i.size, i.bytes)) = some (some (.agg #[.string ⟨#[]⟩, .bool false, .int .i64 0, .int .i64 0, .int .i64 0, .int .i64 0, .int .i64 0, .int .i64 0, .int .i64 0, .int .i64 0, .int .i64 0, .int .i64 0]), 12, 104) := by kernel_rfl
abbrev item7 (y : It.Itm) : Array Value := #[.int .i64 y.k, .string (txt y.name), .int .i64 y.n, .string (txt y.e0.n), .int .u8 y.e0.c.toNat, .string (txt y.e1.n), .int .u8 y.e1.c.toNat]
def zeroE : Pl.En := ⟨0, 0, 0⟩
/-- A section's ends, as many of them opened. -/
def secPart (x : It.Itm) (k : Nat) : Pl.Sec := ⟨x.name, Pl.isPt x, x.n, if 0 < k then Pl.openE else zeroE, if 1 < k then Pl.openE else zeroE, if 2 < k then Pl.openE else zeroE⟩
theorem row12 {w : World} {g : Nat} {cs : Array Value} {t : TypeId} (h : w.heap[g]? = some (.cells cs t (0, 0))) : (∀ j, w.cell? ⟨g, j, none⟩ = cs[j]?) ∧ (∀ j, w.frozen? ⟨g, j, none⟩ = false) ∧ g < w.heap.size :=
  ⟨fun j => cell_of_row w g j cs t _ h, fun j => frozen_of_row w g j cs t h, (Array.getElem?_eq_some_iff.1 h).1⟩
theorem set3 {w : World} {g : Nat} {cs : Array Value} {t : TypeId} (h : w.heap[g]? = some (.cells cs t (0, 0))) (a b c : Nat) (u v z : Value) :
    (((w.setCell ⟨g, a, none⟩ u).setCell ⟨g, b, none⟩ v).setCell ⟨g, c, none⟩ z).heap[g]? = some (.cells (((cs.setIfInBounds a u).setIfInBounds b v).setIfInBounds c z) t (0, 0)) :=
  heap_setCell_same _ _ _ _ _ _ (heap_setCell_same _ _ _ _ _ _ (heap_setCell_same _ _ _ _ _ _ h))
theorem part_step (x : It.Itm) (k : Nat) (hk : k < 3) : ((((secCells (secPart x k)).toArray.setIfInBounds (3 + k * 3) (.int .i64 (-2))).setIfInBounds (3 + k * 3 + 1) (.int .i64 0)).setIfInBounds (3 + k * 3 + 2) (.int .i64 (-1))) = (secCells (secPart x (k + 1))).toArray := by
  have : k = 0 ∨ k = 1 ∨ k = 2 := by omega
  rcases this with rfl | rfl | rfl <;> rfl
def litT (x : It.Itm) : List Value := [.string (txt x.name), .bool true, .int .i64 x.n, .int .i64 (-2), .int .i64 0, .int .i64 (-1), .int .i64 (-2), .int .i64 0, .int .i64 (-1), .int .i64 (-2), .int .i64 0, .int .i64 (-1)]
def litF (x : It.Itm) : List Value := [.string (txt x.name), .bool false, .int .i64 x.n, .int .i64 (-2), .int .i64 0, .int .i64 (-1), .int .i64 (-2), .int .i64 0, .int .i64 (-1), .int .i64 (-1), .int .i64 0, .int .i64 (-1)]
theorem litT_one (x : It.Itm) : ∀ u ∈ litT x, u.oneCell' = true := fun u hu => by
  simp only [litT, List.mem_cons, List.not_mem_nil, or_false] at hu
  rcases hu with rfl | rfl | rfl | rfl | rfl | rfl | rfl | rfl | rfl | rfl | rfl | rfl <;> rfl
theorem litF_one (x : It.Itm) : ∀ u ∈ litF x, u.oneCell' = true := fun u hu => by
  simp only [litF, List.mem_cons, List.not_mem_nil, or_false] at hu
  rcases hu with rfl | rfl | rfl | rfl | rfl | rfl | rfl | rfl | rfl | rfl | rfl | rfl <;> rfl
/-- The section that a line tells. -/
def newSec (x : It.Itm) : Pl.Sec := ⟨x.name, Pl.isPt x, x.n, Pl.openE, Pl.openE, if Pl.isPt x then Pl.openE else Pl.stop⟩
theorem litT_eq {x : It.Itm} (hp : Pl.isPt x = true) : litT x = LSec.enc (newSec x) := by simp [litT, newSec, hp, LSec, secCells, Pl.openE]
theorem litF_eq {x : It.Itm} (hp : Pl.isPt x = false) : litF x = LSec.enc (newSec x) := by simp [litF, newSec, hp, LSec, secCells, Pl.openE, Pl.stop]
theorem cells_keep {M : List It.Itm} {x : It.Itm} (h : It.isNum x.k = false) (vS vG : Value) : workCells (M ++ [x]) vS vG = workCells M vS vG := by
  have hk : ∀ k : Int, 1 ≤ k → k ≤ 4 → x.k ≠ k := fun k h1 h2 e => by
    unfold It.isNum at h
    exact absurd (show 1 ≤ x.k ∧ x.k ≤ 4 by omega) (of_decide_eq_false h)
  have n1 := hk 1 (by decide) (by decide)
  have n2 := hk 2 (by decide) (by decide)
  have n3 := hk 3 (by decide) (by decide)
  have n4 := hk 4 (by decide) (by decide)
  simp [workCells, toldB_snoc, Pl.num_other n1, Pl.num_other n2, Pl.num_other n3, Pl.num_other n4, n1, n2, n3, n4]
theorem own_kept {w w' : World} {base : Nat} {e : TypeId} {size : Nat} {v : Value} {n : Nat} {xs : List Value} (h : w.ownsRow base e size v n xs) (hk : ∀ b, v.ownBlock = some b → w'.heap[b]? = w.heap[b]?) : w'.ownsRow base e size v n xs := by
  refine ⟨h.1, ?_⟩
  rcases h.2 with hn | ⟨b, cap, cur, rfl, hbb, hgg, rest⟩
  · exact .inl hn
  · exact .inr ⟨b, cap, cur, rfl, hbb, by rw [hk b rfl]; exact hgg, rest⟩
/-- A row of the work's own has grown, and is the work's again. -/
theorem WorkAt.sections {tw tS tG : TypeId} {w w1 w2 : World} {g : Nat} {M : List It.Itm} {x : It.Itm} {vS vG v' : Value} {g' cap' : Nat} (hrow : w.heap[g]? = some (.cells (workCells M vS vG) tw (0, 0)))
    (hS : w.ownsRow (g + 1) tS LSec.m vS (Pl.wS M).length (LSec.all (Pl.wS M))) (hG : w.ownsRow (g + 1) tG LSig.m vG (Pl.wG M).length (LSig.all (Pl.wG M))) (hap : ∀ k, vS.ownBlock = some k → vG.ownBlock ≠ some k)
    (hb : Below w.heap.size w w1) (hgr : w1.grownBy w2 vS.ownBlock) (hv : v' = .slice (some ⟨g', 0, none⟩) ((Pl.wS M).length + 1) cap') (hown : w2.ownsRow (g + 1) tS LSec.m v' ((Pl.wS M).length + 1) (LSec.all (Pl.wS M) ++ LSec.enc (newSec x))) (hg' : vS.ownBlock = some g' ∨ w.heap.size ≤ g')
    (hk : It.isNum x.k = false) (e1 : Pl.wS (M ++ [x]) = Pl.wS M ++ [newSec x]) (e2 : Pl.wG (M ++ [x]) = Pl.wG M) : WorkAt tw tS tG (w2.setCell ⟨g, 4, none⟩ v') g (M ++ [x]) ∧ Below g w (w2.setCell ⟨g, 4, none⟩ v') := by
  have hg := (Array.getElem?_eq_some_iff.1 hrow).1
  have hbs := hb.size
  have hne : some g ≠ vS.ownBlock := fun e => by have := (hS.lt g e.symm).1; omega
  have row2 : w2.heap[g]? = some (.cells (workCells M vS vG) tw (0, 0)) := by rw [hgr.block g (by omega) hne, hb.block g hg]; exact hrow
  refine ⟨⟨v', vG, ?_, ?_, ?_, ?_⟩, ?_⟩
  · rw [heap_setCell_same _ _ _ _ _ _ row2, cells_keep hk]; rfl
  · rw [e1, List.length_append, List.length_singleton, LSec.all_append, LSec.all_one]
    exact ownsRow_setCell_below hown (a := ⟨g, 4, none⟩) (by show g < g + 1; omega) v'
  · rw [e2]
    refine ownsRow_setCell_below (own_kept hG fun b hb' => ?_) (a := ⟨g, 4, none⟩) (by show g < g + 1; omega) v'
    have hlt := (hG.lt b hb').2
    rw [hgr.block b (by omega) (fun e => hap b e.symm hb'), hb.block b hlt]
  · subst hv
    intro k hk1 hk2
    have : g' = k := by simpa [Value.ownBlock] using hk1
    subst this
    rcases hg' with h | h
    · exact hap g' h hk2
    · have := (hG.lt g' hk2).2; omega
  · have hb' : Below g w w1 := hb.mono (Nat.le_of_lt hg)
    exact (hb'.grown hgr (by omega) (fun k hk => by have := (hS.lt k hk).1; omega)).setCell (Nat.le_refl _) _
set_option maxHeartbeats 8000000 in
set_option maxRecDepth 100000 in
theorem rpSection_any (g : Nat) (M : List It.Itm) (x : It.Itm) (w : World) (h : WorkAt 90 123 95 w g M) (hM : Pl.Ok M) (hx : Pl.isS x = true) :
    Calls Try.prog 57 #[.pointer (some ⟨g, 0, none⟩), itemV x] w (LineGives 90 123 95 g M x (if x.name ∈ Pl.nmS M then 3 else if (Pl.secs M).length = 24 then 9 else 0) w) := by
  obtain ⟨vS, vG, hrow, hS, hG, hap⟩ := h
  obtain ⟨-, A, cp, rfl, hcap, hR⟩ := Lies.Row.of_own hS
  obtain ⟨⟨-, -, -, -, s4, -⟩, -, hfz, hg⟩ := work_row hrow
  obtain ⟨i0, hi, hz0, hz1, hz2⟩ := info_parts infoSec
  have hl : (Pl.wS M).length ≤ 24 := by rw [Pl.wS_len]; exact hM.few
  have X0 := Lib.hid ((Below.refl w.heap.size w).alloc (Nat.le_refl _) (.cells (item7 x) 84))
  have XG := Lib.hid ((Below.refl g w).alloc (Nat.le_of_lt hg) (.cells (item7 x) 84))
  have FN := Lib.hid (fun W (h : Below w.heap.size w W) => rpFind_any A cp (Pl.wS M) x.name W (hR.below rfl h) (by omega))
  obtain ⟨⟨k0, k1, k2, k3, k4, k5, k6⟩, -, g2⟩ := row7 (show (w.alloc (.cells (item7 x) 84)).heap[w.heap.size]? = some (.cells #[.int .i64 x.k, .string (txt x.name), .int .i64 x.n, .string (txt x.e0.n), .int .u8 x.e0.c.toNat, .string (txt x.e1.n), .int .u8 x.e1.c.toNat] 84 (0, 0)) from heap_alloc_new _ _)
  have K4 : (w.alloc (.cells (item7 x) 84)).cell? ⟨g, 4, none⟩ = some (.slice A (Pl.wS M).length cp) := by
    rw [X0.out.cell (show (⟨g, 4, none⟩ : Addr).block < w.heap.size from hg)]; exact s4
  have g1 : g < (w.alloc (.cells (item7 x) 84)).heap.size := Nat.lt_trans hg g2
  rcases Pl.find_wS (M := M) x.name with ⟨hno, hf⟩ | ⟨i, y, hf, hy, hn⟩
  · rw [hf] at FN
    rw [if_neg hno]
    by_cases h24 : (Pl.secs M).length = 24
    · rw [if_pos h24]
      have q24 : (((Pl.wS M).length : Int) == 24) = true := by rw [beq_iff_eq, Pl.wS_len]; omega
      clear hf hno hR hS hG hap hM hl hcap h24
      go_enter Try.func57, Try.ntmps57
      go_wp2_with fail
      go_region_held3 (fun w' => w'.cell? ⟨g, 4, none⟩ = some (.slice A (Pl.wS M).length cp) ∧ w'.cell? ⟨w.heap.size, 1, none⟩ = some (.string (txt x.name)))
        (first | exact ⟨K4, k1⟩ | exact ⟨(hcell _ _ g1).trans K4, (hcell _ _ g2).trans k1⟩)
        (first
          | (go_at_call 61; (with_reducible refine (FN.out _ X0.out.drew).mono ?_); rintro e w' ⟨rfl, rfl⟩))
      all_goals go_wp2_with fail
      all_goals go_ret
      all_goals exact ⟨rfl, fun h => by simp at h, XG.out.drew⟩
    · rw [if_neg h24]
      have q24 : (((Pl.wS M).length : Int) == 24) = false := by rw [beq_eq_false_iff_ne, Pl.wS_len]; omega
      obtain ⟨e1, e2⟩ := Pl.w_sec hM hx hno
      have HE1 := Lib.hid (show Pl.wS (M ++ [x]) = Pl.wS M ++ [newSec x] from e1)
      have HE2 := Lib.hid e2
      have HR := Lib.hid hrow
      have HS := Lib.hid hS
      have HG := Lib.hid hG
      have HA := Lib.hid hap
      have HK := Lib.hid (Pl.sec_facts hx).1
      clear hf hno hR hS hG hap hM hcap h24 e1 e2 hx hrow
      cases hp : Pl.isPt x
      · have hk6 : (x.k == 6) = false := by rw [beq_eq_false_iff_ne]; exact fun e => by simp [Pl.isPt, e] at hp
        go_enter Try.func57, Try.ntmps57
        go_wp2_with fail
        go_region_held3 (fun w' => w'.cell? ⟨g, 4, none⟩ = some (.slice A (Pl.wS M).length cp) ∧ w'.cell? ⟨w.heap.size, 1, none⟩ = some (.string (txt x.name)))
          (first | exact ⟨K4, k1⟩ | exact ⟨(hcell _ _ g1).trans K4, (hcell _ _ g2).trans k1⟩)
          (first
            | (go_at_call 61; (with_reducible refine (FN.out _ X0.out.drew).mono ?_); rintro e w' ⟨rfl, rfl⟩))
        all_goals go_wp2_with fail
        go_loopw [6] (fun v wr => ∃ k : Nat, k ≤ 3 ∧ v = .int .i64 k ∧ wr.heap[w.heap.size + 1]? = some (.cells (secCells (secPart x k)).toArray 123 (0, 0)) ∧ Below w.heap.size w wr) (fun v _ => 3 - (intOf v).toNat)
        case atStart =>
          refine ⟨0, by omega, rfl, ?_, (X0.out.alloc (by simp) _).drew⟩
          have : (((w.alloc (.cells (item7 x) 84)).alloc (.cells (secCells (secPart x 0)).toArray 123)).drew).heap[(w.alloc (.cells (item7 x) 84)).heap.size]? = some (.cells (secCells (secPart x 0)).toArray 123 (0, 0)) := heap_alloc_new (w.alloc (.cells (item7 x) 84)) (.cells (secCells (secPart x 0)).toArray 123)
          simpa [secCells, secPart, hp, zeroE] using this
        case round =>
          obtain ⟨k, hk, rfl, hrw, hbel⟩ := hrel
          obtain ⟨cl, fz, hgb⟩ := row12 hrw
          have RW := Lib.hid hrw
          clear hrw
          have hk4 : k = 0 ∨ k = 1 ∨ k = 2 ∨ k = 3 := by omega
          rcases hk4 with rfl | rfl | rfl | rfl
          · have c0 : wr.cell? ⟨w.heap.size + 1, 3, none⟩ = some (.int .i64 0) := cl 3
            have c1 : wr.cell? ⟨w.heap.size + 1, 4, none⟩ = some (.int .i64 0) := cl 4
            have c2 : wr.cell? ⟨w.heap.size + 1, 5, none⟩ = some (.int .i64 0) := cl 5
            have f0 := fz 3
            have f1 := fz 4
            have f2 := fz 5
            clear cl fz
            have NX := Lib.hid (show (((wr.setCell ⟨w.heap.size + 1, 3, none⟩ (.int .i64 (-2))).setCell ⟨w.heap.size + 1, 4, none⟩ (.int .i64 0)).setCell ⟨w.heap.size + 1, 5, none⟩ (.int .i64 (-1))).heap[w.heap.size + 1]? = some (.cells (secCells (secPart x 1)).toArray 123 (0, 0)) from (set3 RW.out 3 4 5 (.int .i64 (-2)) (.int .i64 0) (.int .i64 (-1))).trans (congrArg (fun a => some (Obj.cells a 123 (0, 0))) (part_step x 0 (by omega))))
            go_wp2_with fail
            go_roundw
            case rel => exact ⟨1, by omega, by go_num, NX.out, ((hbel.setCell (Nat.le_succ _) _).setCell (Nat.le_succ _) _).setCell (Nat.le_succ _) _⟩
            case measure => simp [intOf]
          · have c0 : wr.cell? ⟨w.heap.size + 1, 6, none⟩ = some (.int .i64 0) := cl 6
            have c1 : wr.cell? ⟨w.heap.size + 1, 7, none⟩ = some (.int .i64 0) := cl 7
            have c2 : wr.cell? ⟨w.heap.size + 1, 8, none⟩ = some (.int .i64 0) := cl 8
            have f0 := fz 6
            have f1 := fz 7
            have f2 := fz 8
            clear cl fz
            have NX := Lib.hid (show (((wr.setCell ⟨w.heap.size + 1, 6, none⟩ (.int .i64 (-2))).setCell ⟨w.heap.size + 1, 7, none⟩ (.int .i64 0)).setCell ⟨w.heap.size + 1, 8, none⟩ (.int .i64 (-1))).heap[w.heap.size + 1]? = some (.cells (secCells (secPart x 2)).toArray 123 (0, 0)) from (set3 RW.out 6 7 8 (.int .i64 (-2)) (.int .i64 0) (.int .i64 (-1))).trans (congrArg (fun a => some (Obj.cells a 123 (0, 0))) (part_step x 1 (by omega))))
            go_wp2_with fail
            go_roundw
            case rel => exact ⟨2, by omega, by go_num, NX.out, ((hbel.setCell (Nat.le_succ _) _).setCell (Nat.le_succ _) _).setCell (Nat.le_succ _) _⟩
            case measure => simp [intOf]
          · have c0 : wr.cell? ⟨w.heap.size + 1, 9, none⟩ = some (.int .i64 0) := cl 9
            have c1 : wr.cell? ⟨w.heap.size + 1, 10, none⟩ = some (.int .i64 0) := cl 10
            have c2 : wr.cell? ⟨w.heap.size + 1, 11, none⟩ = some (.int .i64 0) := cl 11
            have f0 := fz 9
            have f1 := fz 10
            have f2 := fz 11
            clear cl fz
            have NX := Lib.hid (show (((wr.setCell ⟨w.heap.size + 1, 9, none⟩ (.int .i64 (-2))).setCell ⟨w.heap.size + 1, 10, none⟩ (.int .i64 0)).setCell ⟨w.heap.size + 1, 11, none⟩ (.int .i64 (-1))).heap[w.heap.size + 1]? = some (.cells (secCells (secPart x 3)).toArray 123 (0, 0)) from (set3 RW.out 9 10 11 (.int .i64 (-2)) (.int .i64 0) (.int .i64 (-1))).trans (congrArg (fun a => some (Obj.cells a 123 (0, 0))) (part_step x 2 (by omega))))
            go_wp2_with fail
            go_roundw
            case rel => exact ⟨3, by omega, by go_num, NX.out, ((hbel.setCell (Nat.le_succ _) _).setCell (Nat.le_succ _) _).setCell (Nat.le_succ _) _⟩
            case measure => simp [intOf]

          · have RG := stay_row HR.out hbel
            obtain ⟨⟨-, -, -, -, S4, -⟩, -, hfz2, hg2⟩ := work_row RG
            have f4 := hfz2 4
            have d0 : wr.cell? ⟨w.heap.size + 1, 0, none⟩ = some (.string (txt x.name)) := cl 0
            have d1 : wr.cell? ⟨w.heap.size + 1, 1, none⟩ = some (.bool false) := by rw [← hp]; exact cl 1
            have d2 : wr.cell? ⟨w.heap.size + 1, 2, none⟩ = some (.int .i64 x.n) := cl 2
            have d3 : wr.cell? ⟨w.heap.size + 1, 3, none⟩ = some (.int .i64 (-2)) := cl 3
            have d4 : wr.cell? ⟨w.heap.size + 1, 4, none⟩ = some (.int .i64 0) := cl 4
            have d5 : wr.cell? ⟨w.heap.size + 1, 5, none⟩ = some (.int .i64 (-1)) := cl 5
            have d6 : wr.cell? ⟨w.heap.size + 1, 6, none⟩ = some (.int .i64 (-2)) := cl 6
            have d7 : wr.cell? ⟨w.heap.size + 1, 7, none⟩ = some (.int .i64 0) := cl 7
            have d8 : wr.cell? ⟨w.heap.size + 1, 8, none⟩ = some (.int .i64 (-1)) := cl 8
            have d9 : wr.cell? ⟨w.heap.size + 1, 9, none⟩ = some (.int .i64 (-2)) := cl 9
            have d10 : wr.cell? ⟨w.heap.size + 1, 10, none⟩ = some (.int .i64 0) := cl 10
            have d11 : wr.cell? ⟨w.heap.size + 1, 11, none⟩ = some (.int .i64 (-1)) := cl 11
            have e9 := fz 9
            have hbz := hbel.size
            have HBW := Lib.hid hbel
            have OW := Lib.hid (ownsRow_below HS.out hbel)
            clear cl fz hfz2 hfz k0 k1 k2 k3 k4 k5 k6 K4 s4 hbel RG
            go_wp2_with fail
            have RL : (wr.setCell ⟨w.heap.size + 1, 9, none⟩ (.int .i64 (-1))).heap[w.heap.size + 1]? = some (.cells (litF x).toArray 123 (0, 0)) := by
              have := heap_setCell_same _ _ 9 _ _ (.int .i64 (-1)) RW.out
              have e : (secCells (secPart x 3)).toArray.setIfInBounds 9 (.int .i64 (-1)) = (litF x).toArray := by simp [secCells, secPart, litF, hp, Pl.openE]
              rwa [e] at this
            have HBE : Below w.heap.size w (wr.setCell ⟨w.heap.size + 1, 9, none⟩ (.int .i64 (-1))) := HBW.out.setCell (Nat.le_succ _) _
            have NE : ∀ b, b < w.heap.size → (wr.setCell ⟨w.heap.size + 1, 9, none⟩ (.int .i64 (-1))).heap[b]? = w.heap[b]? := fun b hb => HBE.block b hb
            clear d0 d1 d2 d3 d4 d5 d6 d7 d8 d9 d10 d11 e9 S4 f4 HBW OW RW hgb hg2 hbz
            generalize wr.setCell ⟨w.heap.size + 1, 9, none⟩ (.int .i64 (-1)) = WR at RL HBE NE ⊢
            have hbz := HBE.size
            have RG := (NE g hg).trans HR.out
            obtain ⟨⟨-, -, -, -, S4, -⟩, -, hfz2, hg2⟩ := work_row RG
            have f4 := hfz2 4
            obtain ⟨cl, -, hgb⟩ := row12 RL
            have d0 : WR.cell? ⟨w.heap.size + 1, 0, none⟩ = some (.string (txt x.name)) := cl 0
            have d1 : WR.cell? ⟨w.heap.size + 1, 1, none⟩ = some (.bool false) := cl 1
            have d2 : WR.cell? ⟨w.heap.size + 1, 2, none⟩ = some (.int .i64 x.n) := cl 2
            have d3 : WR.cell? ⟨w.heap.size + 1, 3, none⟩ = some (.int .i64 (-2)) := cl 3
            have d4 : WR.cell? ⟨w.heap.size + 1, 4, none⟩ = some (.int .i64 0) := cl 4
            have d5 : WR.cell? ⟨w.heap.size + 1, 5, none⟩ = some (.int .i64 (-1)) := cl 5
            have d6 : WR.cell? ⟨w.heap.size + 1, 6, none⟩ = some (.int .i64 (-2)) := cl 6
            have d7 : WR.cell? ⟨w.heap.size + 1, 7, none⟩ = some (.int .i64 0) := cl 7
            have d8 : WR.cell? ⟨w.heap.size + 1, 8, none⟩ = some (.int .i64 (-1)) := cl 8
            have d9 : WR.cell? ⟨w.heap.size + 1, 9, none⟩ = some (.int .i64 (-1)) := cl 9
            have d10 : WR.cell? ⟨w.heap.size + 1, 10, none⟩ = some (.int .i64 0) := cl 10
            have d11 : WR.cell? ⟨w.heap.size + 1, 11, none⟩ = some (.int .i64 (-1)) := cl 11
            have OW := Lib.hid (ownsRow_below HS.out HBE)
            have NW := Lib.hid (show ∀ j u, (litF x)[j]? = some u → (WR.drew.alloc (.cells (litF x).toArray 123)).cell? ((⟨WR.heap.size, 0, none⟩ : Addr).add j) = some u from
              fun j u hu => World.news_of_block (B := WR.heap.size) (cs := (litF x).toArray) (t := 123) (fr := (0, 0)) (heap_alloc_new WR.drew (.cells (litF x).toArray 123)) j u (by simpa using hu))
            have hRG : some g ≠ (Value.slice A (Pl.wS M).length cp).ownBlock := fun e => by have := (OW.out.lt g e.symm).1; omega
            have HX := Lib.hid hRG
            have RGh := Lib.hid RG
            clear cl hfz2 RL NE hRG RG
            go_region_law (refine step_append_lies _ (by rfl) (.tmp 52) (.tmp 54) 41 (by rfl) (g + 1) 123 i0 _ 12 104 Try.underlying41 hi hz0 hz1 hz2 rfl (by decide) (.slice A (Pl.wS M).length cp) (Pl.wS M).length (LSec.all (Pl.wS M)) (by rfl) (OW.out.drew.alloc _) ⟨WR.heap.size, 0, none⟩ 1 1 (litF x) (by rfl) (by rfl) NW.out (litF_one x) (by omega) (by unfold maxLen; omega) (by omega) (by simp; omega) _ rfl ?_; intro g' cap' w2 hown hgr hg' hlt2; have hr2 := (hgr.block g (by simp; omega) HX.out).trans ((heap_alloc_old _ _ (show g < WR.drew.heap.size from hg2)).trans RGh.out); have c2 := (work_row hr2).1.2.2.2.2.1; have f2 := (work_row hr2).2.2.1 4)
            all_goals go_wp2_with fail
            all_goals go_ret
            all_goals (rw [litF_eq hp] at hown; have WS := WorkAt.sections HR.out HS.out HG.out HA.out (HBE.drew.alloc HBE.size (.cells (litF x).toArray 123)) hgr rfl hown (by rcases hg' with h | h; exact .inl h; exact .inr (by rw [h]; simp; omega)) HK.out HE1.out HE2.out; exact ⟨rfl, fun _ => WS.1, WS.2⟩)
      · have hk6 : (x.k == 6) = true := by rw [beq_iff_eq]; simpa [Pl.isPt] using hp
        go_enter Try.func57, Try.ntmps57
        go_wp2_with fail
        go_region_held3 (fun w' => w'.cell? ⟨g, 4, none⟩ = some (.slice A (Pl.wS M).length cp) ∧ w'.cell? ⟨w.heap.size, 1, none⟩ = some (.string (txt x.name)))
          (first | exact ⟨K4, k1⟩ | exact ⟨(hcell _ _ g1).trans K4, (hcell _ _ g2).trans k1⟩)
          (first
            | (go_at_call 61; (with_reducible refine (FN.out _ X0.out.drew).mono ?_); rintro e w' ⟨rfl, rfl⟩))
        all_goals go_wp2_with fail
        go_loopw [6] (fun v wr => ∃ k : Nat, k ≤ 3 ∧ v = .int .i64 k ∧ wr.heap[w.heap.size + 1]? = some (.cells (secCells (secPart x k)).toArray 123 (0, 0)) ∧ Below w.heap.size w wr) (fun v _ => 3 - (intOf v).toNat)
        case atStart =>
          refine ⟨0, by omega, rfl, ?_, (X0.out.alloc (by simp) _).drew⟩
          have : (((w.alloc (.cells (item7 x) 84)).alloc (.cells (secCells (secPart x 0)).toArray 123)).drew).heap[(w.alloc (.cells (item7 x) 84)).heap.size]? = some (.cells (secCells (secPart x 0)).toArray 123 (0, 0)) := heap_alloc_new (w.alloc (.cells (item7 x) 84)) (.cells (secCells (secPart x 0)).toArray 123)
          simpa [secCells, secPart, hp, zeroE] using this
        case round =>
          obtain ⟨k, hk, rfl, hrw, hbel⟩ := hrel
          obtain ⟨cl, fz, hgb⟩ := row12 hrw
          have RW := Lib.hid hrw
          clear hrw
          have hk4 : k = 0 ∨ k = 1 ∨ k = 2 ∨ k = 3 := by omega
          rcases hk4 with rfl | rfl | rfl | rfl
          · have c0 : wr.cell? ⟨w.heap.size + 1, 3, none⟩ = some (.int .i64 0) := cl 3
            have c1 : wr.cell? ⟨w.heap.size + 1, 4, none⟩ = some (.int .i64 0) := cl 4
            have c2 : wr.cell? ⟨w.heap.size + 1, 5, none⟩ = some (.int .i64 0) := cl 5
            have f0 := fz 3
            have f1 := fz 4
            have f2 := fz 5
            clear cl fz
            have NX := Lib.hid (show (((wr.setCell ⟨w.heap.size + 1, 3, none⟩ (.int .i64 (-2))).setCell ⟨w.heap.size + 1, 4, none⟩ (.int .i64 0)).setCell ⟨w.heap.size + 1, 5, none⟩ (.int .i64 (-1))).heap[w.heap.size + 1]? = some (.cells (secCells (secPart x 1)).toArray 123 (0, 0)) from (set3 RW.out 3 4 5 (.int .i64 (-2)) (.int .i64 0) (.int .i64 (-1))).trans (congrArg (fun a => some (Obj.cells a 123 (0, 0))) (part_step x 0 (by omega))))
            go_wp2_with fail
            go_roundw
            case rel => exact ⟨1, by omega, by go_num, NX.out, ((hbel.setCell (Nat.le_succ _) _).setCell (Nat.le_succ _) _).setCell (Nat.le_succ _) _⟩
            case measure => simp [intOf]
          · have c0 : wr.cell? ⟨w.heap.size + 1, 6, none⟩ = some (.int .i64 0) := cl 6
            have c1 : wr.cell? ⟨w.heap.size + 1, 7, none⟩ = some (.int .i64 0) := cl 7
            have c2 : wr.cell? ⟨w.heap.size + 1, 8, none⟩ = some (.int .i64 0) := cl 8
            have f0 := fz 6
            have f1 := fz 7
            have f2 := fz 8
            clear cl fz
            have NX := Lib.hid (show (((wr.setCell ⟨w.heap.size + 1, 6, none⟩ (.int .i64 (-2))).setCell ⟨w.heap.size + 1, 7, none⟩ (.int .i64 0)).setCell ⟨w.heap.size + 1, 8, none⟩ (.int .i64 (-1))).heap[w.heap.size + 1]? = some (.cells (secCells (secPart x 2)).toArray 123 (0, 0)) from (set3 RW.out 6 7 8 (.int .i64 (-2)) (.int .i64 0) (.int .i64 (-1))).trans (congrArg (fun a => some (Obj.cells a 123 (0, 0))) (part_step x 1 (by omega))))
            go_wp2_with fail
            go_roundw
            case rel => exact ⟨2, by omega, by go_num, NX.out, ((hbel.setCell (Nat.le_succ _) _).setCell (Nat.le_succ _) _).setCell (Nat.le_succ _) _⟩
            case measure => simp [intOf]
          · have c0 : wr.cell? ⟨w.heap.size + 1, 9, none⟩ = some (.int .i64 0) := cl 9
            have c1 : wr.cell? ⟨w.heap.size + 1, 10, none⟩ = some (.int .i64 0) := cl 10
            have c2 : wr.cell? ⟨w.heap.size + 1, 11, none⟩ = some (.int .i64 0) := cl 11
            have f0 := fz 9
            have f1 := fz 10
            have f2 := fz 11
            clear cl fz
            have NX := Lib.hid (show (((wr.setCell ⟨w.heap.size + 1, 9, none⟩ (.int .i64 (-2))).setCell ⟨w.heap.size + 1, 10, none⟩ (.int .i64 0)).setCell ⟨w.heap.size + 1, 11, none⟩ (.int .i64 (-1))).heap[w.heap.size + 1]? = some (.cells (secCells (secPart x 3)).toArray 123 (0, 0)) from (set3 RW.out 9 10 11 (.int .i64 (-2)) (.int .i64 0) (.int .i64 (-1))).trans (congrArg (fun a => some (Obj.cells a 123 (0, 0))) (part_step x 2 (by omega))))
            go_wp2_with fail
            go_roundw
            case rel => exact ⟨3, by omega, by go_num, NX.out, ((hbel.setCell (Nat.le_succ _) _).setCell (Nat.le_succ _) _).setCell (Nat.le_succ _) _⟩
            case measure => simp [intOf]

          · have RG := stay_row HR.out hbel
            obtain ⟨⟨-, -, -, -, S4, -⟩, -, hfz2, hg2⟩ := work_row RG
            have f4 := hfz2 4
            have d0 : wr.cell? ⟨w.heap.size + 1, 0, none⟩ = some (.string (txt x.name)) := cl 0
            have d1 : wr.cell? ⟨w.heap.size + 1, 1, none⟩ = some (.bool true) := by rw [← hp]; exact cl 1
            have d2 : wr.cell? ⟨w.heap.size + 1, 2, none⟩ = some (.int .i64 x.n) := cl 2
            have d3 : wr.cell? ⟨w.heap.size + 1, 3, none⟩ = some (.int .i64 (-2)) := cl 3
            have d4 : wr.cell? ⟨w.heap.size + 1, 4, none⟩ = some (.int .i64 0) := cl 4
            have d5 : wr.cell? ⟨w.heap.size + 1, 5, none⟩ = some (.int .i64 (-1)) := cl 5
            have d6 : wr.cell? ⟨w.heap.size + 1, 6, none⟩ = some (.int .i64 (-2)) := cl 6
            have d7 : wr.cell? ⟨w.heap.size + 1, 7, none⟩ = some (.int .i64 0) := cl 7
            have d8 : wr.cell? ⟨w.heap.size + 1, 8, none⟩ = some (.int .i64 (-1)) := cl 8
            have d9 : wr.cell? ⟨w.heap.size + 1, 9, none⟩ = some (.int .i64 (-2)) := cl 9
            have d10 : wr.cell? ⟨w.heap.size + 1, 10, none⟩ = some (.int .i64 0) := cl 10
            have d11 : wr.cell? ⟨w.heap.size + 1, 11, none⟩ = some (.int .i64 (-1)) := cl 11
            have e9 := fz 9
            have hbz := hbel.size
            have HBW := Lib.hid hbel
            have OW := Lib.hid (ownsRow_below HS.out hbel)
            clear cl fz hfz2 hfz k0 k1 k2 k3 k4 k5 k6 K4 s4 hbel RG
            go_wp2_with fail
            have RL : (wr).heap[w.heap.size + 1]? = some (.cells (litT x).toArray 123 (0, 0)) := by
              have e : (secCells (secPart x 3)).toArray = (litT x).toArray := by simp [secCells, secPart, litT, hp, Pl.openE]
              rw [← e]; exact RW.out
            have HBE : Below w.heap.size w (wr) := HBW.out
            have NE : ∀ b, b < w.heap.size → (wr).heap[b]? = w.heap[b]? := fun b hb => HBE.block b hb
            clear d0 d1 d2 d3 d4 d5 d6 d7 d8 d9 d10 d11 e9 S4 f4 HBW OW RW hgb hg2 hbz
            generalize wr = WR at RL HBE NE ⊢
            have hbz := HBE.size
            have RG := (NE g hg).trans HR.out
            obtain ⟨⟨-, -, -, -, S4, -⟩, -, hfz2, hg2⟩ := work_row RG
            have f4 := hfz2 4
            obtain ⟨cl, -, hgb⟩ := row12 RL
            have d0 : WR.cell? ⟨w.heap.size + 1, 0, none⟩ = some (.string (txt x.name)) := cl 0
            have d1 : WR.cell? ⟨w.heap.size + 1, 1, none⟩ = some (.bool true) := cl 1
            have d2 : WR.cell? ⟨w.heap.size + 1, 2, none⟩ = some (.int .i64 x.n) := cl 2
            have d3 : WR.cell? ⟨w.heap.size + 1, 3, none⟩ = some (.int .i64 (-2)) := cl 3
            have d4 : WR.cell? ⟨w.heap.size + 1, 4, none⟩ = some (.int .i64 0) := cl 4
            have d5 : WR.cell? ⟨w.heap.size + 1, 5, none⟩ = some (.int .i64 (-1)) := cl 5
            have d6 : WR.cell? ⟨w.heap.size + 1, 6, none⟩ = some (.int .i64 (-2)) := cl 6
            have d7 : WR.cell? ⟨w.heap.size + 1, 7, none⟩ = some (.int .i64 0) := cl 7
            have d8 : WR.cell? ⟨w.heap.size + 1, 8, none⟩ = some (.int .i64 (-1)) := cl 8
            have d9 : WR.cell? ⟨w.heap.size + 1, 9, none⟩ = some (.int .i64 (-2)) := cl 9
            have d10 : WR.cell? ⟨w.heap.size + 1, 10, none⟩ = some (.int .i64 0) := cl 10
            have d11 : WR.cell? ⟨w.heap.size + 1, 11, none⟩ = some (.int .i64 (-1)) := cl 11
            have OW := Lib.hid (ownsRow_below HS.out HBE)
            have NW := Lib.hid (show ∀ j u, (litT x)[j]? = some u → (WR.drew.alloc (.cells (litT x).toArray 123)).cell? ((⟨WR.heap.size, 0, none⟩ : Addr).add j) = some u from
              fun j u hu => World.news_of_block (B := WR.heap.size) (cs := (litT x).toArray) (t := 123) (fr := (0, 0)) (heap_alloc_new WR.drew (.cells (litT x).toArray 123)) j u (by simpa using hu))
            have hRG : some g ≠ (Value.slice A (Pl.wS M).length cp).ownBlock := fun e => by have := (OW.out.lt g e.symm).1; omega
            have HX := Lib.hid hRG
            have RGh := Lib.hid RG
            clear cl hfz2 RL NE hRG RG
            go_region_law (refine step_append_lies _ (by rfl) (.tmp 52) (.tmp 54) 41 (by rfl) (g + 1) 123 i0 _ 12 104 Try.underlying41 hi hz0 hz1 hz2 rfl (by decide) (.slice A (Pl.wS M).length cp) (Pl.wS M).length (LSec.all (Pl.wS M)) (by rfl) (OW.out.drew.alloc _) ⟨WR.heap.size, 0, none⟩ 1 1 (litT x) (by rfl) (by rfl) NW.out (litT_one x) (by omega) (by unfold maxLen; omega) (by omega) (by simp; omega) _ rfl ?_; intro g' cap' w2 hown hgr hg' hlt2; have hr2 := (hgr.block g (by simp; omega) HX.out).trans ((heap_alloc_old _ _ (show g < WR.drew.heap.size from hg2)).trans RGh.out); have c2 := (work_row hr2).1.2.2.2.2.1; have f2 := (work_row hr2).2.2.1 4)
            all_goals go_wp2_with fail
            all_goals go_ret
            all_goals (rw [litT_eq hp] at hown; have WS := WorkAt.sections HR.out HS.out HG.out HA.out (HBE.drew.alloc HBE.size (.cells (litT x).toArray 123)) hgr rfl hown (by rcases hg' with h | h; exact .inl h; exact .inr (by rw [h]; simp; omega)) HK.out HE1.out HE2.out; exact ⟨rfl, fun _ => WS.1, WS.2⟩)
  · rw [hf] at FN
    have hin : x.name ∈ Pl.nmS M := Pl.mem_nmS.2 ⟨y, List.mem_of_getElem? hy, hn⟩
    rw [if_pos hin]
    clear hf hy hn hin hR hS hG hap hM hl hcap
    go_enter Try.func57, Try.ntmps57
    go_wp2_with fail
    go_region_held3 (fun w' => w'.cell? ⟨g, 4, none⟩ = some (.slice A (Pl.wS M).length cp) ∧ w'.cell? ⟨w.heap.size, 1, none⟩ = some (.string (txt x.name)))
      (first | exact ⟨K4, k1⟩ | exact ⟨(hcell _ _ g1).trans K4, (hcell _ _ g2).trans k1⟩)
      (first
        | (go_at_call 61; (with_reducible refine (FN.out _ X0.out.drew).mono ?_); rintro e w' ⟨rfl, rfl⟩))
    all_goals go_wp2_with fail
    all_goals go_ret
    all_goals exact ⟨rfl, fun h => by simp at h, XG.out.drew⟩
end Go.Proofs.Ytbmmcmdopekccaa
/-
  What a join and a stop do to the sections as they were told: cell by cell, and what may not be.
-/
namespace Go.Proofs.Ytbmmcmdopekccaa
open Go.RowKit

theorem setTo_cells {e : Nat} (he : e < 3) (v : Int) (s : Pl.Sec) : (secCells s).set (3 + e * 3) (.int .i64 v) = secCells (Pl.Sec.setTo e v s) := by
  have : e = 0 ∨ e = 1 ∨ e = 2 := by omega
  rcases this with rfl | rfl | rfl <;> rfl
theorem setAt_cells {e : Nat} (he : e < 3) (v : Int) (s : Pl.Sec) : (secCells s).set (3 + e * 3 + 1) (.int .i64 v) = secCells (Pl.Sec.setAt e v s) := by
  have : e = 0 ∨ e = 1 ∨ e = 2 := by omega
  rcases this with rfl | rfl | rfl <;> rfl
theorem setSig_cells {e : Nat} (he : e < 3) (v : Int) (s : Pl.Sec) : (secCells s).set (3 + e * 3 + 2) (.int .i64 v) = secCells (Pl.Sec.setSig e v s) := by
  have : e = 0 ∨ e = 1 ∨ e = 2 := by omega
  rcases this with rfl | rfl | rfl <;> rfl
theorem all_modify (L : List Pl.Sec) (i j : Nat) (F : Pl.Sec → Pl.Sec) (s : Pl.Sec) (hs : L[i]? = some s) (hj : j < 12) (u : Value) (hu : (secCells s).set j u = secCells (F s)) : (LSec.all L).set (i * 12 + j) u = LSec.all (L.modify i F) := by
  have e : L.modify i F = L.set i (F s) := by
    apply List.ext_getElem?
    intro k
    rw [Pl.modify_at, List.getElem?_set]
    obtain ⟨hi, h2⟩ := List.getElem?_eq_some_iff.1 hs
    by_cases hik : i = k
    · subst hik
      rw [if_pos rfl, if_pos rfl, hs, if_pos hi]; rfl
    · rw [if_neg hik, if_neg hik]
  rw [e]
  exact Lies.set_cell (E := LSec) L i j s (F s) hs hj u hu
theorem get_put_ne {s : Pl.Sec} {e f : Nat} (he : e < 3) (hf : f < 3) (h : e ≠ f) (a : Pl.En) : (s.put e a).get f = s.get f := by
  have : e = 0 ∨ e = 1 ∨ e = 2 := by omega
  have : f = 0 ∨ f = 1 ∨ f = 2 := by omega
  rcases ‹e = 0 ∨ e = 1 ∨ e = 2› with rfl | rfl | rfl <;> rcases ‹f = 0 ∨ f = 1 ∨ f = 2› with rfl | rfl | rfl <;> first | rfl | exact absurd rfl h
theorem get_put {s : Pl.Sec} {e : Nat} (he : e < 3) (a : Pl.En) : (s.put e a).get e = a := by
  have : e = 0 ∨ e = 1 ∨ e = 2 := by omega
  rcases this with rfl | rfl | rfl <;> rfl
theorem put_pt (s : Pl.Sec) (e : Nat) (a : Pl.En) : (s.put e a).pt = s.pt ∧ (s.put e a).name = s.name := by
  unfold Pl.Sec.put
  split
  · exact ⟨rfl, rfl⟩
  · split <;> exact ⟨rfl, rfl⟩
/-- Both ends of a join, field by field. -/
theorem join_list {L : List Pl.Sec} {i j e f : Nat} {s t : Pl.Sec} (hs : L[i]? = some s) (ht : L[j]? = some t) (he : e < 3) (hf : f < 3) (hne : i = j → e ≠ f) (a b c d p q : Int) (hp : (s.get e).sig = p) (hq : (t.get f).sig = q) :
    ((((L.modify i (Pl.Sec.setTo e (-1))).modify i (Pl.Sec.setTo e a)).modify i (Pl.Sec.setAt e b)).modify j (Pl.Sec.setTo f c)).modify j (Pl.Sec.setAt f d) = (L.modify i (fun s => s.put e ⟨a, b, p⟩)).modify j (fun s => s.put f ⟨c, d, q⟩) := by
  subst hp hq
  have he' : e = 0 ∨ e = 1 ∨ e = 2 := by omega
  have hf' : f = 0 ∨ f = 1 ∨ f = 2 := by omega
  apply List.ext_getElem?
  intro k
  simp only [Pl.modify_at]
  by_cases hi : i = k
  · subst hi
    simp only [if_true]
    by_cases hj : j = i
    · subst hj
      have := hne rfl
      rw [hs] at ht
      cases ht
      simp only [if_true, hs, Option.map_some]
      congr 1
      rcases he' with rfl | rfl | rfl <;> rcases hf' with rfl | rfl | rfl <;> first | rfl | exact absurd rfl this
    · simp only [if_neg hj, hs, Option.map_some]
      congr 1
      rcases he' with rfl | rfl | rfl <;> rfl
  · simp only [if_neg hi]
    by_cases hj : j = k
    · subst hj
      simp only [if_true, ht, Option.map_some]
      congr 1
      rcases hf' with rfl | rfl | rfl <;> rfl
    · simp only [if_neg hj]
/-- What free tells is what may not be of an end. -/
theorem freeIs_err {M : List It.Itm} (hM : Pl.Ok M) {t : It.Tp} {a b c : Int} (h : FreeIs (Pl.wS M) t (a, b, c)) : c = Pl.tipErr M (Pl.ments M) t ∧
    (c = 0 → ∃ (i e : Nat) (y : It.Itm), a = i ∧ b = e ∧ (Pl.secs M)[i]? = some y ∧ e < Pl.nEnds (Pl.isPt y) ∧ t = Pl.tip y e) := by
  have nm : ∀ i s, Pl.find (Pl.wS M) t.n = (i : Nat) → (Pl.wS M)[i]? = some s → ∃ y, (Pl.secs M)[i]? = some y ∧ s = Pl.secG (Pl.gW M) y ∧ y.name = t.n ∧ t.n ∈ Pl.nmS M ∧ Pl.ptOf M t.n = Pl.isPt y := fun i s hf hs => by
    rcases Pl.find_wS (M := M) t.n with ⟨_, h⟩ | ⟨k, y, h, hy, hn⟩
    · rw [h] at hf; omega
    · rw [h] at hf
      obtain rfl : k = i := by omega
      rw [Pl.wS_of hy] at hs
      cases hs
      have hm := List.mem_of_getElem? hy
      exact ⟨y, hy, rfl, hn, Pl.mem_nmS.2 ⟨y, hm, hn⟩, by rw [← hn]; exact Pl.ptOf_eq hM.names hm⟩
  cases h with
  | none hf =>
    refine ⟨?_, fun h => by cases h⟩
    rcases Pl.find_wS (M := M) t.n with ⟨hn, _⟩ | ⟨k, y, h, _⟩
    · unfold Pl.tipErr; rw [if_pos hn]
    · rw [h] at hf; omega
  | noEnd i s hf hs he =>
    refine ⟨?_, fun h => by cases h⟩
    obtain ⟨y, hy, rfl, hn, hm, hp⟩ := nm i s hf hs
    unfold Pl.tipErr
    rw [if_neg (fun h => h hm), hp, if_pos (show Pl.endAt (Pl.isPt y) t.c = none from he)]
  | used i e s hf hs he ht =>
    refine ⟨?_, fun h => by cases h⟩
    obtain ⟨y, hy, rfl, hn, hm, hp⟩ := nm i s hf hs
    have he' : Pl.endAt (Pl.isPt y) t.c = some e := he
    obtain ⟨hl, hlt⟩ := Pl.letter_endAt he'
    have tt : t = Pl.tip y e := by cases t; simp at hn hl; simp [Pl.tip, hn, hl]
    rw [Pl.get_secG _ hlt] at ht
    have hin : t ∈ Pl.ments M := Pl.partner_ments fun hc => ht (by rw [tt] at hc; simp [Pl.gW, Pl.enW, hc])
    unfold Pl.tipErr
    rw [if_neg (fun h => h hm), hp, he', if_neg (by simp), if_pos hin]
  | free i e s hf hs he ht =>
    obtain ⟨y, hy, rfl, hn, hm, hp⟩ := nm i s hf hs
    have he' : Pl.endAt (Pl.isPt y) t.c = some e := he
    obtain ⟨hl, hlt⟩ := Pl.letter_endAt he'
    have tt : t = Pl.tip y e := by cases t; simp at hn hl; simp [Pl.tip, hn, hl]
    rw [Pl.get_secG _ hlt] at ht
    have hno : t ∉ Pl.ments M := fun hc => by
      cases hpt : Pl.partner M (Pl.tip y e) with
      | none => exact Pl.partner_none.1 hpt (by rw [← tt]; exact hc)
      | some v =>
        simp only [Pl.gW, Pl.enW, hpt] at ht
        cases v with
        | none => cases ht
        | some u =>
          have : 0 ≤ Pl.pos (Pl.nmS M) u.n := by unfold Pl.pos; omega
          simp only at ht
          omega
    refine ⟨?_, fun _ => ⟨i, e, y, rfl, rfl, hy, hlt, tt⟩⟩
    exact (Pl.tipErr_zero.2 ⟨hm, by rw [hp, he']; rfl, hno⟩).symm
/-- The same behind a first end that is taken. -/
theorem freeIs_second {M : List It.Itm} {i e : Nat} {y : It.Itm} (hM : Pl.Ok M) (hy : (Pl.secs M)[i]? = some y) (he : e < Pl.nEnds (Pl.isPt y)) (h0 : Pl.tip y e ∉ Pl.ments M) {u : It.Tp} {a b c : Int}
    (h : FreeIs ((Pl.wS M).modify i (Pl.Sec.setTo e (-1))) u (a, b, c)) : c = Pl.tipErr M (Pl.ments M ++ [Pl.tip y e]) u ∧
    (c = 0 → ∃ (j f : Nat) (z : It.Itm), a = j ∧ b = f ∧ (Pl.secs M)[j]? = some z ∧ f < Pl.nEnds (Pl.isPt z) ∧ u = Pl.tip z f ∧ u ≠ Pl.tip y e ∧ u ∉ Pl.ments M) := by
  have he3 : e < 3 := by unfold Pl.nEnds at he; split at he <;> omega
  have names : ∀ k s, ((Pl.wS M).modify i (Pl.Sec.setTo e (-1)))[k]? = some s → ∃ s0, (Pl.wS M)[k]? = some s0 ∧ s.name = s0.name ∧ s.pt = s0.pt ∧ (∀ f, f < 3 → (k = i → f ≠ e) → s.get f = s0.get f) ∧ (k = i → (s.get e).goes = -1) := fun k s hk => by
    rw [Pl.modify_at] at hk
    by_cases hik : i = k
    · subst hik
      rw [if_pos rfl, Option.map_eq_some_iff] at hk
      obtain ⟨s0, h1, rfl⟩ := hk
      refine ⟨s0, h1, (put_pt _ _ _).2, (put_pt _ _ _).1, fun f hf hne => get_put_ne he3 hf (fun h => hne rfl h.symm) _, fun _ => ?_⟩
      unfold Pl.Sec.setTo
      rw [get_put he3]
    · rw [if_neg hik] at hk
      exact ⟨s, hk, rfl, rfl, fun _ _ _ => rfl, fun h => absurd h.symm hik⟩
  have findE : Pl.find ((Pl.wS M).modify i (Pl.Sec.setTo e (-1))) u.n = Pl.find (Pl.wS M) u.n := by
    have : ((Pl.wS M).modify i (Pl.Sec.setTo e (-1))).map Pl.Sec.name = (Pl.wS M).map Pl.Sec.name := by
      apply List.ext_getElem?
      intro k
      rw [List.getElem?_map, List.getElem?_map, Pl.modify_at]
      by_cases hik : i = k
      · rw [if_pos hik]
        cases (Pl.wS M)[k]? with
        | none => rfl
        | some s => simp only [Option.map_some]; rw [show (Pl.Sec.setTo e (-1) s).name = s.name from (put_pt _ _ _).2]
      · rw [if_neg hik]
    have gen : ∀ l : List Pl.Sec, (l.findIdx? fun s => decide (s.name = u.n)) = (l.map Pl.Sec.name).findIdx? fun a => decide (a = u.n) := fun l => by
      rw [List.findIdx?_map]; rfl
    unfold Pl.find
    rw [gen, gen, this]
  have old : ∀ k s, ((Pl.wS M).modify i (Pl.Sec.setTo e (-1)))[k]? = some s → Pl.find (Pl.wS M) u.n = (k : Nat) → ∃ z, (Pl.secs M)[k]? = some z ∧ s.pt = Pl.isPt z ∧ z.name = u.n ∧ u.n ∈ Pl.nmS M ∧ Pl.ptOf M u.n = Pl.isPt z ∧ (∀ f, f < Pl.nEnds (Pl.isPt z) → (k = i → f ≠ e) → s.get f = Pl.gW M (Pl.tip z f)) ∧ (k = i → (s.get e).goes = -1) := fun k s hk hf => by
    obtain ⟨s0, h1, h2, h3, h4, h5⟩ := names k s hk
    obtain ⟨z, hz, rfl⟩ := Pl.wS_at h1
    rcases Pl.find_wS (M := M) u.n with ⟨_, h⟩ | ⟨k', z', h, hz', hn⟩
    · rw [h] at hf; omega
    · rw [h] at hf
      obtain rfl : k' = k := by omega
      rw [hz] at hz'
      cases hz'
      have hm := List.mem_of_getElem? hz
      refine ⟨z, hz, h3, hn, Pl.mem_nmS.2 ⟨z, hm, hn⟩, by rw [← hn]; exact Pl.ptOf_eq hM.names hm, fun f hf hne => ?_, h5⟩
      have hf3 : f < 3 := by unfold Pl.nEnds at hf; split at hf <;> omega
      rw [h4 f hf3 hne, Pl.get_secG _ hf]
  cases h with
  | none hf =>
    rw [findE] at hf
    refine ⟨?_, fun h => by cases h⟩
    rcases Pl.find_wS (M := M) u.n with ⟨hn, _⟩ | ⟨k, y, h, _⟩
    · unfold Pl.tipErr; rw [if_pos hn]
    · rw [h] at hf; omega
  | noEnd k s hf hs hend =>
    rw [findE] at hf
    refine ⟨?_, fun h => by cases h⟩
    obtain ⟨z, hz, hp0, hn, hm, hp, _⟩ := old k s hs hf
    unfold Pl.tipErr
    rw [if_neg (fun h => h hm), hp, if_pos (by rw [← hp0]; exact hend)]
  | used k f s hf hs hend ht =>
    rw [findE] at hf
    refine ⟨?_, fun h => by cases h⟩
    obtain ⟨z, hz, hp0, hn, hm, hp, hg, _⟩ := old k s hs hf
    rw [hp0] at hend
    obtain ⟨hl, hlt⟩ := Pl.letter_endAt hend
    have tt : u = Pl.tip z f := by cases u; simp at hn hl; simp [Pl.tip, hn, hl]
    have hin : u ∈ Pl.ments M ++ [Pl.tip y e] := by
      by_cases hsame : k = i ∧ f = e
      · obtain ⟨rfl, rfl⟩ := hsame
        rw [hy] at hz
        cases hz
        rw [tt]; simp
      · have := hg f hlt fun h1 h2 => hsame ⟨h1, h2⟩
        rw [this] at ht
        exact List.mem_append_left _ (Pl.partner_ments fun hc => ht (by rw [tt] at hc; simp [Pl.gW, Pl.enW, hc]))
    unfold Pl.tipErr
    rw [if_neg (fun h => h hm), hp, hend, if_neg (by simp), if_pos hin]
  | free k f s hf hs hend ht =>
    rw [findE] at hf
    obtain ⟨z, hz, hp0, hn, hm, hp, hg, h1⟩ := old k s hs hf
    rw [hp0] at hend
    obtain ⟨hl, hlt⟩ := Pl.letter_endAt hend
    have tt : u = Pl.tip z f := by cases u; simp at hn hl; simp [Pl.tip, hn, hl]
    have hsame : ¬ (k = i ∧ f = e) := fun ⟨a, b⟩ => by subst b; rw [h1 a] at ht; cases ht
    have hg' := hg f hlt fun h1 h2 => hsame ⟨h1, h2⟩
    rw [hg'] at ht
    have hno : u ∉ Pl.ments M := fun hc => by
      cases hpt : Pl.partner M (Pl.tip z f) with
      | none => exact Pl.partner_none.1 hpt (by rw [← tt]; exact hc)
      | some v =>
        simp only [Pl.gW, Pl.enW, hpt] at ht
        cases v with
        | none => cases ht
        | some u' =>
          have : 0 ≤ Pl.pos (Pl.nmS M) u'.n := by unfold Pl.pos; omega
          simp only at ht
          omega
    have hne : u ≠ Pl.tip y e := fun hc => by
      rw [tt] at hc
      have hnm : z.name = y.name := congrArg It.Tp.n hc
      have hzy := Pl.uniq hM.names (List.mem_of_getElem? hz) (List.mem_of_getElem? hy) hnm
      subst hzy
      have hk : (k : Int) = i := by rw [← Pl.pos_sec hM.names hz, ← Pl.pos_sec hM.names hy]
      exact hsame ⟨by omega, Pl.letter_inj hlt he (congrArg It.Tp.c hc)⟩
    refine ⟨?_, fun _ => ⟨k, f, z, rfl, rfl, hz, hlt, tt, hne, hno⟩⟩
    exact (Pl.tipErr_zero.2 ⟨hm, by rw [hp, hend]; rfl, by simp [hno, hne]⟩).symm
end Go.Proofs.Ytbmmcmdopekccaa
/-
  The walk of the document's answer of layer 5: a join, a stop more.
-/
namespace Go.Proofs.Ytbmmcmdopekccaa
open Go.RowKit

/-- The work in memory, its slices told. -/
def WorkX (tw tS tG : TypeId) (w : World) (g : Nat) (M : List It.Itm) (vS vG : Value) (LS : List Pl.Sec) (LG : List Pl.Sig) : Prop :=
  w.heap[g]? = some (.cells (workCells M vS vG) tw (0, 0)) ∧ w.ownsRow (g + 1) tS LSec.m vS LS.length (LSec.all LS) ∧ w.ownsRow (g + 1) tG LSig.m vG LG.length (LSig.all LG) ∧ ∀ k, vS.ownBlock = some k → vG.ownBlock ≠ some k
theorem WorkX.below {tw tS tG : TypeId} {w w' : World} {g : Nat} {M : List It.Itm} {vS vG : Value} {LS : List Pl.Sec} {LG : List Pl.Sig} (h : WorkX tw tS tG w g M vS vG LS LG) (hb : Below w.heap.size w w') : WorkX tw tS tG w' g M vS vG LS LG := by
  obtain ⟨h1, h2, h3, h4⟩ := h
  exact ⟨(hb.block _ (Array.getElem?_eq_some_iff.1 h1).1).trans h1, ownsRow_below h2 hb, ownsRow_below h3 hb, h4⟩
theorem WorkX.drew {tw tS tG : TypeId} {w : World} {g : Nat} {M : List It.Itm} {vS vG : Value} {LS : List Pl.Sec} {LG : List Pl.Sig} (h : WorkX tw tS tG w g M vS vG LS LG) : WorkX tw tS tG w.drew g M vS vG LS LG :=
  ⟨h.1, h.2.1.drew, h.2.2.1.drew, h.2.2.2⟩
/-- One cell of one section is written. -/
theorem WorkX.store {tw tS tG : TypeId} {w : World} {g gb n cap : Nat} {M : List It.Itm} {vG : Value} {LS : List Pl.Sec} {LG : List Pl.Sig} (h : WorkX tw tS tG w g M (.slice (some ⟨gb, 0, none⟩) n cap) vG LS LG) {i j : Nat} {s : Pl.Sec} (hs : LS[i]? = some s) (hj : j < 12) (F : Pl.Sec → Pl.Sec) (u : Value) (hu : (secCells s).set j u = secCells (F s)) :
    WorkX tw tS tG (w.setCell ⟨gb, i * 12 + j, none⟩ u) g M (.slice (some ⟨gb, 0, none⟩) n cap) vG (LS.modify i F) LG := by
  obtain ⟨h1, h2, h3, h4⟩ := h
  have hn : n = LS.length := by
    rcases h2.2 with ⟨h, _⟩ | ⟨g', cap', cur, h, _⟩
    · cases h
    · cases h; rfl
  subst hn
  have hgb := h2.lt gb rfl
  have hne : gb ≠ g := by omega
  refine ⟨?_, ?_, ?_, h4⟩
  · rw [heap_setCell_other _ ⟨gb, i * 12 + j, none⟩ g u (by simpa using fun e => hne e.symm)]; exact h1
  · have := (h2.stored (i * 12 + j) u).1
    rw [all_modify LS i j F s hs hj u hu] at this
    rw [List.length_modify]
    exact this
  · refine own_kept h3 fun b hb => heap_setCell_other _ ⟨gb, i * 12 + j, none⟩ b u ?_
    have := h4 gb rfl
    simpa using fun e => this (by rw [hb, e])
theorem WorkX.slice {tw tS tG : TypeId} {w : World} {g : Nat} {M : List It.Itm} {vS vG : Value} {LS : List Pl.Sec} {LG : List Pl.Sig} (h : WorkX tw tS tG w g M vS vG LS LG) (hn : 0 < LS.length) : ∃ gb cap, vS = .slice (some ⟨gb, 0, none⟩) LS.length cap := by
  obtain ⟨gb, cap, e, _⟩ := h.2.1.form hn
  exact ⟨gb, cap, e⟩
/-- What a walk reads of the work, and of a section of it. -/
theorem WorkX.reads {tw tS tG : TypeId} {w : World} {g gb n cap : Nat} {M : List It.Itm} {vG : Value} {LS : List Pl.Sec} {LG : List Pl.Sig} (h : WorkX tw tS tG w g M (.slice (some ⟨gb, 0, none⟩) n cap) vG LS LG) {i e : Nat} {s : Pl.Sec} (hs : LS[i]? = some s) (he : e < 3) :
    w.cell? ⟨g, 4, none⟩ = some (.slice (some ⟨gb, 0, none⟩) n cap) ∧ w.cell? ⟨gb, i * 12 + 3 + e * 3, none⟩ = some (.int .i64 (s.get e).goes) ∧ w.cell? ⟨gb, i * 12 + 3 + e * 3 + 1, none⟩ = some (.int .i64 (s.get e).at_) ∧ w.cell? ⟨gb, i * 12 + 3 + e * 3 + 2, none⟩ = some (.int .i64 (s.get e).sig) ∧
      (∀ o, w.frozen? ⟨gb, o, none⟩ = false) ∧ g < w.heap.size ∧ gb < w.heap.size ∧ g < gb ∧ n = LS.length := by
  obtain ⟨h1, h2, h3, h4⟩ := h
  have hn : n = LS.length := by
    rcases h2.2 with ⟨h, _⟩ | ⟨g', cap', cur, h, _⟩
    · cases h
    · cases h; rfl
  subst hn
  have on := Lies.own_on h2 hs
  have hgb := h2.lt gb rfl
  exact ⟨(work_row h1).1.2.2.2.2.1, on_to on he, on_at on he, on_sig on he, fun o => h2.frozenAt o, (work_row h1).2.2.2, hgb.2, by omega, rfl⟩
theorem letter_ne {t : It.Tp} (h : Pl.TipG t) : t.c ≠ 0 := fun e => by
  have := h.2
  rw [e] at this
  cases this
set_option maxHeartbeats 8000000 in
set_option maxRecDepth 100000 in
theorem rpStop_any (g : Nat) (M : List It.Itm) (x : It.Itm) (w : World) (h : WorkAt 90 123 95 w g M) (hM : Pl.Ok M) (hr : It.right x = true) (h8 : x.k = 8) :
    Calls Try.prog 58 #[.pointer (some ⟨g, 0, none⟩), itemV x] w (LineGives 90 123 95 g M x (Pl.tipErr M (Pl.ments M) x.e0) w) := by
  have hc0 := letter_ne (Pl.right_stop hr h8).2
  have hl : (Pl.wS M).length ≤ 1000000 := by rw [Pl.wS_len]; have := hM.few; omega
  obtain ⟨vS, vG, hX⟩ : ∃ vS vG, WorkX 90 123 95 w g M vS vG (Pl.wS M) (Pl.wG M) := h
  have hg := (Array.getElem?_eq_some_iff.1 hX.1).1
  have X0 := Lib.hid ((Below.refl w.heap.size w).alloc (Nat.le_refl _) (.cells (item7 x) 84))
  obtain ⟨⟨k0, k1, k2, k3, k4, k5, k6⟩, -, g2⟩ := row7 (show (w.alloc (.cells (item7 x) 84)).heap[w.heap.size]? = some (.cells #[.int .i64 x.k, .string (txt x.name), .int .i64 x.n, .string (txt x.e0.n), .int .u8 x.e0.c.toNat, .string (txt x.e1.n), .int .u8 x.e1.c.toNat] 84 (0, 0)) from heap_alloc_new _ _)
  have FR := Lib.hid (rpFree_any g M (Pl.wS M) (Pl.wG M) x.e0 (w.alloc (.cells (item7 x) 84)) ⟨vS, vG, hX.below X0.out⟩ hl hc0)
  have hk8 : (x.k == 8) = true := by rw [beq_iff_eq]; exact h8
  have HX := Lib.hid hX
  have H8 := Lib.hid h8
  clear hX hc0 hl h8
  go_enter Try.func58, Try.ntmps58
  go_wp2_with fail
  refine FR.out.mono ?_; rintro e w1 ⟨a, b, c, rfl, hfree, hb1⟩
  obtain ⟨hcE, hcs⟩ := freeIs_err hM hfree
  have hb01 := X0.out.trans (hb1.mono X0.out.size)
  have hB := Lib.hid (hb01.mono (Nat.le_of_lt hg))
  by_cases hc : c = 0
  · obtain ⟨i, e, y, rfl, rfl, hy, he, ht⟩ := hcs hc
    subst hc
    have he3 : e < 3 := by unfold Pl.nEnds at he; split at he <;> omega
    have hX1 := HX.out.below hb01
    have hi := (List.getElem?_eq_some_iff.1 (Pl.wS_of hy)).1
    obtain ⟨gb, cap, rfl⟩ := hX1.slice (by omega)
    obtain ⟨s4, t0, -, -, fz, g1, gb1, ggb, -⟩ := hX1.reads (Pl.wS_of hy) he3
    have f0 := fz (i * 12 + 3 + e * 3)
    have hm : x.e0 ∉ Pl.ments M := (Pl.tipErr_zero.1 hcE.symm).2.2
    obtain ⟨e1, e2⟩ := Pl.w_stop hM H8.out hm hy he ht
    have kk0 := (hb1.cell (show (⟨w.heap.size, 0, none⟩ : Addr).block < (w.alloc (.cells (item7 x) 84)).heap.size from g2)).trans k0
    have kne : w.heap.size ≠ gb := fun e => by have := (HX.out.2.1.lt gb rfl).2; omega
    have st := hX1.store (Pl.wS_of hy) (j := 3 + e * 3) (by omega) (Pl.Sec.setTo e (-1)) (.int .i64 (-1)) (setTo_cells he3 (-1) _)
    rw [← Nat.add_assoc] at st
    have ST := Lib.hid st
    have BF := Lib.hid (hB.out.setCell (p := ⟨gb, i * 12 + 3 + e * 3, none⟩) (Nat.le_of_lt ggb) (.int .i64 (-1)))
    have hCE := Lib.hid hcE
    have E1 := Lib.hid e1
    have E2 := Lib.hid e2
    clear st hfree hcs hb1 hb01 hX1 hy ht e1 e2 hm hcE hM fz
    go_wp2_with fail
    go_ret
    refine ⟨by rw [← hCE.out]; rfl, fun _ => ?_, BF.out⟩
    refine ⟨.slice (some ⟨gb, 0, none⟩) (Pl.wS M).length cap, vG, ?_, ?_, ?_, ?_⟩
    · rw [cells_keep (by unfold It.isNum; rw [H8.out]; decide)]; exact ST.out.1
    · rw [E1.out]; exact ST.out.2.1
    · rw [E2.out]; exact ST.out.2.2.1
    · exact ST.out.2.2.2
  · have hcn : (c != 0) = true := by rw [bne_iff_ne]; exact hc
    have hCE := Lib.hid hcE
    clear hfree hcs hb1 hb01 hcE hM
    go_wp2_with fail
    go_ret
    exact ⟨by rw [← hCE.out]; rfl, fun h => absurd (hCE.out.trans h) hc, hB.out⟩
end Go.Proofs.Ytbmmcmdopekccaa
/-
  The walk of the document's answer of layer 5: a join more.
-/
namespace Go.Proofs.Ytbmmcmdopekccaa
open Go.RowKit

theorem WorkX.work {tw tS tG : TypeId} {w : World} {g : Nat} {M : List It.Itm} {vS vG : Value} {LS : List Pl.Sec} {LG : List Pl.Sig} (h : WorkX tw tS tG w g M vS vG LS LG) : WorkL tw tS tG w g M LS LG := ⟨vS, vG, h⟩
theorem WorkX.next {tw tS tG : TypeId} {w : World} {g : Nat} {M : List It.Itm} {x : It.Itm} {vS vG : Value} {LS : List Pl.Sec} {LG : List Pl.Sig} (h : WorkX tw tS tG w g M vS vG LS LG) (hk : It.isNum x.k = false) (e1 : Pl.wS (M ++ [x]) = LS) (e2 : Pl.wG (M ++ [x]) = LG) : WorkAt tw tS tG w g (M ++ [x]) := by
  subst e1 e2
  obtain ⟨h1, h2, h3, h4⟩ := h
  exact ⟨vS, vG, by rw [cells_keep hk]; exact h1, h2, h3, h4⟩
theorem joinErr_first {M : List It.Itm} {x : It.Itm} (h : Pl.tipErr M (Pl.ments M) x.e0 ≠ 0) : Pl.joinErr M x = Pl.tipErr M (Pl.ments M) x.e0 := by unfold Pl.joinErr; rw [if_pos h]
theorem joinErr_second {M : List It.Itm} {x : It.Itm} (h : Pl.tipErr M (Pl.ments M) x.e0 = 0) : Pl.joinErr M x = Pl.tipErr M (Pl.ments M ++ [x.e0]) x.e1 := by unfold Pl.joinErr; rw [if_neg (fun hc => hc h)]
set_option maxHeartbeats 8000000 in
set_option maxRecDepth 100000 in
theorem rpJoin_any (g : Nat) (M : List It.Itm) (x : It.Itm) (w : World) (h : WorkAt 90 123 95 w g M) (hM : Pl.Ok M) (hr : It.right x = true) (h7 : x.k = 7) :
    Calls Try.prog 58 #[.pointer (some ⟨g, 0, none⟩), itemV x] w (LineGives 90 123 95 g M x (Pl.joinErr M x) w) := by
  have hc0 := letter_ne (Pl.right_join hr h7).2.1
  have hc1 := letter_ne (Pl.right_join hr h7).2.2
  have hl : (Pl.wS M).length ≤ 1000000 := by rw [Pl.wS_len]; have := hM.few; omega
  obtain ⟨vS, vG, hX⟩ : ∃ vS vG, WorkX 90 123 95 w g M vS vG (Pl.wS M) (Pl.wG M) := h
  have hg := (Array.getElem?_eq_some_iff.1 hX.1).1
  have X0 := Lib.hid ((Below.refl w.heap.size w).alloc (Nat.le_refl _) (.cells (item7 x) 84))
  obtain ⟨⟨k0, k1, k2, k3, k4, k5, k6⟩, -, g2⟩ := row7 (show (w.alloc (.cells (item7 x) 84)).heap[w.heap.size]? = some (.cells #[.int .i64 x.k, .string (txt x.name), .int .i64 x.n, .string (txt x.e0.n), .int .u8 x.e0.c.toNat, .string (txt x.e1.n), .int .u8 x.e1.c.toNat] 84 (0, 0)) from heap_alloc_new _ _)
  have FR := Lib.hid (rpFree_any g M (Pl.wS M) (Pl.wG M) x.e0 (w.alloc (.cells (item7 x) 84)) ⟨vS, vG, hX.below X0.out⟩ hl hc0)
  have FR2 := Lib.hid (fun W L (hW : WorkL 90 123 95 W g M L (Pl.wG M)) (hL : L.length = (Pl.wS M).length) => rpFree_any g M L (Pl.wG M) x.e1 W hW (by omega) hc1)
  have hk8 : (x.k == 8) = false := by rw [beq_eq_false_iff_ne]; omega
  have HX := Lib.hid hX
  have H7 := Lib.hid h7
  clear hX hc0 hc1 hl h7
  go_enter Try.func58, Try.ntmps58
  go_wp2_with fail
  refine FR.out.mono ?_; rintro e w1 ⟨a, b, c, rfl, hfree, hb1⟩
  obtain ⟨hcE, hcs⟩ := freeIs_err hM hfree
  have hb01 := X0.out.trans (hb1.mono X0.out.size)
  have hB := Lib.hid (hb01.mono (Nat.le_of_lt hg))
  by_cases hc : c = 0
  · obtain ⟨i, e, y, rfl, rfl, hy, he, ht⟩ := hcs hc
    subst hc
    have he3 : e < 3 := by unfold Pl.nEnds at he; split at he <;> omega
    have hX1 := HX.out.below hb01
    have hi := (List.getElem?_eq_some_iff.1 (Pl.wS_of hy)).1
    obtain ⟨gb, cap, rfl⟩ := hX1.slice (by omega)
    obtain ⟨s4, t0, -, -, fz, g1, gb1, ggb, -⟩ := hX1.reads (Pl.wS_of hy) he3
    have f0 := fz (i * 12 + 3 + e * 3)
    have hm : x.e0 ∉ Pl.ments M := (Pl.tipErr_zero.1 hcE.symm).2.2
    have hbw : w.heap.size < w1.heap.size := Nat.lt_of_lt_of_le g2 hb1.size
    have keepc : ∀ o, w1.cell? ⟨w.heap.size, o, none⟩ = (w.alloc (.cells (item7 x) 84)).cell? ⟨w.heap.size, o, none⟩ := fun o => hb1.cell (show (⟨w.heap.size, o, none⟩ : Addr).block < (w.alloc (.cells (item7 x) 84)).heap.size from g2)
    have q0 := (keepc 0).trans k0
    have q5 := (keepc 5).trans k5
    have q6 := (keepc 6).trans k6
    have kne : w.heap.size ≠ gb := fun e => by have := (HX.out.2.1.lt gb rfl).2; omega
    have st := hX1.store (Pl.wS_of hy) (j := 3 + e * 3) (by omega) (Pl.Sec.setTo e (-1)) (.int .i64 (-1)) (setTo_cells he3 (-1) _)
    rw [← Nat.add_assoc] at st
    have F2 := Lib.hid (FR2.out _ _ st.work (List.length_modify ..))
    have ST := Lib.hid st
    have BF := Lib.hid (hB.out.setCell (p := ⟨gb, i * 12 + 3 + e * 3, none⟩) (Nat.le_of_lt ggb) (.int .i64 (-1)))
    have hCE := Lib.hid hcE
    have HM := Lib.hid hM
    have HY := Lib.hid hy
    have HT := Lib.hid ht
    have HE := Lib.hid he
    have HMm := Lib.hid hm
    clear st hfree hcs hb1 hb01 hX1 hy ht hm hcE hM fz keepc he
    go_wp2_with fail
    refine F2.out.mono ?_; rintro e' w2 ⟨a2, b2, c2, rfl, hfree2, hb2⟩
    obtain ⟨hcE2, hcs2⟩ := freeIs_second HM.out HY.out HE.out (by rw [← HT.out]; exact HMm.out) hfree2
    rw [← HT.out] at hcE2
    have BF2 := Lib.hid (BF.out.trans (hb2.mono (by simp; omega)))
    have JE := Lib.hid (joinErr_second hCE.out.symm)
    by_cases hc2 : c2 = 0
    · obtain ⟨j, f, z, rfl, rfl, hz, hf, hu, hne, hm1⟩ := hcs2 hc2
      subst hc2
      have hf3 : f < 3 := by unfold Pl.nEnds at hf; split at hf <;> omega
      have hX2 := ST.out.below hb2
      have hs1 : ((Pl.wS M).modify i (Pl.Sec.setTo e (-1)))[i]? = some (Pl.Sec.setTo e (-1) (Pl.secG (Pl.gW M) y)) := by rw [Pl.modify_at, if_pos rfl, Pl.wS_of HY.out]; rfl
      obtain ⟨S4, T0, T1, -, fz2, G1, GB1, -, -⟩ := hX2.reads hs1 he3
      have fa := fz2 (i * 12 + 3 + e * 3)
      have fb := fz2 (i * 12 + 3 + e * 3 + 1)
      have HX2 := Lib.hid hX2
      have hj := (List.getElem?_eq_some_iff.1 (Pl.wS_of hz)).1
      have hCE2 := Lib.hid hcE2
      have HZ := Lib.hid hz
      have HU := Lib.hid hu
      have HNE := Lib.hid hne
      have HM1 := Lib.hid hm1
      have HF := Lib.hid hf
      have HS1 := Lib.hid hs1
      clear s4 t0 f0 hfree2 hcs2 hb2 hX2 fz2 hcE2 hz hu hne hm1 hf hs1
      go_wp2_with fail
      go_region
      have sa := HX2.out.store HS1.out (j := 3 + e * 3) (by omega) (Pl.Sec.setTo e j) (.int .i64 j) (setTo_cells he3 j _)
      have hs2 : (((Pl.wS M).modify i (Pl.Sec.setTo e (-1))).modify i (Pl.Sec.setTo e j))[i]? = some (Pl.Sec.setTo e j (Pl.Sec.setTo e (-1) (Pl.secG (Pl.gW M) y))) := by rw [Pl.modify_at, if_pos rfl, HS1.out]; rfl
      have sb := sa.store hs2 (j := 3 + e * 3 + 1) (by omega) (Pl.Sec.setAt e f) (.int .i64 f) (setAt_cells he3 f _)
      rw [← Nat.add_assoc, ← Nat.add_assoc, ← Nat.add_assoc] at sb
      obtain ⟨t3, ht3⟩ : ∃ t3, ((((Pl.wS M).modify i (Pl.Sec.setTo e (-1))).modify i (Pl.Sec.setTo e j)).modify i (Pl.Sec.setAt e f))[j]? = some t3 := ⟨_, List.getElem?_eq_getElem (by simpa using hj)⟩
      obtain ⟨S4b, T0b, T1b, -, fz3, G1b, GB1b, -, -⟩ := sb.reads ht3 hf3
      have fc := fz3 (j * 12 + 3 + f * 3)
      have fd := fz3 (j * 12 + 3 + f * 3 + 1)
      have sc := sb.store ht3 (j := 3 + f * 3) (by omega) (Pl.Sec.setTo f i) (.int .i64 i) (setTo_cells hf3 i _)
      have hs4 : (((((Pl.wS M).modify i (Pl.Sec.setTo e (-1))).modify i (Pl.Sec.setTo e j)).modify i (Pl.Sec.setAt e f)).modify j (Pl.Sec.setTo f i))[j]? = some (Pl.Sec.setTo f i t3) := by rw [Pl.modify_at, if_pos rfl, ht3]; rfl
      have sd := sc.store hs4 (j := 3 + f * 3 + 1) (by omega) (Pl.Sec.setAt f e) (.int .i64 e) (setAt_cells hf3 e _)
      rw [← Nat.add_assoc, ← Nat.add_assoc, ← Nat.add_assoc] at sd
      have SD := Lib.hid sd
      clear S4 T0 T1 fa fb fz3 sa hs2 sb sc hs4 sd ht3
      have BF3 := (BF2.out.setCell (p := ⟨gb, i * 12 + 3 + e * 3, none⟩) (Nat.le_of_lt ggb) (.int .i64 j)).setCell (p := ⟨gb, i * 12 + 3 + e * 3 + 1, none⟩) (Nat.le_of_lt ggb) (.int .i64 f)
      generalize (w2.setCell ⟨gb, i * 12 + 3 + e * 3, none⟩ (.int .i64 j)).setCell ⟨gb, i * 12 + 3 + e * 3 + 1, none⟩ (.int .i64 f) = W3 at S4b T0b T1b fc fd G1b GB1b SD BF3 ⊢
      have BF5 := Lib.hid ((BF3.setCell (p := ⟨gb, j * 12 + 3 + f * 3, none⟩) (Nat.le_of_lt ggb) (.int .i64 i)).setCell (p := ⟨gb, j * 12 + 3 + f * 3 + 1, none⟩) (Nat.le_of_lt ggb) (.int .i64 e))
      clear BF3
      go_wp2_with fail
      go_region
      go_wp2_with fail
      go_ret
      have hys := Pl.wS_of HY.out
      have hzs := Pl.wS_of HZ.out
      have hij : i = j → e ≠ f := fun h1 h2 => by
        subst h1 h2
        have := HZ.out.symm.trans HY.out
        cases this
        exact HNE.out HU.out
      obtain ⟨e1, e2⟩ := Pl.w_join HM.out H7.out HMm.out HM1.out (by rw [HT.out]; exact fun h => HNE.out h.symm) HY.out HZ.out HE.out HF.out HT.out HU.out
      have e3 := join_list hys hzs he3 hf3 hij j f i e _ _ (by rw [Pl.get_secG _ HE.out]) (by rw [Pl.get_secG _ HF.out])
      exact ⟨by rw [JE.out, ← hCE2.out]; rfl, fun _ => SD.out.drew.drew.next (by unfold It.isNum; rw [H7.out]; decide) (e1.trans e3.symm) e2, BF5.out.drew.drew⟩
    · have hcn : (c2 != 0) = true := by rw [bne_iff_ne]; exact hc2
      have hCE2 := Lib.hid hcE2
      clear hfree2 hcs2 hb2 hcE2
      go_wp2_with fail
      go_ret
      exact ⟨by rw [JE.out, ← hCE2.out]; rfl, fun h => absurd (hCE2.out.trans (JE.out.symm.trans h)) hc2, BF2.out⟩
  · have hcn : (c != 0) = true := by rw [bne_iff_ne]; exact hc
    have hCE := Lib.hid (hcE.trans (joinErr_first (by rw [← hcE]; exact hc)).symm)
    clear hfree hcs hb1 hb01 hcE hM
    go_wp2_with fail
    go_ret
    exact ⟨by rw [← hCE.out]; rfl, fun h => absurd (hCE.out.trans h) hc, hB.out⟩
end Go.Proofs.Ytbmmcmdopekccaa
/-
  The walk of the document's answer of layer 5: a signal more.
-/
namespace Go.Proofs.Ytbmmcmdopekccaa
open Go.RowKit

theorem infoSig : (Try.prog.info? 95).map (fun i => (i.zero, i.size, i.bytes)) = some (some (.agg #[.string ⟨#[]⟩, .int .i64 0, .int .i64 0]), 3, 32) := by kernel_rfl
/-- The named end's error is what may not be of an end, if none is used. -/
theorem endI_err {M : List It.Itm} (hM : Pl.Ok M) (t : It.Tp) : (endI (Pl.wS M) t).2.2 = Pl.tipErr M [] t ∧
    ((endI (Pl.wS M) t).2.2 = 0 → ∃ (i e : Nat) (y : It.Itm), endI (Pl.wS M) t = ((i : Int), (e : Int), 0) ∧ (Pl.secs M)[i]? = some y ∧ e < Pl.nEnds (Pl.isPt y) ∧ t = Pl.tip y e) := by
  rcases Pl.find_wS (M := M) t.n with ⟨hn, hf⟩ | ⟨i, y, hf, hy, hn⟩
  · rw [endI_no (by rw [hf]; decide)]
    exact ⟨by unfold Pl.tipErr; rw [if_pos hn], fun h => by cases h⟩
  · have hm := List.mem_of_getElem? hy
    have hin : t.n ∈ Pl.nmS M := Pl.mem_nmS.2 ⟨y, hm, hn⟩
    have hp : Pl.ptOf M t.n = Pl.isPt y := by rw [← hn]; exact Pl.ptOf_eq hM.names hm
    rw [endI_at hf (Pl.wS_of hy)]
    cases he : Pl.endAt (Pl.secG (Pl.gW M) y).pt t.c with
    | none =>
      refine ⟨?_, fun h => by cases h⟩
      unfold Pl.tipErr
      rw [if_neg (fun h => h hin), hp, if_pos (show Pl.endAt (Pl.isPt y) t.c = none from he)]
    | some e =>
      obtain ⟨hl, hlt⟩ := Pl.letter_endAt (show Pl.endAt (Pl.isPt y) t.c = some e from he)
      have tt : t = Pl.tip y e := by cases t; simp at hn hl; simp [Pl.tip, hn, hl]
      exact ⟨(Pl.tipErr_zero.2 ⟨hin, by rw [hp, show Pl.endAt (Pl.isPt y) t.c = some e from he]; rfl, by simp⟩).symm, fun _ => ⟨i, e, y, rfl, hy, hlt, tt⟩⟩
theorem WorkX.signals {tw tS tG : TypeId} {w w1 w2 : World} {g : Nat} {M : List It.Itm} {vS vG v' : Value} {LS : List Pl.Sec} {LG : List Pl.Sig} {z : Pl.Sig} {g' cap' : Nat} (h : WorkX tw tS tG w g M vS vG LS LG)
    (hb : Below w.heap.size w w1) (hgr : w1.grownBy w2 vG.ownBlock) (hv : v' = .slice (some ⟨g', 0, none⟩) (LG.length + 1) cap') (hown : w2.ownsRow (g + 1) tG LSig.m v' (LG.length + 1) (LSig.all LG ++ LSig.enc z)) (hg' : vG.ownBlock = some g' ∨ w.heap.size ≤ g') :
    WorkX tw tS tG (w2.setCell ⟨g, 5, none⟩ v') g M vS v' LS (LG ++ [z]) ∧ Below g w (w2.setCell ⟨g, 5, none⟩ v') := by
  obtain ⟨hrow, hS, hG, hap⟩ := h
  have hg := (Array.getElem?_eq_some_iff.1 hrow).1
  have hbs := hb.size
  have hne : some g ≠ vG.ownBlock := fun e => by have := (hG.lt g e.symm).1; omega
  have row2 : w2.heap[g]? = some (.cells (workCells M vS vG) tw (0, 0)) := by rw [hgr.block g (by omega) hne, hb.block g hg]; exact hrow
  refine ⟨⟨?_, ?_, ?_, ?_⟩, ?_⟩
  · rw [heap_setCell_same _ _ _ _ _ _ row2]; rfl
  · refine ownsRow_setCell_below (own_kept hS fun b hb' => ?_) (a := ⟨g, 5, none⟩) (by show g < g + 1; omega) v'
    have hlt := (hS.lt b hb').2
    rw [hgr.block b (by omega) (fun e => hap b hb' e.symm), hb.block b hlt]
  · rw [List.length_append, List.length_singleton, LSig.all_append, LSig.all_one]
    exact ownsRow_setCell_below hown (a := ⟨g, 5, none⟩) (by show g < g + 1; omega) v'
  · subst hv
    intro k hk1 hk2
    have : g' = k := by simpa [Value.ownBlock] using hk2
    subst this
    rcases hg' with h | h
    · exact hap g' hk1 h
    · have := (hS.lt g' hk1).2; omega
  · have hb' : Below g w w1 := hb.mono (Nat.le_of_lt hg)
    exact (hb'.grown hgr (by omega) (fun k hk => by have := (hG.lt k hk).1; omega)).setCell (Nat.le_refl _) _
theorem nmG_next {L : List Pl.Sig} {nm : List UInt8} {k : Nat} (hk : k < L.length) (h0 : ∀ j < k, ∀ t, L[j]? = some t → t.name ≠ nm) (h : L[k].name ≠ nm) : ∀ j < k + 1, ∀ t, L[j]? = some t → t.name ≠ nm := fun j hj t ht => by
  rcases Nat.lt_or_ge j k with h1 | h1
  · exact h0 j h1 t ht
  · obtain rfl : j = k := by omega
    rw [List.getElem?_eq_getElem hk] at ht
    cases ht
    exact h
theorem wG_name {M : List It.Itm} {nm : List UInt8} {k : Nat} (hk : k < (Pl.wG M).length) (h : (Pl.wG M)[k].name = nm) : nm ∈ Pl.nmG M := by
  have hm := List.getElem_mem hk
  obtain ⟨x, hx, e⟩ := List.mem_map.1 hm
  rw [← e] at h
  exact List.mem_map.2 ⟨x, hx, h⟩
theorem wG_no {M : List It.Itm} {nm : List UInt8} (h : ∀ j < (Pl.wG M).length, ∀ t, (Pl.wG M)[j]? = some t → t.name ≠ nm) : nm ∉ Pl.nmG M := fun hm => by
  obtain ⟨x, hx, e⟩ := List.mem_map.1 hm
  obtain ⟨j, hj, hjx⟩ := List.getElem_of_mem (List.mem_map_of_mem (f := Pl.sigW (Pl.pos (Pl.nmS M)) M) hx)
  exact h j hj _ (List.getElem?_eq_getElem hj) (by
    show ((Pl.sigs M).map (Pl.sigW (Pl.pos (Pl.nmS M)) M))[j].name = nm
    rw [hjx]; exact e)
set_option maxHeartbeats 8000000 in
set_option maxRecDepth 100000 in
theorem rpSignal_any (g : Nat) (M : List It.Itm) (x : It.Itm) (w : World) (h : WorkAt 90 123 95 w g M) (hM : Pl.Ok M) (hr : It.right x = true) (h9 : x.k = 9) :
    Calls Try.prog 59 #[.pointer (some ⟨g, 0, none⟩), itemV x] w (LineGives 90 123 95 g M x (Pl.sigErr M x) w) := by
  obtain ⟨i0, hi, hz0, hz1, hz2⟩ := info_parts infoSig
  have hc0 := letter_ne (Pl.right_sig hr h9).2.2
  have hl : (Pl.wS M).length ≤ 1000000 := by rw [Pl.wS_len]; have := hM.few; omega
  have hlG : (Pl.wG M).length ≤ 12 := by rw [Pl.wG_len]; exact hM.gfew
  obtain ⟨vS, vG, hX⟩ : ∃ vS vG, WorkX 90 123 95 w g M vS vG (Pl.wS M) (Pl.wG M) := h
  have hg := (Array.getElem?_eq_some_iff.1 hX.1).1
  obtain ⟨-, A, cp, rfl, -, hR⟩ := Lies.Row.of_own hX.2.1
  obtain ⟨-, A', cp', rfl, -, hR'⟩ := Lies.Row.of_own hX.2.2.1
  have X0 := Lib.hid ((Below.refl w.heap.size w).alloc (Nat.le_refl _) (.cells (item7 x) 84))
  have R0 := Lib.hid (show (w.alloc (.cells (item7 x) 84)).heap[w.heap.size]? = some (.cells #[.int .i64 x.k, .string (txt x.name), .int .i64 x.n, .string (txt x.e0.n), .int .u8 x.e0.c.toNat, .string (txt x.e1.n), .int .u8 x.e1.c.toNat] 84 (0, 0)) from heap_alloc_new _ _)
  have g2 : w.heap.size < (w.alloc (.cells (item7 x) 84)).heap.size := (row7 R0.out).2.2
  have HX := Lib.hid hX
  have H9 := Lib.hid h9
  have HR := Lib.hid hR
  have EN := Lib.hid (fun W0 W (h0 : Below w.heap.size w W0) (h : Below W0.heap.size W0 W) => Made.of h (rpEnd_any A cp (Pl.wS M) x.e0 W ((hR.below rfl h0).below rfl h) hl hc0))
  have EE := Lib.hid (endI_err hM x.e0)
  have HM := Lib.hid hM
  clear hX hc0 hR h9 hM
  go_enter Try.func59, Try.ntmps59
  go_wp2_with fail
  go_loopw [5] (fun v wr => ∃ k : Nat, k ≤ (Pl.wG M).length ∧ v = .int .i64 k ∧ (∀ j < k, ∀ t, (Pl.wG M)[j]? = some t → t.name ≠ x.name) ∧ Below (w.alloc (.cells (item7 x) 84)).heap.size (w.alloc (.cells (item7 x) 84)) wr) (fun v _ => (Pl.wG M).length - (intOf v).toNat)
  case atStart => exact ⟨0, Nat.zero_le _, rfl, fun j hj => absurd hj (by omega), Below.refl _ _⟩
  case round =>
    obtain ⟨k, hk, rfl, h0, hbel⟩ := hrel
    have H0 := Lib.hid h0
    clear h0
    have hbw := X0.out.trans (hbel.mono (Nat.le_of_lt g2))
    have hz := hbel.size
    have g3 : w.heap.size < wr.heap.size := Nat.lt_of_lt_of_le g2 hz
    obtain ⟨⟨m0, m1, m2, m3, m4, m5, m6⟩, -, -⟩ := row7 ((hbel.block _ g2).trans R0.out)
    have hXr := HX.out.below hbw
    obtain ⟨⟨-, -, -, -, s4, s5⟩, -, fzg, g1⟩ := work_row hXr.1
    have HXr := Lib.hid hXr
    have HBW := Lib.hid hbw
    have HBG := Lib.hid (hbw.mono (Nat.le_of_lt hg))
    clear hXr
    by_cases hlt : k < (Pl.wG M).length
    · obtain ⟨b, o, rfl, hb, on⟩ := (hR'.below rfl hbw).at hlt
      have n0 := (sig_on on).1
      rw [show k * LSig.m = k * 3 from rfl] at n0
      clear on hbw
      by_cases he : (Pl.wG M)[k].name = x.name
      · have h1 := txt_eqB he
        have P := Lib.hid (show Pl.sigErr M x = 3 by unfold Pl.sigErr; rw [if_pos (wG_name hlt he)])
        clear he
        go_wp2_with fail
        go_region
        go_wp2_with fail
        go_ret
        exact ⟨by rw [P.out]; rfl, (fun h => by rw [P.out] at h; cases h), HBG.out.drew⟩
      · have h1 := txt_neB he
        have N := Lib.hid (nmG_next hlt H0.out he)
        clear he
        go_wp2_with fail
        go_region
        go_wp2_with fail
        go_roundw
        case rel => exact ⟨k + 1, by omega, by go_num, N.out, hbel.drew⟩
        case measure => simp [intOf]; omega
    · have NG := Lib.hid (wG_no (M := M) (nm := x.name) fun j hj => H0.out j (by omega))
      clear hbw
      obtain ⟨hE1, hE2⟩ := EE.out
      obtain ⟨ta, tb, tc, hend⟩ : ∃ a b c, endI (Pl.wS M) x.e0 = (a, b, c) := ⟨_, _, _, rfl⟩
      rw [hend] at hE1 hE2
      have EN2 := Lib.hid (fun W (h : Below wr.heap.size wr W) => EN.out wr W HBW.out h)
      rw [hend] at EN2
      have SE : Pl.sigErr M x = if tc ≠ 0 then tc else if (Pl.sigAt M x.e0).isSome then 3 else if (Pl.sigs M).length = 12 then 9 else 0 := by
        unfold Pl.sigErr
        rw [if_neg NG.out, ← show tc = Pl.tipErr M [] x.e0 from hE1]
      have HSE := Lib.hid SE
      have HE2 := Lib.hid hE2
      clear SE hE1 hE2 hend EN EE
      go_wp2_with fail
      go_region_held3 (fun w' => w'.cell? ⟨g, 4, none⟩ = some (.slice A (Pl.wS M).length cp) ∧ w'.cell? ⟨w.heap.size, 3, none⟩ = some (.string (txt x.e0.n)) ∧ w'.cell? ⟨w.heap.size, 4, none⟩ = some (.int .u8 x.e0.c.toNat))
        (first | exact ⟨s4, m3, m4⟩ | exact ⟨(hcell _ _ g1).trans s4, (hcell _ _ g3).trans m3, (hcell _ _ g3).trans m4⟩)
        (first
          | (go_at_call 62; (with_reducible refine (EN2.out _ (Below.refl _ _).drew).mono ?_); rintro e w' ⟨rfl, hbl, hacc, hzz⟩; have hcell := (bcell hbl).1))
      by_cases hc : tc = 0
      · obtain ⟨i, e, y, he0, hy, he, ht⟩ := HE2.out hc
        obtain ⟨rfl, rfl, rfl⟩ : ta = (i : Int) ∧ tb = (e : Int) ∧ tc = 0 := by cases he0; exact ⟨rfl, rfl, rfl⟩
        have he3 : e < 3 := by unfold Pl.nEnds at he; split at he <;> omega
        have hX2 := HXr.out.below hacc
        have hin := (List.getElem?_eq_some_iff.1 (Pl.wS_of hy)).1
        obtain ⟨gb, cap, hvs⟩ := hX2.slice (by omega)
        obtain ⟨rfl, rfl⟩ : A = some ⟨gb, 0, none⟩ ∧ cp = cap := by cases hvs; exact ⟨rfl, rfl⟩
        obtain ⟨S4, -, -, SG, fz, G1, GB1, ggb, -⟩ := hX2.reads (Pl.wS_of hy) he3
        rw [Pl.get_secG _ he] at SG
        have fs := fz (i * 12 + 3 + e * 3 + 2)
        have S5 := (work_row hX2.1).1.2.2.2.2.2
        have F5 := (work_row hX2.1).2.2.1 5
        have M1 := (hacc.cell (show (⟨w.heap.size, 1, none⟩ : Addr).block < wr.heap.size from g3)).trans m1
        have BF := Lib.hid (HBG.out.trans (hacc.mono (Nat.le_of_lt g1)))
        have HX2 := Lib.hid hX2
        have HY := Lib.hid hy
        have HT := Lib.hid ht
        have HE := Lib.hid he
        clear hvs he0 hX2 hbl hacc hzz hcell s4 s5 m0 m1 m2 m3 m4 m5 m6 hbel hy ht he fz fzg hR'
        cases hsg : Pl.sigAt M x.e0 with
        | some nm =>
          have P := Lib.hid (show Pl.sigErr M x = 3 by rw [HSE.out, if_neg (by simp), hsg]; rfl)
          have hv : (Pl.gW M (Pl.tip y e)).sig = Pl.pos (Pl.nmG M) nm := by rw [← HT.out]; simp only [Pl.gW, Pl.enW, hsg]
          have hd : decide (0 ≤ Pl.pos (Pl.nmG M) nm) = true := dec_t (by unfold Pl.pos; omega)
          rw [hv] at SG
          clear hv hsg
          go_wp2_with fail
          go_ret
          exact ⟨by rw [P.out]; rfl, (fun h => by rw [P.out] at h; cases h), BF.out⟩
        | none =>
          have hv : (Pl.gW M (Pl.tip y e)).sig = -1 := by rw [← HT.out]; simp only [Pl.gW, Pl.enW, hsg]
          rw [hv] at SG
          by_cases h12 : (Pl.sigs M).length = 12
          · have q12 : (((Pl.wG M).length : Int) == 12) = true := by rw [beq_iff_eq, Pl.wG_len]; omega
            have P := Lib.hid (show Pl.sigErr M x = 9 by rw [HSE.out, if_neg (by simp), hsg, if_neg (by simp), if_pos h12])
            clear hv hsg h12
            go_wp2_with fail
            go_ret
            exact ⟨by rw [P.out]; rfl, (fun h => by rw [P.out] at h; cases h), BF.out⟩
          · have q12 : (((Pl.wG M).length : Int) == 12) = false := by rw [beq_eq_false_iff_ne, Pl.wG_len]; omega
            have P := Lib.hid (show Pl.sigErr M x = 0 by rw [HSE.out, if_neg (by simp), hsg, if_neg (by simp), if_neg h12])
            have HSG := Lib.hid hsg
            clear hv hsg h12
            have gbw := (HX.out.2.1.lt gb rfl).2
            go_wp2_with fail
            go_region
            have st := HX2.out.store (Pl.wS_of HY.out) (j := 3 + e * 3 + 2) (by omega) (Pl.Sec.setSig e (Pl.wG M).length) (.int .i64 (Pl.wG M).length) (setSig_cells he3 _ _)
            rw [← Nat.add_assoc, ← Nat.add_assoc] at st
            have st2 := st.drew
            have B3 := Below.drew (BF.out.setCell (p := ⟨gb, i * 12 + 3 + e * 3 + 2, none⟩) (Nat.le_of_lt ggb) (.int .i64 (Pl.wG M).length))
            have M3 : ((w'.setCell ⟨gb, i * 12 + 3 + e * 3 + 2, none⟩ (.int .i64 (Pl.wG M).length)).drew).cell? ⟨w.heap.size, 1, none⟩ = some (.string (txt x.name)) :=
              (World.cell?_of_block (a := ⟨w.heap.size, 1, none⟩) (heap_setCell_other w' ⟨gb, i * 12 + 3 + e * 3 + 2, none⟩ w.heap.size (.int .i64 (Pl.wG M).length) (by simpa using fun e => by omega))).trans M1
            generalize (w'.setCell ⟨gb, i * 12 + 3 + e * 3 + 2, none⟩ (.int .i64 (Pl.wG M).length)).drew = WR at st2 B3 M3 ⊢
            obtain ⟨⟨-, -, -, -, -, Z5⟩, -, fzr, gz⟩ := work_row st2.1
            have ZF := fzr 5
            have HX3 := Lib.hid st2
            have HB3 := Lib.hid B3
            have NW := Lib.hid (show ∀ j u, ([.string (txt x.name), .int .i64 i, .int .i64 e] : List Value)[j]? = some u → (WR.drew.alloc (.cells #[.string (txt x.name), .int .i64 i, .int .i64 e] 95)).cell? ((⟨WR.heap.size, 0, none⟩ : Addr).add j) = some u from
              fun j u hu => World.news_of_block (B := WR.heap.size) (cs := #[.string (txt x.name), .int .i64 i, .int .i64 e]) (t := 95) (fr := (0, 0)) (heap_alloc_new WR.drew (.cells #[.string (txt x.name), .int .i64 i, .int .i64 e] 95)) j u (by simpa using hu))
            have ON := Lib.hid (show ∀ u ∈ ([.string (txt x.name), .int .i64 i, .int .i64 e] : List Value), u.oneCell' = true from fun u hu => by
              simp only [List.mem_cons, List.not_mem_nil, or_false] at hu
              rcases hu with rfl | rfl | rfl <;> rfl)
            have HNE := Lib.hid (show some g ≠ (Value.slice A' (Pl.wG M).length cp').ownBlock from fun e => by have := (st2.2.2.1.lt g e.symm).1; omega)
            have gbz : g + 1 ≤ WR.heap.size := gz
            clear st st2 B3 fzr S4 SG S5 F5 M1 fs GB1 G1
            go_wp2_with fail
            go_region_law (refine step_append_lies _ (by rfl) (.tmp 92) (.tmp 98) 42 (by rfl) (g + 1) 95 i0 _ 3 32 Try.underlying42 hi hz0 hz1 hz2 rfl (by decide) (.slice A' (Pl.wG M).length cp') (Pl.wG M).length (LSig.all (Pl.wG M)) (by rfl) (HX3.out.2.2.1.drew.alloc _) ⟨WR.heap.size, 0, none⟩ 1 1 [.string (txt x.name), .int .i64 i, .int .i64 e] (by rfl) (by rfl) NW.out ON.out (by omega) (by unfold maxLen; omega) (by omega) (by simp; omega) _ rfl ?_; intro g' cap' w3 hown hgr hg' hlt2; have hr3 := (hgr.block g (by simp; omega) HNE.out).trans ((heap_alloc_old _ _ (show g < WR.drew.heap.size from gz)).trans HX3.out.1); have c3 := (work_row hr3).1.2.2.2.2.2; have f3 := (work_row hr3).2.2.1 5)
            all_goals go_wp2_with fail
            all_goals go_ret
            all_goals (
              have WS := WorkX.signals (z := ⟨x.name, i, e⟩) HX3.out (((Below.refl WR.heap.size WR).drew).alloc (Nat.le_refl _) (.cells #[.string (txt x.name), .int .i64 i, .int .i64 e] 95)) hgr rfl hown (by rcases hg' with h | h; exact .inl h; exact .inr (by rw [h]; simp))
              obtain ⟨e1, e2⟩ := Pl.w_sig HM.out (by unfold Pl.isG; exact decide_eq_true H9.out) NG.out (Pl.sigAt_none.1 (by rw [HSG.out]; rfl)) HY.out HE.out HT.out
              exact ⟨by rw [P.out]; rfl, fun _ => WS.1.next (by unfold It.isNum; rw [H9.out]; decide) e1 e2, HB3.out.trans WS.2⟩)
      · have hcn : (tc != 0) = true := by rw [bne_iff_ne]; exact hc
        have P := Lib.hid (show Pl.sigErr M x = tc by rw [HSE.out, if_pos hc])
        have BF := Lib.hid (HBG.out.trans (hacc.mono (Nat.le_of_lt g1)))
        clear hbl hacc hzz hcell hbel hR'
        go_wp2_with fail
        go_ret
        exact ⟨by rw [P.out]; rfl, (fun h => absurd (P.out.symm.trans h) hc), BF.out⟩
end Go.Proofs.Ytbmmcmdopekccaa
