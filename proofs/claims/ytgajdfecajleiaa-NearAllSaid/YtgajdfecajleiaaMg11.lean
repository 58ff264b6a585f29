/-
  Texts of this claim, merged: PlRefK, PlRank, PlRankB, PlDr, PlDrA, RowMake, PlMemB, PlDrD, PlDrE, PlDrG, PlDrI.
-/
import Derived.Test.YtgajdfecajleiaaMg07
import Derived.Test.YtgajdfecajleiaaMg08
import Derived.Test.YtgajdfecajleiaaMg09
import Derived.Test.YtgajdfecajleiaaMg10
import Derived.Deep.CutRange
import Derived.Deep.OwnRows
import Derived.Deep.RegionHeld3
import Derived.Deep.RegionLaw
import Derived.Laws.CopyRow
import Derived.Lib.SliceRun
/-
  The walk of the document's answer of layer 5: what a line lacks, when all are there.
-/
namespace Go.Proofs.Ytgajdfecajleiaa
open Go.RowKit

def LackGives (L : List It.Itm) (x : It.Itm) (w : World) (e : Ending) (w' : World) : Prop := e = .returned (.int .i64 (Pl.lackErr L x)) ∧ Below w.heap.size w w'
theorem LackGives.mk {L : List It.Itm} {x : It.Itm} {w w' : World} {e : Ending} (n : Int) (h : Pl.lackErr L x = n) (he : e = .returned (.int .i64 n)) (hb : Below w.heap.size w w') : LackGives L x w e w' := ⟨by rw [h]; exact he, hb⟩
theorem lack_other {L : List It.Itm} {x : It.Itm} (h1 : Pl.isS x = false) (h2 : Pl.isG x = false) : Pl.lackErr L x = 0 := by
  unfold Pl.lackErr
  rw [if_neg (by rw [h1]; simp), if_neg (by rw [h2]; simp)]
/-- An end that is open makes a section lack. -/
theorem lack_open {L : List It.Itm} {x : It.Itm} (hs : Pl.isS x = true) {e : Nat} (he : e < 3) (h : ((Pl.secG (Pl.gW L) x).get e).goes = -2) : Pl.lackErr L x = 7 := by
  have hen : e < Pl.nEnds (Pl.isPt x) := by
    by_cases hp : Pl.isPt x = true
    · rw [hp]; exact he
    · have hp' : Pl.isPt x = false := by simpa using hp
      have : e = 0 ∨ e = 1 ∨ e = 2 := by omega
      rcases this with rfl | rfl | rfl
      · rw [hp']; decide
      · rw [hp']; decide
      · have : ((Pl.secG (Pl.gW L) x).get 2) = Pl.stop := by
          show (if Pl.isPt x then _ else Pl.stop) = Pl.stop
          rw [hp']; rfl
        rw [this] at h; cases h
  rw [Pl.get_secG _ hen] at h
  have hp : Pl.partner L (Pl.tip x e) = none := by
    cases hpt : Pl.partner L (Pl.tip x e) with
    | none => rfl
    | some v =>
      simp only [Pl.gW, Pl.enW, hpt] at h
      cases v with
      | none => cases h
      | some u =>
        have : 0 ≤ Pl.pos (Pl.nmS L) u.n := by unfold Pl.pos; omega
        simp only at h
        omega
  unfold Pl.lackErr
  rw [if_pos hs, if_pos]
  rw [List.any_eq_true]
  exact ⟨e, List.mem_range.2 hen, by simpa using hp⟩
theorem lack_shut {L : List It.Itm} {x : It.Itm} (hs : Pl.isS x = true) (h : ∀ e < 3, ((Pl.secG (Pl.gW L) x).get e).goes ≠ -2) : Pl.lackErr L x = 0 := by
  unfold Pl.lackErr
  rw [if_pos hs, if_neg]
  intro hc
  obtain ⟨e, he, hp⟩ := List.any_eq_true.1 hc
  have he' := List.mem_range.1 he
  have h3 : e < 3 := by unfold Pl.nEnds at he'; split at he' <;> omega
  have := h e h3
  rw [Pl.get_secG _ he'] at this
  have hp' : Pl.partner L (Pl.tip x e) = none := by simpa using hp
  exact this (by simp [Pl.gW, Pl.enW, hp'])
theorem lack_sig {L : List It.Itm} {x : It.Itm} (hg : Pl.isG x = true) {y : It.Itm} {e : Nat} (ht : x.e0 = Pl.tip y e) : Pl.lackErr L x = if (Pl.gW L (Pl.tip y e)).goes < 0 then 8 else 0 := by
  unfold Pl.lackErr
  rw [if_neg (by rw [(Pl.sig_facts hg).2.1]; simp), if_pos hg, ht]
  cases hpt : Pl.partner L (Pl.tip y e) with
  | none => simp [Pl.gW, Pl.enW, hpt]
  | some v =>
    cases v with
    | none => simp [Pl.gW, Pl.enW, hpt]
    | some u =>
      have : 0 ≤ Pl.pos (Pl.nmS L) u.n := by unfold Pl.pos; omega
      simp only [Pl.gW, Pl.enW, hpt, Option.getD_some, Option.isSome_some, if_true]
      rw [if_neg (by omega)]
set_option maxHeartbeats 8000000 in
set_option maxRecDepth 100000 in
theorem rpLacks_any (g : Nat) (L : List It.Itm) (x : It.Itm) (w : World) (h : WorkAt 82 39 41 w g L) (hL : Pl.Ok L) (hx : x ∈ L) :
    Calls Try.prog 25 #[.pointer (some ⟨g, 0, none⟩), itemV x] w (LackGives L x w) := by
  have hr := hL.right x hx
  have hl : (Pl.wS L).length ≤ 1000000 := by rw [Pl.wS_len]; have := hL.few; omega
  obtain ⟨vS, vG, hX⟩ : ∃ vS vG, WorkX 82 39 41 w g L vS vG (Pl.wS L) (Pl.wG L) := h
  have hg := (Array.getElem?_eq_some_iff.1 hX.1).1
  obtain ⟨-, A, cp, rfl, -, hR⟩ := Lies.Row.of_own hX.2.1
  have X0 := Lib.hid ((Below.refl w.heap.size w).alloc (Nat.le_refl _) (.cells (item7 x) 76))
  obtain ⟨⟨k0, k1, k2, k3, k4, k5, k6⟩, -, g2⟩ := row7 (show (w.alloc (.cells (item7 x) 76)).heap[w.heap.size]? = some (.cells #[.int .i64 x.k, .string (txt x.name), .int .i64 x.n, .string (txt x.e0.n), .int .u8 x.e0.c.toNat, .string (txt x.e1.n), .int .u8 x.e1.c.toNat] 76 (0, 0)) from heap_alloc_new _ _)
  have hX0 := hX.below X0.out
  obtain ⟨⟨-, -, -, -, s4, -⟩, -, -, g1⟩ := work_row hX0.1
  have hk := Pl.right_kind hr
  have hk' : (1 ≤ x.k ∧ x.k ≤ 4) ∨ (x.k = 5 ∨ x.k = 6) ∨ (x.k = 7 ∨ x.k = 8) ∨ x.k = 9 := by omega
  rcases hk' with h14 | h56 | h78 | h9
  · have hN : Pl.isS x = false ∧ Pl.isG x = false := ⟨(Pl.num_facts (by unfold It.isNum; exact decide_eq_true h14)).1, (Pl.num_facts (by unfold It.isNum; exact decide_eq_true h14)).2.1⟩
    have P := Lib.hid (lack_other (L := L) hN.1 hN.2)
    have q5 : (x.k == 5) = false := by rw [beq_eq_false_iff_ne]; omega
    have q6 : (x.k == 6) = false := by rw [beq_eq_false_iff_ne]; omega
    have q9 : (x.k == 9) = false := by rw [beq_eq_false_iff_ne]; omega
    clear h14 hk hN hX hX0 hR hL hr hl
    go_enter Try.func25, Try.ntmps25
    go_wp2_with fail
    go_ret
    exact LackGives.mk _ P.out rfl X0.out
  · have hs : Pl.isS x = true := by unfold Pl.isS It.isLen; exact decide_eq_true (by omega)
    have hm : x ∈ Pl.secs L := Pl.mem_secs.2 ⟨hx, hs⟩
    obtain ⟨i, hi, hf⟩ : ∃ i, (Pl.secs L)[i]? = some x ∧ Pl.find (Pl.wS L) x.name = (i : Nat) := by
      rcases Pl.find_wS (M := L) x.name with ⟨hn, _⟩ | ⟨i, y, hf, hy, hn⟩
      · exact absurd (Pl.mem_nmS.2 ⟨x, hm, rfl⟩) hn
      · have := Pl.uniq hL.names (List.mem_of_getElem? hy) hm hn
        subst this
        exact ⟨i, hy, hf⟩
    have hin := (List.getElem?_eq_some_iff.1 (Pl.wS_of hi)).1
    obtain ⟨gb, cap, hvs⟩ := hX0.slice (by omega)
    obtain ⟨rfl, rfl⟩ : A = some ⟨gb, 0, none⟩ ∧ cp = cap := by cases hvs; exact ⟨rfl, rfl⟩
    have gb1 := (hX0.2.1.lt gb rfl).2
    have on := Lies.own_on hX0.2.1 (Pl.wS_of hi)
    have LO := Lib.hid (fun e => @lack_open L x hs e)
    have LS := Lib.hid (lack_shut (L := L) (x := x) hs)
    have FN := Lib.hid (fun W (h : Below (w.alloc (.cells (item7 x) 76)).heap.size (w.alloc (.cells (item7 x) 76)) W) => rpFind_any (some ⟨gb, 0, none⟩) cp (Pl.wS L) x.name W ((hR.below rfl X0.out).below rfl h) hl)
    rw [hf] at FN
    generalize Pl.secG (Pl.gW L) x = S0 at on LO LS
    obtain ⟨o0, o1, o2, o3, o4, o5, o6, o7, o8, o9, o10, o11⟩ := sec_on on
    rw [show i * LSec.m = i * 12 from rfl] at o0 o1 o2 o3 o4 o5 o6 o7 o8 o9 o10 o11
    have KS := Lib.hid (fun w' (hb : Below (w.alloc (.cells (item7 x) 76)).heap.size (w.alloc (.cells (item7 x) 76)) w') => show w'.cell? ⟨g, 4, none⟩ = some (.slice (some ⟨gb, 0, none⟩) (Pl.wS L).length cp) ∧ w'.cell? ⟨w.heap.size, 1, none⟩ = some (.string (txt x.name)) ∧ w'.cell? ⟨gb, i * 12, none⟩ = some (.string (txt S0.name)) ∧ w'.cell? ⟨gb, i * 12 + 1, none⟩ = some (.bool S0.pt) ∧ w'.cell? ⟨gb, i * 12 + 2, none⟩ = some (.int .i64 S0.len) ∧ w'.cell? ⟨gb, i * 12 + 3, none⟩ = some (.int .i64 S0.e0.goes) ∧ w'.cell? ⟨gb, i * 12 + 4, none⟩ = some (.int .i64 S0.e0.at_) ∧ w'.cell? ⟨gb, i * 12 + 5, none⟩ = some (.int .i64 S0.e0.sig) ∧ w'.cell? ⟨gb, i * 12 + 6, none⟩ = some (.int .i64 S0.e1.goes) ∧ w'.cell? ⟨gb, i * 12 + 7, none⟩ = some (.int .i64 S0.e1.at_) ∧ w'.cell? ⟨gb, i * 12 + 8, none⟩ = some (.int .i64 S0.e1.sig) ∧ w'.cell? ⟨gb, i * 12 + 9, none⟩ = some (.int .i64 S0.e2.goes) ∧ w'.cell? ⟨gb, i * 12 + 10, none⟩ = some (.int .i64 S0.e2.at_) ∧ w'.cell? ⟨gb, i * 12 + 11, none⟩ = some (.int .i64 S0.e2.sig) from
      have k := fun o => hb.cell (p := ⟨gb, o, none⟩) gb1
      ⟨(hb.cell (p := ⟨g, 4, none⟩) g1).trans s4, (hb.cell (p := ⟨w.heap.size, 1, none⟩) g2).trans k1, (k _).trans o0, (k _).trans o1, (k _).trans o2, (k _).trans o3, (k _).trans o4, (k _).trans o5, (k _).trans o6, (k _).trans o7, (k _).trans o8, (k _).trans o9, (k _).trans o10, (k _).trans o11⟩)
    have W0 := Lib.hid (Below.refl (w.alloc (.cells (item7 x) 76)).heap.size (w.alloc (.cells (item7 x) 76)))
    have q56 : (x.k == 5) = true ∨ ((x.k == 5) = false ∧ (x.k == 6) = true) := by
      rcases h56 with h | h
      · exact .inl (by rw [beq_iff_eq]; exact h)
      · exact .inr ⟨by rw [beq_eq_false_iff_ne]; omega, by rw [beq_iff_eq]; exact h⟩
    clear hvs on hf hi hm hs hX hX0 hR hL hr hl hk h56 hx
    rcases q56 with q5 | ⟨q5, q6⟩
    all_goals
      go_enter Try.func25, Try.ntmps25
      go_wp2_with fail
      go_region_held3 (fun w' => w'.cell? ⟨g, 4, none⟩ = some (.slice (some ⟨gb, 0, none⟩) (Pl.wS L).length cp) ∧ w'.cell? ⟨w.heap.size, 1, none⟩ = some (.string (txt x.name)) ∧ w'.cell? ⟨gb, i * 12, none⟩ = some (.string (txt S0.name)) ∧ w'.cell? ⟨gb, i * 12 + 1, none⟩ = some (.bool S0.pt) ∧ w'.cell? ⟨gb, i * 12 + 2, none⟩ = some (.int .i64 S0.len) ∧ w'.cell? ⟨gb, i * 12 + 3, none⟩ = some (.int .i64 S0.e0.goes) ∧ w'.cell? ⟨gb, i * 12 + 4, none⟩ = some (.int .i64 S0.e0.at_) ∧ w'.cell? ⟨gb, i * 12 + 5, none⟩ = some (.int .i64 S0.e0.sig) ∧ w'.cell? ⟨gb, i * 12 + 6, none⟩ = some (.int .i64 S0.e1.goes) ∧ w'.cell? ⟨gb, i * 12 + 7, none⟩ = some (.int .i64 S0.e1.at_) ∧ w'.cell? ⟨gb, i * 12 + 8, none⟩ = some (.int .i64 S0.e1.sig) ∧ w'.cell? ⟨gb, i * 12 + 9, none⟩ = some (.int .i64 S0.e2.goes) ∧ w'.cell? ⟨gb, i * 12 + 10, none⟩ = some (.int .i64 S0.e2.at_) ∧ w'.cell? ⟨gb, i * 12 + 11, none⟩ = some (.int .i64 S0.e2.sig))
        (first | exact KS.out _ W0.out.drew | exact KS.out _ (W0.out.alloc (Nat.le_refl _) _).drew | (refine KS.out _ ?_; (repeat (first | (with_reducible refine Below.setCell ?_ (Nat.le_refl _) _) | (with_reducible refine Below.drew ?_))); exact W0.out.alloc (Nat.le_refl _) _))
        (first
          | (go_at_call 41; (with_reducible refine (FN.out _ W0.out.drew).mono ?_); rintro e w' ⟨rfl, rfl⟩)
          | (go_at_call 41; (with_reducible refine (FN.out _ (W0.out.alloc (Nat.le_refl _) _).drew).mono ?_); rintro e w' ⟨rfl, rfl⟩))
      all_goals
        have RW : (((w.alloc (.cells (item7 x) 76)).alloc (.cells (secCells S0).toArray 39)).drew).heap[w.heap.size + 1]? = some (.cells (secCells S0).toArray 39 (0, 0)) := by
          have : (((w.alloc (.cells (item7 x) 76)).alloc (.cells (secCells S0).toArray 39)).drew).heap[(w.alloc (.cells (item7 x) 76)).heap.size]? = some (.cells (secCells S0).toArray 39 (0, 0)) := heap_alloc_new (w.alloc (.cells (item7 x) 76)) (.cells (secCells S0).toArray 39)
          rwa [show (w.alloc (.cells (item7 x) 76)).heap.size = w.heap.size + 1 by simp] at this
        have BW := (X0.out.alloc (by simp) (.cells (secCells S0).toArray 39)).drew
        change Exit.then _ _ _ _ (((w.alloc (.cells (item7 x) 76)).alloc (.cells (secCells S0).toArray 39)).drew)
        generalize ((w.alloc (.cells (item7 x) 76)).alloc (.cells (secCells S0).toArray 39)).drew = WR at RW BW ⊢
        have on1 : LSec.On WR (w.heap.size + 1) 0 S0 := fun j v hv => by
          have hv' : (secCells S0)[j]? = some v := hv
          rw [Nat.zero_add, (row12 RW).1 j]
          simpa using hv'
        have HO := Lib.hid (fun e he => on_to (e := e) on1 he)
        have HBW := Lib.hid BW
        clear RW BW on1 o0 o1 o2 o3 o4 o5 o6 o7 o8 o9 o10 o11 k0 k1 k2 k3 k4 k5 k6 s4
        go_wp2_with fail
        go_loop [6] (fun v => ∃ k : Nat, k ≤ 3 ∧ v = .int .i64 k ∧ ∀ j < k, (S0.get j).goes ≠ -2) (fun v => 3 - (intOf v).toNat)
        case atStart => exact ⟨0, Nat.zero_le _, rfl, fun j hj => absurd hj (by omega)⟩
        case round =>
          obtain ⟨k, hk, rfl, h0⟩ := hrel
          have H0 := Lib.hid h0
          clear h0
          by_cases hlt : k < 3
          · have t0 := HO.out k hlt
            rw [Nat.zero_add] at t0
            have d1 : decide ((k : Int) < 3) = true := dec_t (by omega)
            by_cases ho : (S0.get k).goes = -2
            · have P := Lib.hid (LO.out k hlt ho)
              have q : ((S0.get k).goes == -2) = true := by rw [beq_iff_eq]; exact ho
              clear ho
              go_wp2_with fail
              go_ret
              exact LackGives.mk _ P.out rfl HBW.out
            · have q : ((S0.get k).goes == -2) = false := by rw [beq_eq_false_iff_ne]; exact ho
              have NX := Lib.hid (show ∀ j < k + 1, (S0.get j).goes ≠ -2 from fun j hj => by
                rcases Nat.lt_or_ge j k with h | h
                · exact H0.out j h
                · obtain rfl : j = k := by omega
                  exact ho)
              clear ho
              go_wp2_with fail
              go_round
              case rel => exact ⟨k + 1, by omega, by go_num, NX.out⟩
              case measure => simp [intOf]; omega
          · have P := Lib.hid (LS.out fun e he => H0.out e (by omega))
            have d1 : decide ((k : Int) < 3) = false := dec_f (by omega)
            go_wp2_with fail
            go_ret
            exact LackGives.mk _ P.out rfl HBW.out
  · have hN : Pl.isS x = false ∧ Pl.isG x = false := ⟨(Pl.end_facts h78).2.1, (Pl.end_facts h78).2.2⟩
    have P := Lib.hid (lack_other (L := L) hN.1 hN.2)
    have q5 : (x.k == 5) = false := by rw [beq_eq_false_iff_ne]; omega
    have q6 : (x.k == 6) = false := by rw [beq_eq_false_iff_ne]; omega
    have q9 : (x.k == 9) = false := by rw [beq_eq_false_iff_ne]; omega
    clear h78 hk hN hX hX0 hR hL hr hl
    go_enter Try.func25, Try.ntmps25
    go_wp2_with fail
    go_ret
    exact LackGives.mk _ P.out rfl X0.out
  · have hG : Pl.isG x = true := by unfold Pl.isG; exact decide_eq_true h9
    obtain ⟨y0, hy0, f0, hf0, ht0⟩ := Pl.told_all hL hx (t := x.e0) (by unfold Pl.tips; rw [if_neg (by omega), if_neg (by omega), if_pos h9]; simp)
    have hz : Pl.tipErr L [] x.e0 = 0 := Pl.tipErr_zero.2 ⟨by rw [ht0]; exact Pl.mem_nmS.2 ⟨y0, hy0, rfl⟩, by rw [ht0, Pl.tip_at hL hy0 hf0]; rfl, by simp⟩
    obtain ⟨hE1, hE2⟩ := endI_err hL x.e0
    obtain ⟨i, e, y, hend, hy, he, ht⟩ := hE2 (hE1.trans hz)
    have he3 : e < 3 := by unfold Pl.nEnds at he; split at he <;> omega
    have hin := (List.getElem?_eq_some_iff.1 (Pl.wS_of hy)).1
    obtain ⟨gb, cap, hvs⟩ := hX0.slice (by omega)
    obtain ⟨rfl, rfl⟩ : A = some ⟨gb, 0, none⟩ ∧ cp = cap := by cases hvs; exact ⟨rfl, rfl⟩
    have EN := Lib.hid (fun W (h : Below (w.alloc (.cells (item7 x) 76)).heap.size (w.alloc (.cells (item7 x) 76)) W) => Made.of h (rpEnd_any (some ⟨gb, 0, none⟩) cp (Pl.wS L) x.e0 W ((hR.below rfl X0.out).below rfl h) hl (letter_ne (Pl.right_sig hr h9).2.2)))
    rw [hend] at EN
    have W0 := Lib.hid (Below.refl (w.alloc (.cells (item7 x) 76)).heap.size (w.alloc (.cells (item7 x) 76)))
    have LG := Lib.hid (lack_sig (L := L) hG ht)
    have HX := Lib.hid hX0
    have HY := Lib.hid hy
    have HE := Lib.hid he
    have q5 : (x.k == 5) = false := by rw [beq_eq_false_iff_ne]; omega
    have q6 : (x.k == 6) = false := by rw [beq_eq_false_iff_ne]; omega
    have q9 : (x.k == 9) = true := by rw [beq_iff_eq]; omega
    clear hvs hy he ht hend hE1 hE2 hz ht0 hf0 hy0 hG hX hX0 hR hL hr hl hk hx h9
    go_enter Try.func25, Try.ntmps25
    go_wp2_with fail
    go_region_held3 (fun w' => w'.cell? ⟨g, 4, none⟩ = some (.slice (some ⟨gb, 0, none⟩) (Pl.wS L).length cp) ∧ w'.cell? ⟨w.heap.size, 3, none⟩ = some (.string (txt x.e0.n)) ∧ w'.cell? ⟨w.heap.size, 4, none⟩ = some (.int .u8 x.e0.c.toNat))
      (first | exact ⟨s4, k3, k4⟩ | exact ⟨(hcell _ _ g1).trans s4, (hcell _ _ g2).trans k3, (hcell _ _ g2).trans k4⟩)
      (first
        | (go_at_call 42; (with_reducible refine (EN.out _ W0.out.drew).mono ?_); rintro e' w' ⟨rfl, hbl, hacc, hzz⟩; have hcell := (bcell hbl).1))
    have hX1 := HX.out.below hacc
    obtain ⟨S4, T0, -, -, -, G1, GB1, -, -⟩ := hX1.reads (Pl.wS_of HY.out) he3
    rw [Pl.get_secG _ HE.out] at T0
    have BF := Lib.hid (X0.out.trans (hacc.mono (Nat.le_of_lt g2)))
    clear hX1 hacc hbl hzz hcell s4 k0 k1 k2 k3 k4 k5 k6
    by_cases hneg : (Pl.gW L (Pl.tip y e)).goes < 0
    · have d : decide ((Pl.gW L (Pl.tip y e)).goes < 0) = true := dec_t hneg
      have P := Lib.hid (LG.out.trans (if_pos hneg))
      clear hneg
      go_wp2_with fail
      go_ret
      exact LackGives.mk _ P.out rfl BF.out
    · have d : decide ((Pl.gW L (Pl.tip y e)).goes < 0) = false := dec_f hneg
      have P := Lib.hid (LG.out.trans (if_neg hneg))
      clear hneg
      go_wp2_with fail
      go_ret
      exact LackGives.mk _ P.out rfl BF.out
end Go.Proofs.Ytgajdfecajleiaa
/-
  Plain mathematics of layer 5: from the order of telling to the order of the names. No program is named here.
-/
namespace Go.Proofs.Ytgajdfecajleiaa.Pl
open Go It

/-- The ranks of names, one for each. -/
def ranks (N : List Nm) : List Int := N.map (rank N)
def ren1 (R : List Int) (v : Int) : Int := if 0 ≤ v then R.getD v.toNat 0 else v
def renEn (R Q : List Int) (e : En) : En := ⟨ren1 R e.goes, e.at_, ren1 Q e.sig⟩
def renSec (R Q : List Int) (s : Sec) : Sec := ⟨s.name, s.pt, s.len, renEn R Q s.e0, renEn R Q s.e1, renEn R Q s.e2⟩
def renSig (R : List Int) (g : Sig) : Sig := ⟨g.name, ren1 R g.sec, g.en⟩
theorem ranks_len (N : List Nm) : (ranks N).length = N.length := by simp [ranks]
theorem ranks_at {N : List Nm} {i : Nat} {nm : Nm} (h : N[i]? = some nm) : (ranks N)[i]? = some (rank N nm) := by rw [ranks, List.getElem?_map, h]; rfl
theorem ren_pos {N : List Nm} {nm : Nm} (h : nm ∈ N) : ren1 (ranks N) (pos N nm) = rank N nm := by
  have hl : N.findIdx (fun a => decide (a = nm)) < N.length := List.findIdx_lt_length.2 ⟨nm, h, by simp⟩
  have he := List.findIdx_getElem (xs := N) (p := fun a => decide (a = nm)) (w := hl)
  have he' : N[N.findIdx (fun a => decide (a = nm))] = nm := of_decide_eq_true he
  unfold ren1 pos
  rw [if_pos (by omega), List.getD_eq_getElem?_getD, Int.toNat_natCast, ranks_at (List.getElem?_eq_getElem hl), he']
  rfl
theorem ren_neg {R : List Int} {v : Int} (h : v < 0) : ren1 R v = v := by unfold ren1; rw [if_neg (by omega)]
theorem partner_nm {M : List Itm} (hM : Ok M) {t u : Tp} (h : partner M t = some (some u)) : u.n ∈ nmS M := by
  have h2 := (partner_sym hM.ments h).1
  refine ments_nm hM (t := u) (Classical.byContradiction fun hc => ?_)
  rw [partner_none.2 hc] at h2
  cases h2
theorem ren_en {M : List Itm} (hM : Ok M) (t : Tp) : renEn (ranks (nmS M)) (ranks (nmG M)) (gW M t) = enW (rank (nmS M)) (rank (nmG M)) M t := by
  unfold renEn gW enW
  congr 1
  · rcases hp : partner M t with _ | _ | u
    · exact ren_neg (show (-2 : Int) < 0 by decide)
    · exact ren_neg (show (-1 : Int) < 0 by decide)
    · exact ren_pos (partner_nm hM hp)
  · rcases hs : sigAt M t with _ | g
    · exact ren_neg (show (-1 : Int) < 0 by decide)
    · obtain ⟨x, hx, -, rfl⟩ := sigAt_some hs
      exact ren_pos (List.mem_map.2 ⟨x, hx, rfl⟩)
theorem ren_stop (R Q : List Int) : renEn R Q stop = stop := by
  unfold renEn stop
  rw [ren_neg (by decide)]
  congr 1
theorem ren_sec {M : List Itm} (hM : Ok M) (x : Itm) : renSec (ranks (nmS M)) (ranks (nmG M)) (secG (gW M) x) = secW (rank (nmS M)) (rank (nmG M)) M x := by
  unfold renSec secG secW
  simp only
  rw [ren_en hM, ren_en hM]
  congr 1
  cases isPt x
  · exact ren_stop _ _
  · exact ren_en hM _
theorem ren_sig {M : List Itm} (hM : Ok M) {x : Itm} (hx : x ∈ sigs M) : renSig (ranks (nmS M)) (sigW (pos (nmS M)) M x) = sigW (rank (nmS M)) M x := by
  unfold renSig sigW
  congr 1
  exact ren_pos (sig_nm hM hx)
theorem fin_secs_len (M : List Itm) : (fin M).secs.length = (wS M).length := by simp [fin, wS, isort_len]
theorem fin_sigs_len (M : List Itm) : (fin M).sigs.length = (wG M).length := by simp [fin, wG, isort_len]
theorem isort_names {l : List Itm} : ((isort Itm.name l).map (·.name)).Perm (l.map (·.name)) := (isort_perm Itm.name l).map _
theorem fin_sec_at {M : List Itm} (hM : Ok M) {i : Nat} {s : Sec} (h : (wS M)[i]? = some s) :
    (fin M).secs[(rank (nmS M) s.name).toNat]? = some (renSec (ranks (nmS M)) (ranks (nmG M)) s) := by
  obtain ⟨x, hx, rfl⟩ := wS_at h
  rw [ren_sec hM]
  have h1 := at_rank (isort_rise Itm.name (secs M) hM.names) ((isort_mem Itm.name).2 (List.mem_of_getElem? hx))
  rw [rank_perm isort_names] at h1
  show ((isort Itm.name (secs M)).map (secW (rank (nmS M)) (rank (nmG M)) M))[(rank (nmS M) x.name).toNat]? = _
  rw [List.getElem?_map]
  rw [show (isort Itm.name (secs M))[(rank (nmS M) x.name).toNat]? = some x from h1]
  rfl
theorem fin_sig_at {M : List Itm} (hM : Ok M) {i : Nat} {g : Sig} (h : (wG M)[i]? = some g) :
    (fin M).sigs[(rank (nmG M) g.name).toNat]? = some (renSig (ranks (nmS M)) g) := by
  rw [wG, List.getElem?_map, Option.map_eq_some_iff] at h
  obtain ⟨x, hx, rfl⟩ := h
  rw [ren_sig hM (List.mem_of_getElem? hx)]
  have h1 := at_rank (isort_rise Itm.name (sigs M) hM.gnames) ((isort_mem Itm.name).2 (List.mem_of_getElem? hx))
  rw [rank_perm isort_names] at h1
  show ((isort Itm.name (sigs M)).map (sigW (rank (nmS M)) M))[(rank (nmG M) x.name).toNat]? = _
  rw [List.getElem?_map]
  rw [show (isort Itm.name (sigs M))[(rank (nmG M) x.name).toNat]? = some x from h1]
  rfl
/-- Every place of a list in order is somebody's rank. -/
theorem rank_onto {l : List Itm} (hn : (l.map (·.name)).Nodup) {p : Nat} (hp : p < l.length) : ∃ i, i < l.length ∧ ∀ nm, (l.map (·.name))[i]? = some nm → (rank (l.map (·.name)) nm).toNat = p := by
  have hp' : p < (isort Itm.name l).length := by rw [isort_len]; exact hp
  have hm : (isort Itm.name l)[p] ∈ l := (isort_mem Itm.name).1 (List.getElem_mem hp')
  obtain ⟨i, hi, e⟩ := List.getElem_of_mem hm
  refine ⟨i, hi, fun nm h => ?_⟩
  rw [List.getElem?_map, List.getElem?_eq_getElem hi] at h
  obtain rfl : l[i].name = nm := by simpa using h
  rw [← rank_perm isort_names, rank_at (rise_map (isort_rise Itm.name l hn)) p _ (by rw [List.getElem?_map, List.getElem?_eq_getElem hp', ← e]; rfl)]
  simp
end Go.Proofs.Ytgajdfecajleiaa.Pl
/-
  Plain mathematics of layer 5: where the ends told so far lead, and the whole plan in the order of the names. No program is named here.
-/
namespace Go.Proofs.Ytgajdfecajleiaa.Pl
open Go It

theorem pos_lt {N : List Nm} {nm : Nm} (h : nm ∈ N) : pos N nm < N.length := by
  have hl : N.findIdx (fun a => decide (a = nm)) < N.length := List.findIdx_lt_length.2 ⟨nm, h, by simp⟩
  unfold pos; omega
theorem gW_lt {M : List Itm} (hM : Ok M) (t : Tp) : (gW M t).goes < (nmS M).length ∧ (gW M t).sig < (nmG M).length := by
  unfold gW enW
  constructor
  · rcases hp : partner M t with _ | _ | u
    · show (-2 : Int) < _; omega
    · show (-1 : Int) < _; omega
    · exact pos_lt (partner_nm hM hp)
  · rcases hs : sigAt M t with _ | g
    · show (-1 : Int) < _; omega
    · obtain ⟨x, hx, -, rfl⟩ := sigAt_some hs
      exact pos_lt (List.mem_map.2 ⟨x, hx, rfl⟩)
theorem nmS_len (M : List Itm) : (nmS M).length = (wS M).length := by simp [nmS, wS]
theorem nmG_len (M : List Itm) : (nmG M).length = (wG M).length := by simp [nmG, wG]
theorem wS_ends {M : List Itm} (hM : Ok M) {i : Nat} {s : Sec} (h : (wS M)[i]? = some s) (e : Nat) : (s.get e).goes < (wS M).length ∧ (s.get e).sig < (wG M).length := by
  obtain ⟨x, -, rfl⟩ := wS_at h
  have g := fun t => gW_lt hM t
  rw [nmS_len, nmG_len] at g
  unfold Sec.get secG
  by_cases h0 : e = 0
  · rw [if_pos h0]; exact g _
  · rw [if_neg h0]
    by_cases h1 : e = 1
    · rw [if_pos h1]; exact g _
    · rw [if_neg h1]
      simp only
      by_cases hp : isPt x = true
      · rw [if_pos hp]; exact g _
      · rw [if_neg hp]
        constructor
        · show (-1 : Int) < _; omega
        · show (-1 : Int) < _; omega
theorem wG_sec {M : List Itm} (hM : Ok M) {i : Nat} {g : Sig} (h : (wG M)[i]? = some g) : 0 ≤ g.sec ∧ g.sec < (wS M).length := by
  rw [wG, List.getElem?_map, Option.map_eq_some_iff] at h
  obtain ⟨x, hx, rfl⟩ := h
  rw [← nmS_len]
  exact ⟨by show 0 ≤ pos _ _; unfold pos; omega, pos_lt (sig_nm hM (List.mem_of_getElem? hx))⟩
theorem ren1_at {N : List Nm} {t : Nat} (h : t < N.length) : (ranks N)[t]? = some (ren1 (ranks N) t) := by
  unfold ren1
  rw [if_pos (by omega), Int.toNat_natCast, List.getD_eq_getElem?_getD, List.getElem?_eq_getElem (by rw [ranks_len]; exact h)]
  rfl
theorem wS_name_mem {M : List Itm} {i : Nat} {s : Sec} (h : (wS M)[i]? = some s) : s.name ∈ nmS M := by
  obtain ⟨x, hx, rfl⟩ := wS_at h
  exact List.mem_map.2 ⟨x, List.mem_of_getElem? hx, rfl⟩
theorem wG_name_mem {M : List Itm} {i : Nat} {g : Sig} (h : (wG M)[i]? = some g) : g.name ∈ nmG M := by
  rw [wG, List.getElem?_map, Option.map_eq_some_iff] at h
  obtain ⟨x, hx, rfl⟩ := h
  exact List.mem_map.2 ⟨x, List.mem_of_getElem? hx, rfl⟩
/-- All sections at their ranks: the plan's. -/
theorem secs_whole {M : List Itm} (hM : Ok M) {X : List Sec} (hl : X.length = (wS M).length)
    (h : ∀ (j : Nat) (s : Sec), (wS M)[j]? = some s → X[(rank (nmS M) s.name).toNat]? = some (renSec (ranks (nmS M)) (ranks (nmG M)) s)) : X = (fin M).secs := by
  apply List.ext_getElem?
  intro p
  by_cases hp : p < (secs M).length
  · obtain ⟨i, hi, hr⟩ := rank_onto (l := secs M) hM.names hp
    have hs := wS_of (M := M) (List.getElem?_eq_getElem hi)
    have e := hr (secs M)[i].name (by rw [List.getElem?_map, List.getElem?_eq_getElem hi]; rfl)
    have h1 := h i _ hs
    have h2 := fin_sec_at hM hs
    have e' : (rank (nmS M) (secG (gW M) (secs M)[i]).name).toNat = p := e
    rw [e'] at h1 h2
    rw [h1, h2]
  · rw [List.getElem?_eq_none (by rw [hl, wS_len]; omega), List.getElem?_eq_none (by rw [fin_secs_len, wS_len]; omega)]
theorem sigs_whole {M : List Itm} (hM : Ok M) {X : List Sig} (hl : X.length = (wG M).length)
    (h : ∀ (j : Nat) (g : Sig), (wG M)[j]? = some g → X[(rank (nmG M) g.name).toNat]? = some (renSig (ranks (nmS M)) g)) : X = (fin M).sigs := by
  apply List.ext_getElem?
  intro p
  by_cases hp : p < (sigs M).length
  · obtain ⟨i, hi, hr⟩ := rank_onto (l := sigs M) hM.gnames hp
    have hs : (wG M)[i]? = some (sigW (pos (nmS M)) M (sigs M)[i]) := by rw [wG, List.getElem?_map, List.getElem?_eq_getElem hi]; rfl
    have e := hr (sigs M)[i].name (by rw [List.getElem?_map, List.getElem?_eq_getElem hi]; rfl)
    have h1 := h i _ hs
    have h2 := fin_sig_at hM hs
    have e' : (rank (nmG M) (sigW (pos (nmS M)) M (sigs M)[i]).name).toNat = p := e
    rw [e'] at h1 h2
    rw [h1, h2]
  · rw [List.getElem?_eq_none (by rw [hl, wG_len]; omega), List.getElem?_eq_none (by rw [fin_sigs_len, wG_len]; omega)]
/-- A place more is told. -/
theorem told_more {α : Type} {L : List α} {n : Nat} (key : α → Nat) (out : α → α) {X : List α} {i : Nat} {a : α} (hi : L[i]? = some a) (hlt : ∀ b ∈ L, key b < n) (hX : X.length = n)
    (hinj : ∀ (j : Nat) (b : α), j < i → L[j]? = some b → key b ≠ key a) (h : ∀ (j : Nat) (b : α), j < i → L[j]? = some b → X[key b]? = some (out b)) :
    ∀ (j : Nat) (b : α), j < i + 1 → L[j]? = some b → (X.set (key a) (out a))[key b]? = some (out b) := fun j b hj hb => by
  rcases Nat.lt_succ_iff_lt_or_eq.1 hj with h1 | rfl
  · rw [List.getElem?_set_ne (Ne.symm (hinj j b h1 hb))]; exact h j b h1 hb
  · rw [hi] at hb
    cases hb
    rw [List.getElem?_set_self (by rw [hX]; exact hlt a (List.mem_of_getElem? hi))]
theorem names_apart {α : Type} {L : List α} (f : α → Nm) (hn : (L.map f).Nodup) {i j : Nat} {a b : α} (hi : L[i]? = some a) (hj : L[j]? = some b) (h : j < i) : rank (L.map f) (f b) ≠ rank (L.map f) (f a) := fun hc => by
  have ha : f a ∈ L.map f := List.mem_map.2 ⟨a, List.mem_of_getElem? hi, rfl⟩
  have hb : f b ∈ L.map f := List.mem_map.2 ⟨b, List.mem_of_getElem? hj, rfl⟩
  have e := rank_inj hb ha hc
  obtain ⟨h1, h1'⟩ := List.getElem?_eq_some_iff.1 hi
  obtain ⟨h2, h2'⟩ := List.getElem?_eq_some_iff.1 hj
  have hp := List.nodup_iff_pairwise_ne.1 hn
  have := List.pairwise_iff_getElem.1 hp j i (by simpa using h2) (by simpa using h1) h
  simp only [List.getElem_map] at this
  rw [h1', h2'] at this
  exact this e
/-- The first e ends are told by the ranks. -/
def Upto (R Q : List Int) (e : Nat) (s t : Sec) : Prop := t.name = s.name ∧ t.pt = s.pt ∧ t.len = s.len ∧ (∀ f, f < 3 → f < e → t.get f = renEn R Q (s.get f)) ∧ ∀ f, f < 3 → e ≤ f → t.get f = s.get f
theorem Upto.zero (R Q : List Int) (s : Sec) : Upto R Q 0 s s := ⟨rfl, rfl, rfl, fun f _ h => absurd h (Nat.not_lt_zero f), fun _ _ _ => rfl⟩
theorem get_put {s : Sec} {e f : Nat} {a : En} (he : e < 3) (hf : f < 3) : (s.put e a).get f = if f = e then a else s.get f := by
  have h1 : e = 0 ∨ e = 1 ∨ e = 2 := by omega
  have h2 : f = 0 ∨ f = 1 ∨ f = 2 := by omega
  rcases h1 with rfl | rfl | rfl <;> rcases h2 with rfl | rfl | rfl <;> rfl
theorem put_name (s : Sec) (e : Nat) (a : En) : (s.put e a).name = s.name ∧ (s.put e a).pt = s.pt ∧ (s.put e a).len = s.len := by
  unfold Sec.put; split
  · exact ⟨rfl, rfl, rfl⟩
  · split <;> exact ⟨rfl, rfl, rfl⟩
theorem Upto.next {R Q : List Int} {e : Nat} {s t : Sec} (h : Upto R Q e s t) (he : e < 3) : Upto R Q (e + 1) s (t.put e (renEn R Q (s.get e))) := by
  obtain ⟨h1, h2, h3, h4, h5⟩ := h
  obtain ⟨p1, p2, p3⟩ := put_name t e (renEn R Q (s.get e))
  refine ⟨p1.trans h1, p2.trans h2, p3.trans h3, fun f hf hlt => ?_, fun f hf hle => ?_⟩
  · rw [get_put he hf]
    by_cases hfe : f = e
    · rw [if_pos hfe, hfe]
    · rw [if_neg hfe]; exact h4 f hf (by omega)
  · rw [get_put he hf, if_neg (by omega)]; exact h5 f hf (by omega)
theorem Upto.done {R Q : List Int} {s t : Sec} (h : Upto R Q 3 s t) : t = renSec R Q s := by
  obtain ⟨h1, h2, h3, h4, -⟩ := h
  have e0 := h4 0 (by decide) (by decide)
  have e1 := h4 1 (by decide) (by decide)
  have e2 := h4 2 (by decide) (by decide)
  cases t
  cases s
  simp only [Sec.get] at e0 e1 e2
  simp only at h1 h2 h3
  subst h1 h2 h3
  unfold renSec
  simp_all
/-- One end, as the walk turns it: where it leads, then its signal. -/
theorem put_ren {R Q : List Int} {e : Nat} {s t : Sec} (h : Upto R Q e s t) (he : e < 3) : (t.put e (renEn R Q (s.get e))) = (t.setTo e (ren1 R (t.get e).goes)).setSig e (ren1 Q (t.get e).sig) := by
  have hg := h.2.2.2.2 e he (Nat.le_refl e)
  rw [← hg]
  unfold Sec.setSig Sec.setTo
  have h1 : e = 0 ∨ e = 1 ∨ e = 2 := by omega
  rcases h1 with rfl | rfl | rfl <;> rfl
theorem setTo_same {t : Sec} {e : Nat} {R : List Int} (he : e < 3) (h : (t.get e).goes < 0) : t.setTo e (ren1 R (t.get e).goes) = t := by
  rw [ren_neg h]
  have h1 : e = 0 ∨ e = 1 ∨ e = 2 := by omega
  rcases h1 with rfl | rfl | rfl <;> rfl
theorem setSig_same {t : Sec} {e : Nat} {Q : List Int} (he : e < 3) (h : (t.get e).sig < 0) : t.setSig e (ren1 Q (t.get e).sig) = t := by
  rw [ren_neg h]
  have h1 : e = 0 ∨ e = 1 ∨ e = 2 := by omega
  rcases h1 with rfl | rfl | rfl <;> rfl
theorem setTo_get_sig {t : Sec} {e : Nat} (v : Int) (he : e < 3) : ((t.setTo e v).get e).sig = (t.get e).sig := by
  have h1 : e = 0 ∨ e = 1 ∨ e = 2 := by omega
  rcases h1 with rfl | rfl | rfl <;> rfl
end Go.Proofs.Ytgajdfecajleiaa.Pl
/-
  Plain mathematics of layer 5: sections as a draft holds them, which doesn't tell of signals at ends. No program is named here.
-/
namespace Go.Proofs.Ytgajdfecajleiaa.Pl
open Go It

def clrE (e : En) : En := ⟨e.goes, e.at_, -1⟩
def clr (s : Sec) : Sec := ⟨s.name, s.pt, s.len, clrE s.e0, clrE s.e1, clrE s.e2⟩
/-- The sections as they were told, of which no end tells of a signal. -/
def dS (M : List Itm) : List Sec := (wS M).map clr
end Go.Proofs.Ytgajdfecajleiaa.Pl
/-
  The program's draft of layer 5 in memory: its numbers, its sections and signals as they were told.
-/
namespace Go.Proofs.Ytgajdfecajleiaa
open Go.RowKit

/-- A draft's cells: which numbers are told, the numbers, its sections, its signals. -/
def draftCells (M : List It.Itm) (vS vG : Value) : Array Value :=
  #[.bool false, .bool (toldB M 1), .bool (toldB M 2), .bool (toldB M 3), .bool (toldB M 4), .int .i64 0, .int .i64 (Pl.num M 1), .int .i64 (Pl.num M 2), .int .i64 (Pl.num M 3), .int .i64 (Pl.num M 4), vS, vG]
/-- Block g is a draft, with the numbers of M, and these sections and signals. -/
def DrX (tD tS tG : TypeId) (w : World) (g : Nat) (M : List It.Itm) (vS vG : Value) (LS : List Pl.Sec) (LG : List Pl.Sig) : Prop :=
  w.heap[g]? = some (.cells (draftCells M vS vG) tD (0, 0)) ∧ w.ownsRow (g + 1) tS LSec.m vS LS.length (LSec.all LS) ∧ w.ownsRow (g + 1) tG LSig.m vG LG.length (LSig.all LG) ∧ ∀ k, vS.ownBlock = some k → vG.ownBlock ≠ some k
/-- Block g is the draft behind the lines M. -/
def DrAt (tD tS tG : TypeId) (w : World) (g : Nat) (M : List It.Itm) : Prop := ∃ vS vG, DrX tD tS tG w g M vS vG (Pl.dS M) (Pl.wG M)
theorem DrX.below {tD tS tG : TypeId} {w w' : World} {g : Nat} {M : List It.Itm} {vS vG : Value} {LS : List Pl.Sec} {LG : List Pl.Sig} (h : DrX tD tS tG w g M vS vG LS LG) (hb : Below w.heap.size w w') : DrX tD tS tG w' g M vS vG LS LG := by
  obtain ⟨h1, h2, h3, h4⟩ := h
  exact ⟨(hb.block _ (Array.getElem?_eq_some_iff.1 h1).1).trans h1, ownsRow_below h2 hb, ownsRow_below h3 hb, h4⟩
theorem DrAt.below {tD tS tG : TypeId} {w w' : World} {g : Nat} {M : List It.Itm} (h : DrAt tD tS tG w g M) (hb : Below w.heap.size w w') : DrAt tD tS tG w' g M := by
  obtain ⟨vS, vG, h⟩ := h
  exact ⟨vS, vG, h.below hb⟩
theorem DrX.drew {tD tS tG : TypeId} {w : World} {g : Nat} {M : List It.Itm} {vS vG : Value} {LS : List Pl.Sec} {LG : List Pl.Sig} (h : DrX tD tS tG w g M vS vG LS LG) : DrX tD tS tG w.drew g M vS vG LS LG :=
  ⟨h.1, h.2.1.drew, h.2.2.1.drew, h.2.2.2⟩
theorem draft_row {w : World} {g : Nat} {t : TypeId} {M : List It.Itm} {vS vG : Value} (h : w.heap[g]? = some (.cells (draftCells M vS vG) t (0, 0))) :
    (w.cell? ⟨g, 1, none⟩ = some (.bool (toldB M 1)) ∧ w.cell? ⟨g, 2, none⟩ = some (.bool (toldB M 2)) ∧ w.cell? ⟨g, 3, none⟩ = some (.bool (toldB M 3)) ∧ w.cell? ⟨g, 4, none⟩ = some (.bool (toldB M 4))) ∧
    (w.cell? ⟨g, 6, none⟩ = some (.int .i64 (Pl.num M 1)) ∧ w.cell? ⟨g, 7, none⟩ = some (.int .i64 (Pl.num M 2)) ∧ w.cell? ⟨g, 8, none⟩ = some (.int .i64 (Pl.num M 3)) ∧ w.cell? ⟨g, 9, none⟩ = some (.int .i64 (Pl.num M 4))) ∧
    (w.cell? ⟨g, 10, none⟩ = some vS ∧ w.cell? ⟨g, 11, none⟩ = some vG) ∧ (∀ j, w.frozen? ⟨g, j, none⟩ = false) ∧ g < w.heap.size :=
  ⟨⟨cell_of_row w g 1 _ t _ h, cell_of_row w g 2 _ t _ h, cell_of_row w g 3 _ t _ h, cell_of_row w g 4 _ t _ h⟩,
    ⟨cell_of_row w g 6 _ t _ h, cell_of_row w g 7 _ t _ h, cell_of_row w g 8 _ t _ h, cell_of_row w g 9 _ t _ h⟩,
    ⟨cell_of_row w g 10 _ t _ h, cell_of_row w g 11 _ t _ h⟩, fun j => frozen_of_row w g j _ t h, (Array.getElem?_eq_some_iff.1 h).1⟩
/-- One cell of one section is written. -/
theorem DrX.store {tD tS tG : TypeId} {w : World} {g gb n cap : Nat} {M : List It.Itm} {vG : Value} {LS : List Pl.Sec} {LG : List Pl.Sig} (h : DrX tD tS tG w g M (.slice (some ⟨gb, 0, none⟩) n cap) vG LS LG) {i j : Nat} {s : Pl.Sec} (hs : LS[i]? = some s) (hj : j < 12) (F : Pl.Sec → Pl.Sec) (u : Value) (hu : (secCells s).set j u = secCells (F s)) :
    DrX tD tS tG (w.setCell ⟨gb, i * 12 + j, none⟩ u) g M (.slice (some ⟨gb, 0, none⟩) n cap) vG (LS.modify i F) LG := by
  obtain ⟨h1, h2, h3, h4⟩ := h
  have hn : n = LS.length := by
    rcases h2.2 with ⟨h, _⟩ | ⟨g', cap', cur, h, _⟩
    · cases h
    · cases h; rfl
  subst hn
  have hgb := h2.lt gb rfl
  have hne : gb ≠ g := by omega
  refine ⟨?_, ?_, ?_, h4⟩
  · rw [heap_setCell_other _ ⟨gb, i * 12 + j, none⟩ g u (by simpa using fun e => hne e.symm)]; exact h1
  · have := (h2.stored (i * 12 + j) u).1
    rw [all_modify LS i j F s hs hj u hu] at this
    rw [List.length_modify]
    exact this
  · refine own_kept h3 fun b hb => heap_setCell_other _ ⟨gb, i * 12 + j, none⟩ b u ?_
    have := h4 gb rfl
    simpa using fun e => this (by rw [hb, e])
theorem DrX.slice {tD tS tG : TypeId} {w : World} {g : Nat} {M : List It.Itm} {vS vG : Value} {LS : List Pl.Sec} {LG : List Pl.Sig} (h : DrX tD tS tG w g M vS vG LS LG) (hn : 0 < LS.length) : ∃ gb cap, vS = .slice (some ⟨gb, 0, none⟩) LS.length cap := by
  obtain ⟨gb, cap, e, _⟩ := h.2.1.form hn
  exact ⟨gb, cap, e⟩
/-- What a walk reads of the draft, and of a section of it. -/
theorem DrX.reads {tD tS tG : TypeId} {w : World} {g gb n cap : Nat} {M : List It.Itm} {vG : Value} {LS : List Pl.Sec} {LG : List Pl.Sig} (h : DrX tD tS tG w g M (.slice (some ⟨gb, 0, none⟩) n cap) vG LS LG) {i e : Nat} {s : Pl.Sec} (hs : LS[i]? = some s) (he : e < 3) :
    w.cell? ⟨g, 10, none⟩ = some (.slice (some ⟨gb, 0, none⟩) n cap) ∧ w.cell? ⟨gb, i * 12 + 3 + e * 3, none⟩ = some (.int .i64 (s.get e).goes) ∧ w.cell? ⟨gb, i * 12 + 3 + e * 3 + 1, none⟩ = some (.int .i64 (s.get e).at_) ∧ w.cell? ⟨gb, i * 12 + 3 + e * 3 + 2, none⟩ = some (.int .i64 (s.get e).sig) ∧
      (∀ o, w.frozen? ⟨gb, o, none⟩ = false) ∧ g < w.heap.size ∧ gb < w.heap.size ∧ g < gb ∧ n = LS.length ∧ i < n := by
  obtain ⟨h1, h2, h3, h4⟩ := h
  have hn : n = LS.length := by
    rcases h2.2 with ⟨h, _⟩ | ⟨g', cap', cur, h, _⟩
    · cases h
    · cases h; rfl
  subst hn
  have on := Lies.own_on h2 hs
  have hgb := h2.lt gb rfl
  exact ⟨(draft_row h1).2.2.1.1, on_to on he, on_at on he, on_sig on he, fun o => h2.frozenAt o, (draft_row h1).2.2.2.2, hgb.2, by omega, rfl, (List.getElem?_eq_some_iff.1 hs).1⟩
theorem draft_keep {M : List It.Itm} {x : It.Itm} (h : It.isNum x.k = false) (vS vG : Value) : draftCells (M ++ [x]) vS vG = draftCells M vS vG := by
  have hk : ∀ k : Int, 1 ≤ k → k ≤ 4 → x.k ≠ k := fun k h1 h2 e => by
    unfold It.isNum at h
    exact absurd (show 1 ≤ x.k ∧ x.k ≤ 4 by omega) (of_decide_eq_false h)
  have n1 := hk 1 (by decide) (by decide)
  have n2 := hk 2 (by decide) (by decide)
  have n3 := hk 3 (by decide) (by decide)
  have n4 := hk 4 (by decide) (by decide)
  simp [draftCells, toldB_snoc, Pl.num_other n1, Pl.num_other n2, Pl.num_other n3, Pl.num_other n4, n1, n2, n3, n4]
end Go.Proofs.Ytgajdfecajleiaa
/-
  Slices of structs: made of noughts, and one element stored whole. No function of the program is named here.
-/
namespace Go.Proofs.Ytgajdfecajleiaa
open Go.RowKit

section
variable {α : Type} (E : Lies α)
theorem Lies.made (z : α) (zs : Array Value) (hz : zs = (E.enc z).toArray) (n : Nat) : madeCells zs (n * E.m) = (E.all (List.replicate n z)).toArray := by
  apply Array.toList_inj.1
  apply List.ext_getElem?
  intro i
  have hs : zs.size = E.m := by rw [hz]; simp [E.len]
  by_cases hi : i < n * E.m
  · have hp := E.pos
    have hk : i / E.m < n := (Nat.div_lt_iff_lt_mul hp).2 hi
    have e := E.all_at (List.replicate n z) (i / E.m) (i % E.m) z (by simp [hk]) (Nat.mod_lt _ hp)
    have hj : i / E.m * E.m + i % E.m = i := by rw [Nat.mul_comm]; exact Nat.div_add_mod i E.m
    rw [hj] at e
    rw [e]
    have hm : i % E.m < zs.size := by rw [hs]; exact Nat.mod_lt _ hp
    unfold madeCells
    rw [hs]
    subst hz
    simp only [Array.toList_map, Array.toList_range, List.getElem?_map]
    rw [List.getElem?_eq_getElem (by simpa using hi)]
    simp only [List.getElem_range, Option.map_some]
    have hm' : i % E.m < (E.enc z).length := by rw [E.len]; exact Nat.mod_lt _ hp
    rw [List.getElem?_eq_getElem hm']
    simp [hm']
  · rw [List.getElem?_eq_none (by simp [size_madeCells]; omega), List.getElem?_eq_none (by simp [E.all_len]; omega)]
variable {P : Program}
/-- make of so many. -/
theorem run_make_k (y : α) (t e : TypeId) (z : Value) (bytes : Nat) (ht : P.underlying t = some (.slice e)) (hinfo : (P.info? e).map (fun i => (i.zero, i.size, i.bytes)) = some (some z, E.m, bytes)) (hz1 : z.cells = (E.enc y).toArray)
    (kl kc : IntKind) (n : Nat) (hbytes : bytes * n ≤ 281474976710656) (h63 : n ≤ 9223372036854775807) (w : World) :
    (Instr.makeSlice t (.int kl (n : Int)) (.int kc (n : Int))).run P w = .ok (.slice (some ⟨w.heap.size, 0, none⟩) n n) (w.alloc (.cells (E.all (List.replicate n y)).toArray e)) := by
  obtain ⟨i, hi, hzz⟩ := Option.map_eq_some_iff.1 hinfo
  simp only [Prod.mk.injEq] at hzz
  obtain ⟨hz, hs, hb⟩ := hzz
  have hb' : (i.bytes : Int) * (n : Int) ≤ 281474976710656 := by
    have h : ((i.bytes * n : Nat) : Int) ≤ 281474976710656 := by rw [hb]; omega
    rwa [Int.natCast_mul] at h
  have hr := run_make (P := P) w t e i z ht hi hz kl kc n n (by omega) (Int.le_refl _) hb' (by omega)
  simp only [Int.toNat_natCast, hs] at hr
  rw [E.made y _ hz1] at hr
  exact hr
theorem Lies.all_split (X : List α) (k : Nat) (y : α) (hk : k < X.length) : (E.all X).take (k * E.m) ++ E.enc y ++ (E.all X).drop (k * E.m + E.m) = E.all (X.set k y) := by
  have h1 : X = X.take k ++ X[k] :: X.drop (k + 1) := by simp
  have e1 : E.all X = E.all (X.take k) ++ (E.enc X[k] ++ E.all (X.drop (k + 1))) := by rw [← E.all_cons, ← E.all_append, ← h1]
  have l1 : (E.all (X.take k)).length = k * E.m := by rw [E.all_len, List.length_take, Nat.min_eq_left (by omega)]
  have e2 : X.set k y = X.take k ++ y :: X.drop (k + 1) := by rw [List.set_eq_take_append_cons_drop, if_pos hk]
  rw [e2, E.all_append, E.all_cons, e1, List.take_append_of_le_length (by omega), List.take_of_length_le (by omega), List.append_assoc]
  congr 2
  rw [← l1, List.drop_append, List.drop_of_length_le (by omega)]
  rw [show (E.all (X.take k)).length + E.m - (E.all (X.take k)).length = (E.enc X[k]).length by rw [E.len]; omega, List.nil_append]
  exact List.drop_left
end
/-- Cells written one behind the other. -/
def setCells (w : World) (g o : Nat) : List Value → World
  | [] => w
  | v :: vs => setCells (w.setCell ⟨g, o, none⟩ v) g (o + 1) vs
theorem setCells_other (g b : Nat) (h : b ≠ g) : ∀ (vs : List Value) (o : Nat) (w : World), (setCells w g o vs).heap[b]? = w.heap[b]?
  | [], _, _ => rfl
  | v :: vs, o, w => by rw [setCells, setCells_other g b h vs, heap_setCell_other _ _ _ _ (by simpa using h)]
theorem setCells_below {B g : Nat} (hB : B ≤ g) {w0 : World} : ∀ (vs : List Value) (o : Nat) (w : World), Below B w0 w → Below B w0 (setCells w g o vs)
  | [], _, _, h => h
  | v :: vs, o, _, h => setCells_below hB vs (o + 1) _ (h.setCell (p := ⟨g, o, none⟩) hB v)
theorem setCells_row (g : Nat) (ty : TypeId) : ∀ (vs : List Value) (o : Nat) (cur : List Value) (w : World), w.heap[g]? = some (.cells cur.toArray ty (0, 0)) → o + vs.length ≤ cur.length →
    (setCells w g o vs).heap[g]? = some (.cells (cur.take o ++ vs ++ cur.drop (o + vs.length)).toArray ty (0, 0))
  | [], o, cur, w, h, _ => by simpa [setCells] using h
  | v :: vs, o, cur, w, h, hl => by
    have hl' : o + (vs.length + 1) ≤ cur.length := by simpa using hl
    have h1 : (w.setCell ⟨g, o, none⟩ v).heap[g]? = some (.cells (cur.set o v).toArray ty (0, 0)) := by
      rw [heap_setCell_same _ _ _ _ _ _ h]; simp
    rw [setCells, setCells_row g ty vs (o + 1) (cur.set o v) _ h1 (by rw [List.length_set]; omega)]
    congr 3
    have e1 : (cur.set o v).take (o + 1) = cur.take o ++ [v] := by
      rw [List.take_succ_eq_append_getElem (by rw [List.length_set]; omega), List.getElem_set_self, List.take_set_of_le (Nat.le_refl o)]
    have e2 : (cur.set o v).drop (o + 1 + vs.length) = cur.drop (o + (v :: vs).length) := by
      rw [List.drop_set_of_lt (by omega), List.length_cons]; congr 1; omega
    rw [e1, e2]; simp
/-- One element written. -/
theorem setCells_elem {α : Type} (E : Lies α) {w : World} {g : Nat} {ty : TypeId} {X : List α} (h : w.heap[g]? = some (.cells (E.all X).toArray ty (0, 0))) {k : Nat} (hk : k < X.length) (y : α) :
    (setCells w g (k * E.m) (E.enc y)).heap[g]? = some (.cells (E.all (X.set k y)).toArray ty (0, 0)) := by
  have hle : k * E.m + E.m ≤ X.length * E.m := by
    have := Nat.mul_le_mul_right E.m (show k + 1 ≤ X.length by omega)
    rwa [Nat.succ_mul] at this
  rw [setCells_row g ty _ _ _ _ h (by rw [E.len, E.all_len]; exact hle), E.len, E.all_split X k y hk]
theorem row_on {α : Type} {E : Lies α} {w : World} {g : Nat} {X : List α} {ty : TypeId} (h : w.heap[g]? = some (.cells (E.all X).toArray ty (0, 0))) {k : Nat} {y : α} (hk : X[k]? = some y) : E.On w g (k * E.m) y := fun j v hj => by
  have hjl : j < E.m := by
    have := (List.getElem?_eq_some_iff.1 hj).1
    rwa [E.len] at this
  rw [cell_of_row w g _ _ ty _ h, List.getElem?_toArray, E.all_at X k j y hk hjl]; exact hj
theorem row_made {α : Type} {E : Lies α} {w : World} {g : Nat} {X : List α} {ty : TypeId} (h : w.heap[g]? = some (.cells (E.all X).toArray ty (0, 0))) : E.Row w (some ⟨g, 0, none⟩) X :=
  .inr ⟨g, 0, rfl, (Array.getElem?_eq_some_iff.1 h).1, fun k y hk => by rw [Nat.zero_add]; exact row_on h hk⟩
end Go.Proofs.Ytgajdfecajleiaa
/-
  A section in a block of its own.
-/
namespace Go.Proofs.Ytgajdfecajleiaa
open Go.RowKit

theorem heap_sec {w : World} {g : Nat} {t : Pl.Sec} {ty : TypeId} (h : w.heap[g]? = some (.cells (secCells t).toArray ty (0, 0))) : LSec.On w g 0 t := fun j v hj => by
  rw [Nat.zero_add, cell_of_row w g j _ ty _ h, List.getElem?_toArray]; exact hj
theorem set_sec {w : World} {g j : Nat} {t u : Pl.Sec} {ty : TypeId} {v : Value} (h : w.heap[g]? = some (.cells (secCells t).toArray ty (0, 0))) (hu : (secCells t).set j v = secCells u) : (w.setCell ⟨g, j, none⟩ v).heap[g]? = some (.cells (secCells u).toArray ty (0, 0)) := by
  rw [heap_setCell_same _ _ _ _ _ _ h, ← hu]
  simp
end Go.Proofs.Ytgajdfecajleiaa
/-
  The walk of the program's draft of layer 5: the end that is named.
-/
namespace Go.Proofs.Ytgajdfecajleiaa
open Go.RowKit

/-- What the named end's call leaves. -/
def SpotGives (L : List Pl.Sec) (t : It.Tp) (w : World) (e : Ending) (w' : World) : Prop := e = .returned (.tuple #[.agg #[.int .i64 (endI L t).1, .int .i64 (endI L t).2.1], .int .i64 (endI L t).2.2]) ∧ Below w.heap.size w w'
theorem SpotGives.mk {L : List Pl.Sec} {t : It.Tp} {w w' : World} {e : Ending} (a b c : Int) (h : endI L t = (a, b, c)) (he : e = .returned (.tuple #[.agg #[.int .i64 a, .int .i64 b], .int .i64 c])) (hb : Below w.heap.size w w') : SpotGives L t w e w' := by
  refine ⟨?_, hb⟩
  rw [h]; exact he
def UnusedGives (L : List Pl.Sec) (t : It.Tp) (w : World) (x : Ending) (w' : World) : Prop := ∃ a b c, x = .returned (.tuple #[.agg #[.int .i64 a, .int .i64 b], .int .i64 c]) ∧ FreeIs L t (a, b, c) ∧ Below w.heap.size w w'
theorem UnusedGives.mk {L : List Pl.Sec} {t : It.Tp} {w w' : World} {x : Ending} (a b c : Int) (h : FreeIs L t (a, b, c)) (he : x = .returned (.tuple #[.agg #[.int .i64 a, .int .i64 b], .int .i64 c])) (hb : Below w.heap.size w w') : UnusedGives L t w x w' := ⟨a, b, c, he, h, hb⟩
theorem two_blocks (w : World) (a b : Obj) : ((w.alloc a).alloc b).heap[w.heap.size]? = some a ∧ ((w.alloc a).alloc b).heap[w.heap.size + 1]? = some b ∧ Below w.heap.size w ((w.alloc a).alloc b) ∧ ((w.alloc a).alloc b).heap.size = w.heap.size + 2 := by
  have s1 : (w.alloc a).heap.size = w.heap.size + 1 := by simp
  refine ⟨?_, ?_, ((Below.refl _ _).alloc (Nat.le_refl _) _).alloc (by omega) _, by simp⟩
  · rw [heap_alloc_old _ _ (by omega)]; exact heap_alloc_new _ _
  · rw [← s1]; exact heap_alloc_new _ _
/-- What the search through a section's ends keeps. -/
def SpotLoop (tt ts tS : TypeId) (w : World) (gs : Nat) (s : Pl.Sec) (t : It.Tp) (wr : World) : Prop :=
  Below w.heap.size w wr ∧ wr.heap[w.heap.size]? = some (.cells #[.string (txt t.n), .int .u8 t.c.toNat] tt (0, 0)) ∧ wr.heap[w.heap.size + 1]? = some (.cells #[.int .i64 0, .int .i64 0] ts (0, 0)) ∧ wr.heap[gs]? = some (.cells (secCells s).toArray tS (0, 0))
theorem SpotLoop.start {tt ts : TypeId} {w w' : World} {t : It.Tp} (hb : Below w.heap.size w w') (h0 : w'.heap[w.heap.size]? = some (.cells #[.string (txt t.n), .int .u8 t.c.toNat] tt (0, 0))) (h1 : w'.heap[w.heap.size + 1]? = some (.cells #[.int .i64 0, .int .i64 0] ts (0, 0))) (s : Pl.Sec) (tS : TypeId) :
    SpotLoop tt ts tS w w'.heap.size s t (w'.alloc (.cells (secCells s).toArray tS)) :=
  ⟨hb.alloc hb.size _, (heap_alloc_old _ _ (Array.getElem?_eq_some_iff.1 h0).1).trans h0, (heap_alloc_old _ _ (Array.getElem?_eq_some_iff.1 h1).1).trans h1, heap_alloc_new _ _⟩
theorem SpotLoop.drewN {tt ts tS : TypeId} {w wr : World} {gs : Nat} {s : Pl.Sec} {t : It.Tp} (h : SpotLoop tt ts tS w gs s t wr) (n : Nat) : SpotLoop tt ts tS w gs s t (wr.drewN n) := ⟨below_drewN h.1 n, h.2⟩
theorem SpotLoop.drew {tt ts tS : TypeId} {w wr : World} {gs : Nat} {s : Pl.Sec} {t : It.Tp} (h : SpotLoop tt ts tS w gs s t wr) : SpotLoop tt ts tS w gs s t wr.drew := ⟨h.1.drew, h.2⟩
end Go.Proofs.Ytgajdfecajleiaa
/-
  The walks of the program's draft of layer 5: a number, a stop, a join more.
-/
namespace Go.Proofs.Ytgajdfecajleiaa
open Go.RowKit

theorem DrAt.row {tD tS tG : TypeId} {w w' : World} {g : Nat} {M K : List It.Itm} {vS vG : Value} {LS : List Pl.Sec} {LG : List Pl.Sig} (h : DrX tD tS tG w g M vS vG LS LG)
    (hrow : w'.heap[g]? = some (.cells (draftCells K vS vG) tD (0, 0))) (hk : ∀ b, b ≠ g → b < w.heap.size → w'.heap[b]? = w.heap[b]?) (e1 : Pl.dS K = LS) (e2 : Pl.wG K = LG) : DrAt tD tS tG w' g K := by
  obtain ⟨-, hS, hG, hap⟩ := h
  refine ⟨vS, vG, hrow, ?_, ?_, hap⟩
  · rw [e1]
    refine ⟨hS.1, ?_⟩
    rcases hS.2 with hn | ⟨b, cap, cur, rfl, hbb, hgg, rest⟩
    · exact .inl hn
    · exact .inr ⟨b, cap, cur, rfl, hbb, by rw [hk b (by omega) (Array.getElem?_eq_some_iff.1 hgg).1]; exact hgg, rest⟩
  · rw [e2]
    refine ⟨hG.1, ?_⟩
    rcases hG.2 with hn | ⟨b, cap, cur, rfl, hbb, hgg, rest⟩
    · exact .inl hn
    · exact .inr ⟨b, cap, cur, rfl, hbb, by rw [hk b (by omega) (Array.getElem?_eq_some_iff.1 hgg).1]; exact hgg, rest⟩
end Go.Proofs.Ytgajdfecajleiaa
/-
  The walk of the program's draft of layer 5: a section more.
-/
namespace Go.Proofs.Ytgajdfecajleiaa
open Go.RowKit

/-- A row of the draft's own has grown, and is the draft's again. -/
theorem DrX.sections {tD tS tG : TypeId} {w w1 w2 : World} {g : Nat} {M : List It.Itm} {x : It.Itm} {s : Pl.Sec} {vS vG v' : Value} {g' cap' : Nat} (h : DrX tD tS tG w g M vS vG (Pl.dS M) (Pl.wG M))
    (hb : Below w.heap.size w w1) (hgr : w1.grownBy w2 vS.ownBlock) (hv : v' = .slice (some ⟨g', 0, none⟩) ((Pl.dS M).length + 1) cap') (hown : w2.ownsRow (g + 1) tS LSec.m v' ((Pl.dS M).length + 1) (LSec.all (Pl.dS M) ++ LSec.enc s)) (hg' : vS.ownBlock = some g' ∨ w.heap.size ≤ g')
    (hk : It.isNum x.k = false) (e1 : Pl.dS (M ++ [x]) = Pl.dS M ++ [s]) (e2 : Pl.wG (M ++ [x]) = Pl.wG M) : DrAt tD tS tG (w2.setCell ⟨g, 10, none⟩ v') g (M ++ [x]) ∧ Below g w (w2.setCell ⟨g, 10, none⟩ v') := by
  obtain ⟨hrow, hS, hG, hap⟩ := h
  have hg := (Array.getElem?_eq_some_iff.1 hrow).1
  have hbs := hb.size
  have hne : some g ≠ vS.ownBlock := fun e => by have := (hS.lt g e.symm).1; omega
  have row2 : w2.heap[g]? = some (.cells (draftCells M vS vG) tD (0, 0)) := by rw [hgr.block g (by omega) hne, hb.block g hg]; exact hrow
  refine ⟨⟨v', vG, ?_, ?_, ?_, ?_⟩, ?_⟩
  · rw [heap_setCell_same _ _ _ _ _ _ row2, draft_keep hk]; rfl
  · rw [e1, List.length_append, List.length_singleton, LSec.all_append, LSec.all_one]
    exact ownsRow_setCell_below hown (a := ⟨g, 10, none⟩) (by show g < g + 1; omega) v'
  · rw [e2]
    refine ownsRow_setCell_below (own_kept hG fun b hb' => ?_) (a := ⟨g, 10, none⟩) (by show g < g + 1; omega) v'
    have hlt := (hG.lt b hb').2
    rw [hgr.block b (by omega) (fun e => hap b e.symm hb'), hb.block b hlt]
  · subst hv
    intro k hk1 hk2
    have : g' = k := by simpa [Value.ownBlock] using hk1
    subst this
    rcases hg' with h | h
    · exact hap g' h hk2
    · have := (hG.lt g' hk2).2; omega
  · have hb' : Below g w w1 := hb.mono (Nat.le_of_lt hg)
    exact (hb'.grown hgr (by omega) (fun k hk => by have := (hS.lt k hk).1; omega)).setCell (Nat.le_refl _) _
end Go.Proofs.Ytgajdfecajleiaa
/-
  The walk of the program's draft of layer 5: a signal more.
-/
namespace Go.Proofs.Ytgajdfecajleiaa
open Go.RowKit

/-- The draft's signals have grown. -/
theorem DrX.signals {tD tS tG : TypeId} {w w1 w2 : World} {g : Nat} {M : List It.Itm} {vS vG v' : Value} {LS : List Pl.Sec} {LG : List Pl.Sig} {z : Pl.Sig} {g' cap' : Nat} (h : DrX tD tS tG w g M vS vG LS LG)
    (hb : Below w.heap.size w w1) (hgr : w1.grownBy w2 vG.ownBlock) (hv : v' = .slice (some ⟨g', 0, none⟩) (LG.length + 1) cap') (hown : w2.ownsRow (g + 1) tG LSig.m v' (LG.length + 1) (LSig.all LG ++ LSig.enc z)) (hg' : vG.ownBlock = some g' ∨ w.heap.size ≤ g') :
    DrX tD tS tG (w2.setCell ⟨g, 11, none⟩ v') g M vS v' LS (LG ++ [z]) ∧ Below g w (w2.setCell ⟨g, 11, none⟩ v') := by
  obtain ⟨hrow, hS, hG, hap⟩ := h
  have hg := (Array.getElem?_eq_some_iff.1 hrow).1
  have hbs := hb.size
  have hne : some g ≠ vG.ownBlock := fun e => by have := (hG.lt g e.symm).1; omega
  have row2 : w2.heap[g]? = some (.cells (draftCells M vS vG) tD (0, 0)) := by rw [hgr.block g (by omega) hne, hb.block g hg]; exact hrow
  refine ⟨⟨?_, ?_, ?_, ?_⟩, ?_⟩
  · rw [heap_setCell_same _ _ _ _ _ _ row2]; rfl
  · refine ownsRow_setCell_below (own_kept hS fun b hb' => ?_) (a := ⟨g, 11, none⟩) (by show g < g + 1; omega) v'
    have hlt := (hS.lt b hb').2
    rw [hgr.block b (by omega) (fun e => hap b hb' e.symm), hb.block b hlt]
  · rw [List.length_append, List.length_singleton, LSig.all_append, LSig.all_one]
    exact ownsRow_setCell_below hown (a := ⟨g, 11, none⟩) (by show g < g + 1; omega) v'
  · subst hv
    intro k hk1 hk2
    have : g' = k := by simpa [Value.ownBlock] using hk2
    subst this
    rcases hg' with h | h
    · exact hap g' hk1 h
    · have := (hS.lt g' hk1).2; omega
  · have hb' : Below g w w1 := hb.mono (Nat.le_of_lt hg)
    exact (hb'.grown hgr (by omega) (fun k hk => by have := (hG.lt k hk).1; omega)).setCell (Nat.le_refl _) _
end Go.Proofs.Ytgajdfecajleiaa
