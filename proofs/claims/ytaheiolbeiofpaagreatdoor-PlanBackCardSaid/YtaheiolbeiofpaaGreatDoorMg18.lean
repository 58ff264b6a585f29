/-
  Texts of this claim, merged: PlDrK, PlDrM, PlDrN, PlDrO, PlDrP.
-/
import Derived.Test.YtaheiolbeiofpaaGreatDoorMg17
import Derived.Shelf.SlSortCmp.NoneTotal
import Derived.Shelf.SlSortCmp.WholeK
/-
  The walk of the program's draft of layer 5: what a line lacks.
-/
namespace Go.Proofs.YtaheiolbeiofpaaGreatDoor
open Go.RowKit

def enCells (e : Pl.En) : List Value := [.int .i64 e.goes, .int .i64 e.at_, .int .i64 e.sig]
instance instInhEn : Inhabited Pl.En := ⟨Pl.stop⟩
set_option maxHeartbeats 4000000 in
set_option maxRecDepth 100000 in
theorem pOpen (w : World) : PredBelow Tryz.prog 50 #[] (fun x => .agg (enCells x).toArray) (fun x => x.goes == -2) w := fun W x hb => by
  have HB := Lib.hid hb
  have hs := hb.size
  show Calls Tryz.prog 50 #[.agg #[.int .i64 x.goes, .int .i64 x.at_, .int .i64 x.sig]] W _
  clear hb
  go_enter Tryz.func50, Tryz.ntmps50
  go_wp2
  go_ret
  exact ⟨rfl, HB.out.alloc hs _⟩
/-- Whether one of three ends is open. -/
theorem pOpens (w : World) (gs : Nat) (s : Pl.Sec) (h : w.heap[gs]? = some (.cells (secCells s).toArray 51 (0, 0))) :
    Calls Tryz.prog 49 #[.slice (some ⟨gs, 3, none⟩) 3 3, .func (.func 50) #[] #[]] w fun e w' => e = .returned (.bool ([s.e0, s.e1, s.e2].any fun x => x.goes == -2)) ∧ Below w.heap.size w w' := by
  have eg : ∀ args w, (callFunc 50 args).run Tryz.prog w = .ok (.enter 50 args) w := enters_of Tryz.func50 (by kernel_rfl) rfl
  have c := fun j => cell_of_row w gs j _ _ _ h
  have := AnyQ.slices_ContainsFunc Tryz.layHasEnd 3 Tryz.isAgg48 Tryz.sizeOf48 enCells (fun _ => rfl) (fun x => x.goes == -2) 50 #[] eg gs 3 3 3 [s.e0, s.e1, s.e2] w (pOpen w) (Nat.le_refl _) (by omega) (Array.getElem?_eq_some_iff.1 h).1 (fun j hj i v hi => by
    have hj' : j = 0 ∨ j = 1 ∨ j = 2 := by simp at hj; omega
    have hi' : i = 0 ∨ i = 1 ∨ i = 2 := by
      have := (List.getElem?_eq_some_iff.1 hi).1
      simp [enCells] at this; omega
    rcases hj' with rfl | rfl | rfl <;> rcases hi' with rfl | rfl | rfl <;> (rw [c]; exact hi))
  exact this
theorem opens_lack {L : List It.Itm} {x : It.Itm} (hs : Pl.isS x = true) {s : Pl.Sec} (he : s = Pl.clr (Pl.secG (Pl.gW L) x)) : Pl.lackErr L x = if [s.e0, s.e1, s.e2].any (fun x => x.goes == -2) then 7 else 0 := by
  have e : ∀ j, (s.get j).goes = ((Pl.secG (Pl.gW L) x).get j).goes := fun j => by rw [he, Pl.clr_get]; rfl
  by_cases h : [s.e0, s.e1, s.e2].any (fun x => x.goes == -2) = true
  · rw [if_pos h]
    have : ∃ j, j < 3 ∧ (s.get j).goes = -2 := by
      simp only [List.any_cons, List.any_nil, Bool.or_false, Bool.or_eq_true, beq_iff_eq] at h
      rcases h with h | h | h
      · exact ⟨0, by decide, h⟩
      · exact ⟨1, by decide, h⟩
      · exact ⟨2, by decide, h⟩
    obtain ⟨j, hj, h2⟩ := this
    exact lack_open hs hj ((e j).symm.trans h2)
  · rw [if_neg h]
    refine lack_shut hs fun j hj hc => h ?_
    rw [← e] at hc
    simp only [List.any_cons, List.any_nil, Bool.or_false, Bool.or_eq_true, beq_iff_eq]
    have : j = 0 ∨ j = 1 ∨ j = 2 := by omega
    rcases this with rfl | rfl | rfl
    · exact .inl hc
    · exact .inr (.inl hc)
    · exact .inr (.inr hc)
def noSec : Pl.Sec := ⟨[], false, 0, ⟨0, 0, 0⟩, ⟨0, 0, 0⟩, ⟨0, 0, 0⟩⟩
theorem secA (w : World) (s : Pl.Sec) (ty : TypeId) : w.alloc (.cells #[.string (txt s.name), .bool s.pt, .int .i64 s.len, .int .i64 s.e0.goes, .int .i64 s.e0.at_, .int .i64 s.e0.sig, .int .i64 s.e1.goes, .int .i64 s.e1.at_, .int .i64 s.e1.sig, .int .i64 s.e2.goes, .int .i64 s.e2.at_, .int .i64 s.e2.sig] ty) = w.alloc (.cells (secCells s).toArray ty) := rfl
theorem sec12 (w : World) (g : Nat) (s : Pl.Sec) : ((((((((((((w.setCell ⟨g, 0, none⟩ (.string (txt s.name))).setCell ⟨g, 1, none⟩ (.bool s.pt)).setCell ⟨g, 2, none⟩ (.int .i64 s.len)).setCell ⟨g, 3, none⟩ (.int .i64 s.e0.goes)).setCell ⟨g, 4, none⟩ (.int .i64 s.e0.at_)).setCell ⟨g, 5, none⟩ (.int .i64 s.e0.sig)).setCell ⟨g, 6, none⟩ (.int .i64 s.e1.goes)).setCell ⟨g, 7, none⟩ (.int .i64 s.e1.at_)).setCell ⟨g, 8, none⟩ (.int .i64 s.e1.sig)).setCell ⟨g, 9, none⟩ (.int .i64 s.e2.goes)).setCell ⟨g, 10, none⟩ (.int .i64 s.e2.at_)).setCell ⟨g, 11, none⟩ (.int .i64 s.e2.sig)) = setCells w g 0 (secCells s) := rfl
theorem zero_sec {w0 w' : World} {gs : Nat} {ty : TypeId} (hg : w0.heap.size = gs) (hbl : Below ((w0.alloc (.cells (secCells noSec).toArray ty)).drew).heap.size ((w0.alloc (.cells (secCells noSec).toArray ty)).drew) w') : w'.heap[gs]? = some (.cells (secCells noSec).toArray ty (0, 0)) := by
  subst hg
  exact (hbl.block _ (by simp)).trans (heap_alloc_new w0 _)
theorem setCells_sec {w : World} {gs : Nat} {ty : TypeId} {t : Pl.Sec} (h : w.heap[gs]? = some (.cells (secCells t).toArray ty (0, 0))) (s : Pl.Sec) : (setCells w gs 0 (secCells s)).heap[gs]? = some (.cells (secCells s).toArray ty (0, 0)) := by
  rw [setCells_row gs ty (secCells s) 0 (secCells t) w h (by simp [secCells])]
  congr 3
set_option maxHeartbeats 8000000 in
set_option maxRecDepth 100000 in
theorem pCheck_any (g : Nat) (L : List It.Itm) (x : It.Itm) (w : World) (h : DrAt tyD tyS tyG w g L) (hL : Pl.Ok L) (hx : x ∈ L) (hp : Pl.isG x = true → Pl.partner L x.e0 ≠ none) :
    Calls Tryz.prog 26 #[.pointer (some ⟨g, 0, none⟩), itemV x] w (LackGives L x w) := by
  have hr := hL.right x hx
  have hl : (Pl.dS L).length ≤ 1000 := by rw [Pl.dS_len]; have := hL.few; omega
  obtain ⟨vS, vG, hX⟩ := h
  have hg := (Array.getElem?_eq_some_iff.1 hX.1).1
  obtain ⟨-, A, cp, rfl, -, hR⟩ := Lies.Row.of_own hX.2.1
  have X0 := Lib.hid ((Below.refl w.heap.size w).alloc (Nat.le_refl _) (.cells (item7 x) 44))
  have R7 := Lib.hid (show (w.alloc (.cells (item7 x) 44)).heap[w.heap.size]? = some (.cells #[.int .i64 x.k, .string (txt x.name), .int .i64 x.n, .string (txt x.e0.n), .int .u8 x.e0.c.toNat, .string (txt x.e1.n), .int .u8 x.e1.c.toNat] 44 (0, 0)) from heap_alloc_new _ _)
  obtain ⟨⟨k0, k1, k2, k3, k4, k5, k6⟩, -, g2⟩ := row7 R7.out
  have hX0 := hX.below X0.out
  obtain ⟨-, -, ⟨s10, -⟩, -, g1⟩ := draft_row hX0.1
  have hk := Pl.right_kind hr
  have hk' : (1 ≤ x.k ∧ x.k ≤ 4) ∨ (x.k = 5 ∨ x.k = 6) ∨ (x.k = 7 ∨ x.k = 8) ∨ x.k = 9 := by omega
  rcases hk' with h14 | h56 | h78 | h9
  · have hN : Pl.isS x = false ∧ Pl.isG x = false := ⟨(Pl.num_facts (by unfold It.isNum; exact decide_eq_true h14)).1, (Pl.num_facts (by unfold It.isNum; exact decide_eq_true h14)).2.1⟩
    have P := Lib.hid (lack_other (L := L) hN.1 hN.2)
    have q5 : (x.k == 5) = false := by rw [beq_eq_false_iff_ne]; omega
    have q6 : (x.k == 6) = false := by rw [beq_eq_false_iff_ne]; omega
    have q9 : (x.k == 9) = false := by rw [beq_eq_false_iff_ne]; omega
    clear h14 hk hN hX hX0 hR hL hr hl hp
    go_enter Tryz.func26, Tryz.ntmps26
    go_wp2_with fail
    go_ret
    exact LackGives.mk _ P.out rfl X0.out
  · have hs : Pl.isS x = true := by unfold Pl.isS It.isLen; exact decide_eq_true (by omega)
    have hm : x ∈ Pl.secs L := Pl.mem_secs.2 ⟨hx, hs⟩
    obtain ⟨i, hi, hf⟩ : ∃ i, (Pl.secs L)[i]? = some x ∧ Pl.find (Pl.dS L) x.name = (i : Nat) := by
      rcases Pl.find_dS (M := L) x.name with ⟨hn, _⟩ | ⟨i, y, hf, hy, hn⟩
      · exact absurd (Pl.mem_nmS.2 ⟨x, hm, rfl⟩) hn
      · have := Pl.uniq hL.names (List.mem_of_getElem? hy) hm hn
        subst this
        exact ⟨i, hy, hf⟩
    have hin := (List.getElem?_eq_some_iff.1 (Pl.dS_of hi)).1
    obtain ⟨gb, cap, hvs⟩ := hX0.slice (by omega)
    obtain ⟨rfl, rfl⟩ : A = some ⟨gb, 0, none⟩ ∧ cp = cap := by cases hvs; exact ⟨rfl, rfl⟩
    have gb1 := (hX0.2.1.lt gb rfl).2
    have on := Lies.own_on hX0.2.1 (Pl.dS_of hi)
    obtain ⟨S0, hS0⟩ : ∃ s, s = Pl.clr (Pl.secG (Pl.gW L) x) := ⟨_, rfl⟩
    have LO := Lib.hid (opens_lack (L := L) hs hS0)
    rw [← hS0] at on
    have FN := Lib.hid (fun W (h : Below (w.alloc (.cells (item7 x) 44)).heap.size (w.alloc (.cells (item7 x) 44)) W) => Made.of h (pFind_any (some ⟨gb, 0, none⟩) cp (Pl.dS L) x.name W ((hR.below rfl X0.out).below rfl h) (by omega)))
    rw [hf] at FN
    obtain ⟨o0, o1, o2, o3, o4, o5, o6, o7, o8, o9, o10, o11⟩ := sec_on on
    rw [show i * LSec.m = i * 12 from rfl] at o0 o1 o2 o3 o4 o5 o6 o7 o8 o9 o10 o11
    have KS := Lib.hid (fun w' (hb : Below (w.alloc (.cells (item7 x) 44)).heap.size (w.alloc (.cells (item7 x) 44)) w') => show w'.cell? ⟨g, 10, none⟩ = some (.slice (some ⟨gb, 0, none⟩) (Pl.dS L).length cp) ∧ w'.cell? ⟨w.heap.size, 1, none⟩ = some (.string (txt x.name)) ∧ w'.cell? ⟨gb, i * 12, none⟩ = some (.string (txt S0.name)) ∧ w'.cell? ⟨gb, i * 12 + 1, none⟩ = some (.bool S0.pt) ∧ w'.cell? ⟨gb, i * 12 + 2, none⟩ = some (.int .i64 S0.len) ∧ w'.cell? ⟨gb, i * 12 + 3, none⟩ = some (.int .i64 S0.e0.goes) ∧ w'.cell? ⟨gb, i * 12 + 4, none⟩ = some (.int .i64 S0.e0.at_) ∧ w'.cell? ⟨gb, i * 12 + 5, none⟩ = some (.int .i64 S0.e0.sig) ∧ w'.cell? ⟨gb, i * 12 + 6, none⟩ = some (.int .i64 S0.e1.goes) ∧ w'.cell? ⟨gb, i * 12 + 7, none⟩ = some (.int .i64 S0.e1.at_) ∧ w'.cell? ⟨gb, i * 12 + 8, none⟩ = some (.int .i64 S0.e1.sig) ∧ w'.cell? ⟨gb, i * 12 + 9, none⟩ = some (.int .i64 S0.e2.goes) ∧ w'.cell? ⟨gb, i * 12 + 10, none⟩ = some (.int .i64 S0.e2.at_) ∧ w'.cell? ⟨gb, i * 12 + 11, none⟩ = some (.int .i64 S0.e2.sig) from
      have k := fun o => hb.cell (p := ⟨gb, o, none⟩) gb1
      ⟨(hb.cell (p := ⟨g, 10, none⟩) g1).trans s10, (hb.cell (p := ⟨w.heap.size, 1, none⟩) g2).trans k1, (k _).trans o0, (k _).trans o1, (k _).trans o2, (k _).trans o3, (k _).trans o4, (k _).trans o5, (k _).trans o6, (k _).trans o7, (k _).trans o8, (k _).trans o9, (k _).trans o10, (k _).trans o11⟩)
    have W0 := Lib.hid (Below.refl (w.alloc (.cells (item7 x) 44)).heap.size (w.alloc (.cells (item7 x) 44)))
    have q56 : (x.k == 5) = true ∨ ((x.k == 5) = false ∧ (x.k == 6) = true) := by
      rcases h56 with h | h
      · exact .inl (by rw [beq_iff_eq]; exact h)
      · exact .inr ⟨by rw [beq_eq_false_iff_ne]; omega, by rw [beq_iff_eq]; exact h⟩
    clear hvs on hf hi hm hs hX hX0 hR hL hr hl hk h56 hx hp hS0
    rcases q56 with q5 | ⟨q5, q6⟩
    all_goals
      go_enter Tryz.func26, Tryz.ntmps26
      go_wp2_with fail
      go_region_held3 (fun w' => w'.cell? ⟨g, 10, none⟩ = some (.slice (some ⟨gb, 0, none⟩) (Pl.dS L).length cp) ∧ w'.cell? ⟨w.heap.size, 1, none⟩ = some (.string (txt x.name)) ∧ w'.cell? ⟨gb, i * 12, none⟩ = some (.string (txt S0.name)) ∧ w'.cell? ⟨gb, i * 12 + 1, none⟩ = some (.bool S0.pt) ∧ w'.cell? ⟨gb, i * 12 + 2, none⟩ = some (.int .i64 S0.len) ∧ w'.cell? ⟨gb, i * 12 + 3, none⟩ = some (.int .i64 S0.e0.goes) ∧ w'.cell? ⟨gb, i * 12 + 4, none⟩ = some (.int .i64 S0.e0.at_) ∧ w'.cell? ⟨gb, i * 12 + 5, none⟩ = some (.int .i64 S0.e0.sig) ∧ w'.cell? ⟨gb, i * 12 + 6, none⟩ = some (.int .i64 S0.e1.goes) ∧ w'.cell? ⟨gb, i * 12 + 7, none⟩ = some (.int .i64 S0.e1.at_) ∧ w'.cell? ⟨gb, i * 12 + 8, none⟩ = some (.int .i64 S0.e1.sig) ∧ w'.cell? ⟨gb, i * 12 + 9, none⟩ = some (.int .i64 S0.e2.goes) ∧ w'.cell? ⟨gb, i * 12 + 10, none⟩ = some (.int .i64 S0.e2.at_) ∧ w'.cell? ⟨gb, i * 12 + 11, none⟩ = some (.int .i64 S0.e2.sig))
        (first | with_reducible exact KS.out _ W0.out.drew | with_reducible exact KS.out _ (W0.out.alloc (Nat.le_refl _) _).drew | (with_reducible refine KS.out _ ?_; (repeat (first | (with_reducible refine Below.setCell ?_ (by first | (simp; done) | exact hacc.size) _) | (with_reducible refine Below.drew ?_) | (with_reducible refine Below.alloc ?_ (by first | exact hacc.size | (simp; done)) _))); first | with_reducible exact hacc | with_reducible exact W0.out))
        (first
          | (go_at_call 13; (with_reducible refine (FN.out _ W0.out.drew).mono ?_); rintro e w' ⟨rfl, hbl, hacc, hz⟩; have hcell := (bcell hbl).1; have hfro := (bcell hbl).2)
          | (go_at_call 13; (with_reducible refine (FN.out _ (W0.out.alloc (Nat.le_refl _) _).drew).mono ?_); rintro e w' ⟨rfl, hbl, hacc, hz⟩; have hcell := (bcell hbl).1; have hfro := (bcell hbl).2))
      all_goals have HBF := Lib.hid (X0.out.trans (hacc.mono X0.out.size))
      all_goals first
        | (rw [secA w' S0 51]
           have RW := heap_alloc_new w' (.cells (secCells S0).toArray 51)
           have BW := HBF.out.alloc HBF.out.size (.cells (secCells S0).toArray 51)
           generalize w'.alloc (.cells (secCells S0).toArray 51) = WR at RW BW ⊢
           generalize w'.heap.size = gs at RW ⊢)
        | (rw [sec12 w' (w.heap.size + 1) S0]
           have RZ := zero_sec (w0 := w.alloc (.cells (item7 x) 44)) (gs := w.heap.size + 1) (ty := 51) (by simp) hbl
           have RW := setCells_sec RZ S0
           have BW := setCells_below (g := w.heap.size + 1) (Nat.le_succ _) (secCells S0) 0 w' HBF.out
           generalize setCells w' (w.heap.size + 1) 0 (secCells S0) = WR at RW BW ⊢
           generalize w.heap.size + 1 = gs at RW ⊢)
      all_goals
        have CO := Lib.hid (pOpens WR gs S0 RW)
        have HBW := Lib.hid BW
        clear RW BW
        generalize [S0.e0, S0.e1, S0.e2].any (fun x => x.goes == -2) = b at CO LO
        go_wp2_with fail
        refine CO.out.mono ?_; rintro e' w3 ⟨rfl, hb3⟩
        have BF := Lib.hid (HBW.out.trans (hb3.mono HBW.out.size))
        clear hb3
        cases b
        · go_wp2_with fail
          go_ret
          exact LackGives.mk _ LO.out rfl BF.out
        · go_wp2_with fail
          go_ret
          exact LackGives.mk _ LO.out rfl BF.out
  · have hN : Pl.isS x = false ∧ Pl.isG x = false := ⟨(Pl.end_facts h78).2.1, (Pl.end_facts h78).2.2⟩
    have P := Lib.hid (lack_other (L := L) hN.1 hN.2)
    have q5 : (x.k == 5) = false := by rw [beq_eq_false_iff_ne]; omega
    have q6 : (x.k == 6) = false := by rw [beq_eq_false_iff_ne]; omega
    have q9 : (x.k == 9) = false := by rw [beq_eq_false_iff_ne]; omega
    clear h78 hk hN hX hX0 hR hL hr hl hp
    go_enter Tryz.func26, Tryz.ntmps26
    go_wp2_with fail
    go_ret
    exact LackGives.mk _ P.out rfl X0.out
  · have hG : Pl.isG x = true := by unfold Pl.isG; exact decide_eq_true h9
    obtain ⟨y0, hy0, f0, hf0, ht0⟩ := Pl.told_all hL hx (t := x.e0) (by unfold Pl.tips; rw [if_neg (by omega), if_neg (by omega), if_pos h9]; simp)
    have hz : Pl.tipErr L [] x.e0 = 0 := Pl.tipErr_zero.2 ⟨by rw [ht0]; exact Pl.mem_nmS.2 ⟨y0, hy0, rfl⟩, by rw [ht0, Pl.tip_at hL hy0 hf0]; rfl, by simp⟩
    obtain ⟨hE1, hE2⟩ := endI_err hL x.e0
    obtain ⟨i, e, y, hend, hy, he, ht⟩ := hE2 (hE1.trans hz)
    have he3 : e < 3 := by unfold Pl.nEnds at he; split at he <;> omega
    rw [← endI_dS] at hend
    have SP := Lib.hid (pSpot_any g L (.slice A (Pl.dS L).length cp) vG (Pl.dS L) (Pl.wG L) x.e0 _ hX0 hl (letter_ne (Pl.right_sig hr h9).2.2))
    have TO := Lib.hid (fun W hW => pTo_any g L (.slice A (Pl.dS L).length cp) vG (Pl.dS L) (Pl.wG L) W hW (Pl.dS_of hy) he3 hl)
    unfold SpotGives at SP
    rw [hend] at SP
    have LG := Lib.hid (lack_sig (L := L) hG ht)
    rw [Pl.d_get he] at TO
    have hto : (Pl.gW L (Pl.tip y e)).goes = -1 ∨ 0 ≤ (Pl.gW L (Pl.tip y e)).goes := by
      have hpn := hp hG
      rw [ht] at hpn
      unfold Pl.gW Pl.enW
      cases hq : Pl.partner L (Pl.tip y e) with
      | none => exact absurd hq hpn
      | some v => cases v with
        | none => exact .inl rfl
        | some u => exact .inr (by show 0 ≤ Pl.pos _ _; unfold Pl.pos; omega)
    simp only at TO
    generalize (Pl.gW L (Pl.tip y e)).goes = v at TO LG hto
    have HX0 := Lib.hid hX0
    have q5 : (x.k == 5) = false := by rw [beq_eq_false_iff_ne]; omega
    have q6 : (x.k == 6) = false := by rw [beq_eq_false_iff_ne]; omega
    have q9 : (x.k == 9) = true := by rw [beq_iff_eq]; omega
    have q1 : (v == -1) = true ∧ Pl.lackErr L x = 8 ∨ (v == -1) = false ∧ Pl.lackErr L x = 0 := by
      rcases hto with h | h
      · exact .inl ⟨by rw [beq_iff_eq]; exact h, by rw [LG.out, if_pos (by omega)]⟩
      · exact .inr ⟨by rw [beq_eq_false_iff_ne]; omega, by rw [LG.out, if_neg (by omega)]⟩
    clear hto hend hy he ht hz hE1 hE2 hy0 hf0 ht0 hp hG hx hL hX hX0 hR hr hl hk h9 he3
    rcases q1 with ⟨q1, hP⟩ | ⟨q1, hP⟩
    all_goals
      have P := Lib.hid hP
      clear hP
      go_enter Tryz.func26, Tryz.ntmps26
      go_wp2_with fail
      refine SP.out.mono ?_; rintro e' w1 ⟨rfl, hb1⟩
      have BF := Lib.hid (X0.out.trans (hb1.mono X0.out.size))
      have BA := (Below.refl w1.heap.size w1).alloc (Nat.le_refl _) (.cells #[.int .i64 i, .int .i64 e] 90)
      have TT := Lib.hid (TO.out _ ((HX0.out.below hb1).below BA))
      have BG := Lib.hid (BF.out.alloc BF.out.size (.cells #[.int .i64 i, .int .i64 e] 90))
      clear hb1 BA
      go_wp2_with fail
      refine TT.out.mono ?_; rintro e' w2 ⟨rfl, hb2⟩
      have BH := Lib.hid (BG.out.trans (hb2.mono BG.out.size))
      clear hb2
      go_wp2_with fail
      go_ret
      exact LackGives.mk _ P.out rfl BH.out
end Go.Proofs.YtaheiolbeiofpaaGreatDoor
/-
  The walk of the program's layer 5: Build, over its draft's plan (whose contract is asked for here).
-/
namespace Go.Proofs.YtaheiolbeiofpaaGreatDoor
open Go.RowKit

/-- A signal's end is told to lead somewhere, or is stopped, if no section ahead of its line lacks anything. -/
theorem sig_shut {L : List It.Itm} (hL : Pl.Ok L) {k : Nat} (hk : k < L.length) (hj : ∀ j < k, Pl.lackAt L j = 0) (hg : Pl.isG L[k] = true) : Pl.partner L L[k].e0 ≠ none := by
  have hsp : L = L.take k ++ L[k] :: L.drop (k + 1) := by simp
  have h9 := (Pl.sig_facts hg).2.2.2.2
  obtain ⟨h1, h2⟩ := hL.told _ _ _ hsp L[k].e0 (by unfold Pl.tips; rw [if_neg (by omega), if_neg (by omega), if_pos h9]; simp)
  obtain ⟨y, hy, hn⟩ := Pl.mem_nmS.1 h1
  obtain ⟨hym, hys⟩ := Pl.mem_secs.1 hy
  have hnd : (Pl.nmS (L.take k)).Nodup := by
    have := hL.names
    rw [hsp] at this
    unfold Pl.nmS Pl.secs at this ⊢
    rw [List.filter_append, List.map_append] at this
    exact (List.nodup_append.1 this).1
  rw [← hn, Pl.ptOf_eq hnd hy] at h2
  obtain ⟨e, he⟩ := Option.isSome_iff_exists.1 h2
  obtain ⟨hl, hlt⟩ := Pl.letter_endAt he
  have tt : L[k].e0 = Pl.tip y e := by
    cases hc : L[k].e0 with
    | mk n c => rw [hc] at hn hl; simp only at hn hl; simp [Pl.tip, hn, hl]
  obtain ⟨j, hjl, hjy⟩ := List.getElem_of_mem hym
  rw [List.length_take] at hjl
  have hjk : j < k := by omega
  have hlk := hj j hjk
  have hjy' : L[j] = y := by rw [← hjy, List.getElem_take]
  rw [lackAt_eq (by omega : j < L.length), hjy'] at hlk
  intro hc
  rw [tt] at hc
  unfold Pl.lackErr at hlk
  rw [if_pos hys, if_pos (List.any_eq_true.2 ⟨e, List.mem_range.2 hlt, by simpa using hc⟩)] at hlk
  cases hlk
/-- What is asked of the draft's plan. -/
def DPlanOk : Prop := ∀ (L : List It.Itm) (w : World) (g : Nat), Pl.Ok L → (∀ j < L.length, Pl.lackAt L j = 0) → DrAt tyD tyS tyG w g L → Calls Tryz.prog 27 #[.pointer (some ⟨g, 0, none⟩)] w (PlanAgg (Pl.fin L) w)
theorem draft_nil : draftCells [] (.slice none 0 0) (.slice none 0 0) = #[.bool false, .bool false, .bool false, .bool false, .bool false, .int .i64 0, .int .i64 0, .int .i64 0, .int .i64 0, .int .i64 0, .slice none 0 0, .slice none 0 0] := rfl
set_option maxHeartbeats 8000000 in
set_option maxRecDepth 100000 in
theorem pBuild_any (HPl : DPlanOk) (A : Option Addr) (c : Nat) (L : List It.Itm) (w : World) (h : Its w A L) (hl : L.length ≤ 100000) (hf : ∀ y ∈ L, FitsR y) (hE : Env w) :
    Calls Tryz.prog 10 #[.slice A L.length c] w (PlanGives (Pl.build L) w) := by
  have HF := Lib.hid hf
  have HI := Lib.hid h
  have HSr := Lib.hid HPl
  have HEv := Lib.hid hE
  clear hf h HPl hE
  go_enter Tryz.func10, Tryz.ntmps10
  go_wp2_with fail
  go_loopw [13] (fun v wr => ∃ k : Nat, k ≤ L.length ∧ v = .int .i64 k ∧ Pl.Ok (L.take k) ∧ DrAt tyD tyS tyG wr (w.heap.size + 2) (L.take k) ∧ wr.heap[w.heap.size]? = some (.cells #[.int .i64 0, .int .i64 0, .int .i64 0, .int .i64 0, .slice none 0 0, .slice none 0 0] 28 (0, 0)) ∧ wr.heap[w.heap.size + 1]? = some (.cells #[.int .i64 0, .int .i64 0] 31 (0, 0)) ∧ Below w.heap.size w wr) (fun v _ => L.length - (intOf v).toNat)
  case atStart =>
    refine ⟨0, Nat.zero_le _, rfl, Pl.Ok.nil, ⟨.slice none 0 0, .slice none 0 0, ?_, World.ownsRow_nil _ _ _ _, World.ownsRow_nil _ _ _ _, fun k hk => by simp [Value.ownBlock] at hk⟩, ?_, ?_, ?_⟩
    · exact (three_allocs w _ _ _).2.2.1
    · exact (three_allocs w _ _ _).1
    · exact (three_allocs w _ _ _).2.1
    · exact (three_allocs w _ _ _).2.2.2
  case round =>
    obtain ⟨k, hk, rfl, hO, hW, hP, hFt, hbel⟩ := hrel
    by_cases hlt : k < L.length
    · obtain ⟨b, o, rfl, hb, i7⟩ := (HI.out.below rfl hbel).at hlt
      obtain ⟨a0, a1, a2, a3, a4, a5, a6⟩ := i7.cells
      clear i7
      have TK := Lib.hid (show L.take (k + 1) = L.take k ++ [L[k]] by rw [List.take_succ_eq_append_getElem hlt])
      have hz := hbel.size
      have BA := Lib.hid ((Below.refl wr.heap.size wr).alloc (Nat.le_refl _) (.cells (item7 L[k]) 44))
      have LN := Lib.hid (pAdd_any (w.heap.size + 2) (L.take k) L[k] (wr.alloc (.cells (item7 L[k]) 44)) (hW.below BA.out) hO ((HEv.out.below rfl hbel).below rfl BA.out) (HF.out _ (List.getElem_mem hlt)))
      have HP := Lib.hid (stay_row hP BA.out)
      have HFt := Lib.hid (stay_row hFt BA.out)
      have HB := Lib.hid (hbel.alloc hz (.cells (item7 L[k]) 44))
      have HO := Lib.hid hO
      clear hO hW hP hFt hbel
      generalize her : Pl.lineErr (L.take k) L[k] = er at LN
      go_wp2_with fail
      refine LN.out.mono ?_; rintro e w2 ⟨rfl, hnext, hb2⟩
      have hP2 := (hb2.block _ (by omega)).trans HP.out
      have hF2 := (hb2.block _ (by omega)).trans HFt.out
      have BF := Lib.hid (HB.out.trans (hb2.mono (by omega)))
      by_cases h0 : er = 0
      · have hO' := Lib.hid (show Pl.Ok (L.take (k + 1)) by rw [TK.out]; exact HO.out.snoc (her.trans h0))
        have hW' := Lib.hid (show DrAt tyD tyS tyG w2 (w.heap.size + 2) (L.take (k + 1)) by rw [TK.out]; exact hnext h0)
        have HP2 := Lib.hid hP2
        have HF2 := Lib.hid hF2
        subst h0
        clear hnext hb2 hP2 hF2 her a0 a1 a2 a3 a4 a5 a6
        go_wp2_with fail
        go_roundw
        case rel => exact ⟨k + 1, by omega, by go_num, hO'.out, hW'.out, HP2.out, HF2.out, BF.out⟩
        case measure => simp [intOf]; omega
      · have hcn : (er != 0) = true := by rw [bne_iff_ne]; exact h0
        have P := Lib.hid (build_line_at hlt HO.out her h0)
        obtain ⟨⟨p0, p1, p2, p3, p4, p5⟩, ⟨f0, f1, f2, f3, f4, f5⟩, gp⟩ := row6 hP2
        obtain ⟨⟨q0, q1⟩, ⟨e0, e1⟩, gq⟩ := row2f hF2
        clear hnext hb2 hP2 hF2 her a0 a1 a2 a3 a4 a5 a6
        go_wp2_with fail
        refine bodyPost_ret ?_ rfl (PlanGives.bad _ _ P.out rfl ?_)
        · simp [results, Tryz.results10, go_sem, *]
        · (repeat (with_reducible refine Below.setCell ?_ (by first | exact Nat.le_refl _ | exact Nat.le_succ _) _)); exact BF.out
    · obtain rfl : k = L.length := by omega
      rw [List.take_of_length_le (Nat.le_refl _)] at hO hW
      have HO := Lib.hid hO
      have HW := Lib.hid hW
      have HP := Lib.hid hP
      have HFt := Lib.hid hFt
      have HB := Lib.hid hbel
      clear hO hW hP hFt hbel
      go_wp2_with fail
      go_loopw [30] (fun v wr => ∃ k : Nat, k ≤ L.length ∧ v = .int .i64 k ∧ (∀ j < k, Pl.lackAt L j = 0) ∧ DrAt tyD tyS tyG wr (w.heap.size + 2) L ∧ wr.heap[w.heap.size]? = some (.cells #[.int .i64 0, .int .i64 0, .int .i64 0, .int .i64 0, .slice none 0 0, .slice none 0 0] 28 (0, 0)) ∧ wr.heap[w.heap.size + 1]? = some (.cells #[.int .i64 0, .int .i64 0] 31 (0, 0)) ∧ Below w.heap.size w wr) (fun v _ => L.length - (intOf v).toNat)
      case atStart => exact ⟨0, Nat.zero_le _, rfl, fun j hj => absurd hj (Nat.not_lt_zero j), HW.out, HP.out, HFt.out, HB.out⟩
      case round =>
        clear HW HP HFt HB
        obtain ⟨k, hk, rfl, hj, hW, hP, hFt, hbel⟩ := hrel
        by_cases hlt : k < L.length
        · obtain ⟨b, o, rfl, hb, i7⟩ := (HI.out.below rfl hbel).at hlt
          obtain ⟨a0, a1, a2, a3, a4, a5, a6⟩ := i7.cells
          clear i7
          have BA := Lib.hid ((Below.refl wr.heap.size wr).alloc (Nat.le_refl _) (.cells (item7 L[k]) 44))
          have LK := Lib.hid (pCheck_any (w.heap.size + 2) L L[k] (wr.alloc (.cells (item7 L[k]) 44)) (hW.below BA.out) HO.out (List.getElem_mem hlt) (sig_shut HO.out hlt hj))
          have HJ := Lib.hid hj
          have hz := hbel.size
          have HW := Lib.hid (hW.below BA.out)
          have HP := Lib.hid (stay_row hP BA.out)
          have HFt := Lib.hid (stay_row hFt BA.out)
          have HB := Lib.hid (hbel.alloc hz (.cells (item7 L[k]) 44))
          clear hj hW hP hFt hbel
          unfold LackGives at LK
          generalize her : Pl.lackErr L L[k] = er at LK
          go_wp2_with fail
          refine LK.out.mono ?_; rintro e w2 ⟨rfl, hb2⟩
          have hP2 := stay_row HP.out hb2
          have hF2 := stay_row HFt.out hb2
          have BF := Lib.hid (HB.out.trans (hb2.mono HB.out.size))
          by_cases h0 : er = 0
          · have HJ' := Lib.hid (show ∀ j < k + 1, Pl.lackAt L j = 0 from fun j hj => by
              rcases Nat.lt_succ_iff_lt_or_eq.1 hj with h | rfl
              · exact HJ.out j h
              · rw [lackAt_eq hlt]; exact her.trans h0)
            have HW' := Lib.hid (HW.out.below hb2)
            have HP2 := Lib.hid hP2
            have HF2 := Lib.hid hF2
            subst h0
            clear hb2 hP2 hF2 her a0 a1 a2 a3 a4 a5 a6
            go_wp2_with fail
            go_roundw
            case rel => exact ⟨k + 1, by omega, by go_num, HJ'.out, HW'.out, HP2.out, HF2.out, BF.out⟩
            case measure => simp [intOf]; omega
          · have hcn : (er != 0) = true := by rw [bne_iff_ne]; exact h0
            have P := Lib.hid (build_lack_at hlt HO.out her h0 HJ.out)
            obtain ⟨⟨p0, p1, p2, p3, p4, p5⟩, ⟨f0, f1, f2, f3, f4, f5⟩, gp⟩ := row6 hP2
            obtain ⟨⟨q0, q1⟩, ⟨e0, e1⟩, gq⟩ := row2f hF2
            clear hb2 hP2 hF2 her a0 a1 a2 a3 a4 a5 a6
            go_wp2_with fail
            refine bodyPost_ret ?_ rfl (PlanGives.bad _ _ P.out rfl ?_)
            · simp [results, Tryz.results10, go_sem, *]
            · (repeat (with_reducible refine Below.setCell ?_ (by first | exact Nat.le_refl _ | exact Nat.le_succ _) _)); exact BF.out
        · obtain rfl : k = L.length := by omega
          have P := Lib.hid (build_all HO.out hj)
          have SC := Lib.hid (HSr.out L wr (w.heap.size + 2) HO.out hj hW)
          have hz := hbel.size
          have HB := Lib.hid hbel
          have HP := Lib.hid hP
          have HFt := Lib.hid hFt
          clear hj hP hFt hbel hW
          go_wp2_with fail
          refine SC.out.mono ?_; rintro e w2 ⟨A1, c1, A2, c2, l1, l2, rfl, r1, r2, n1', n2', hb2⟩
          obtain ⟨⟨p0, p1, p2, p3, p4, p5⟩, ⟨f0, f1, f2, f3, f4, f5⟩, gp⟩ := row6 (stay_row HP.out hb2)
          obtain ⟨⟨q0, q1⟩, ⟨e0, e1⟩, gq⟩ := row2f (stay_row HFt.out hb2)
          have BF := Lib.hid (HB.out.trans (hb2.mono hz))
          have gw1 := (Array.getElem?_eq_some_iff.1 HFt.out).1
          have N1 := Lib.hid (show ∀ a, A1 = some a → w.heap.size + 1 < a.block from fun a ha => Nat.lt_of_lt_of_le gw1 (n1' a ha))
          have N2 := Lib.hid (show ∀ a, A2 = some a → w.heap.size + 1 < a.block from fun a ha => Nat.lt_of_lt_of_le gw1 (n2' a ha))
          have R1 := Lib.hid r1
          have R2 := Lib.hid r2
          clear r1 r2 hb2 n1' n2'
          go_wp2_with fail
          refine bodyPost_ret ?_ rfl (PlanGives.from (A := A1) (A' := A2) P.out l1 l2 rfl ?_ ?_ ?_)
          · simp [results, Tryz.results10, go_sem, *]
          · (repeat (refine row_far ?_ _ _ (fun a ha => by have := N1.out a ha; simp only; omega))); exact R1.out
          · (repeat (refine row_far ?_ _ _ (fun a ha => by have := N2.out a ha; simp only; omega))); exact R2.out
          · (repeat (with_reducible refine Below.setCell ?_ (by first | exact Nat.le_refl _ | exact Nat.le_succ _) _)); exact BF.out
end Go.Proofs.YtaheiolbeiofpaaGreatDoor
/-
  The walks of the program's layer 5: sections and signals in order of their names; copies of them.
-/
namespace Go.Proofs.YtaheiolbeiofpaaGreatDoor
open Go.RowKit

/-- Block b holds these from its beginning on, and they may be written. -/
def RowF {α : Type} (E : Lies α) (w : World) (b : Nat) (L : List α) : Prop := b < w.heap.size ∧ ∀ (k : Nat) (y : α), L[k]? = some y → ∀ (j : Nat) (v : Value), (E.enc y)[j]? = some v → w.cell? ⟨b, k * E.m + j, none⟩ = some v ∧ w.frozen? ⟨b, k * E.m + j, none⟩ = false
/-- Nothing below the world's end changes but one block. -/
def But (B : Option Nat) (w w' : World) : Prop := (∀ b, b < w.heap.size → B ≠ some b → w'.heap[b]? = w.heap[b]?) ∧ w.heap.size ≤ w'.heap.size ∧ w'.os = w.os ∧ w'.tape = w.tape ∧ w'.output = w.output
theorem But.below {b : Nat} {B : Option Nat} {w w1 w2 : World} (h : Below b w w1) (h2 : But B w1 w2) (hb : b ≤ w1.heap.size) (hB : ∀ k, B = some k → b ≤ k) : Below b w w2 :=
  h.trans ⟨h2.2.2.1, h2.2.2.2.1, h2.2.2.2.2, h2.2.1, fun k hk => h2.1 k (by omega) (fun e => by have := hB k e; omega)⟩
theorem RowF.row {α : Type} {E : Lies α} {w : World} {b : Nat} {L : List α} (h : RowF E w b L) : E.Row w (some ⟨b, 0, none⟩) L := .inr ⟨b, 0, rfl, h.1, fun k y hk j v hv => by rw [Nat.zero_add]; exact (h.2 k y hk j v hv).1⟩
theorem cell_same {w w' : World} {b : Nat} (h : w'.heap[b]? = w.heap[b]?) (o : Nat) : w'.cell? ⟨b, o, none⟩ = w.cell? ⟨b, o, none⟩ ∧ w'.frozen? ⟨b, o, none⟩ = w.frozen? ⟨b, o, none⟩ := by
  constructor
  · exact World.cell?_of_block (a := ⟨b, o, none⟩) h
  · unfold World.frozen?
    simp only [h]
theorem RowF.same {α : Type} {E : Lies α} {w w' : World} {b : Nat} {L : List α} (h : RowF E w b L) (hb : w'.heap[b]? = w.heap[b]?) : RowF E w' b L := by
  refine ⟨?_, fun k y hk j v hv => ?_⟩
  · have h1 := h.1
    rw [Array.getElem?_eq_getElem h1] at hb
    exact (Array.getElem?_eq_some_iff.1 hb).1
  · rw [(cell_same hb _).1, (cell_same hb _).2]; exact h.2 k y hk j v hv
theorem RowF.but {α : Type} {E : Lies α} {w w' : World} {b : Nat} {B : Option Nat} {L : List α} (h : RowF E w b L) (hB : But B w w') (hn : B ≠ some b) : RowF E w' b L := h.same (hB.1 b h.1 hn)
theorem RowF.own {α : Type} {E : Lies α} {w : World} {base : Nat} {e : TypeId} {g cap n : Nat} {L : List α} (h : w.ownsRow base e E.m (.slice (some ⟨g, 0, none⟩) n cap) n (E.all L)) : RowF E w g L := by
  refine ⟨(h.lt g rfl).2, fun k y hk j v hv => ⟨?_, h.frozenAt _⟩⟩
  exact Lies.own_on h hk j v hv
/-- One cell of one is written. -/
theorem RowF.set {α : Type} {E : Lies α} {w : World} {b : Nat} {L : List α} (h : RowF E w b L) {k j : Nat} {x y : α} (hx : L[k]? = some x) (hj : j < E.m) (u : Value) (hu : (E.enc x).set j u = E.enc y) : RowF E (w.setCell ⟨b, k * E.m + j, none⟩ u) b (L.set k y) := by
  have hkl := (List.getElem?_eq_some_iff.1 hx).1
  have hm : ∀ (a c i l : Nat), i < E.m → l < E.m → a * E.m + i = c * E.m + l → a = c ∧ i = l := fun a c i l hi hl he => by
    have h1 : (a * E.m + i) / E.m = a := by rw [Nat.mul_comm, Nat.mul_add_div E.pos, Nat.div_eq_of_lt hi, Nat.add_zero]
    have h2 : (c * E.m + l) / E.m = c := by rw [Nat.mul_comm, Nat.mul_add_div E.pos, Nat.div_eq_of_lt hl, Nat.add_zero]
    have : a = c := by rw [← h1, ← h2, he]
    subst this
    exact ⟨rfl, by omega⟩
  refine ⟨by simpa using h.1, fun i z hi l v hv => ?_⟩
  have hll : l < E.m := by
    have := (List.getElem?_eq_some_iff.1 hv).1
    rwa [E.len] at this
  have hf : ∀ o, (w.setCell ⟨b, k * E.m + j, none⟩ u).frozen? ⟨b, o, none⟩ = w.frozen? ⟨b, o, none⟩ := fun o => by simp
  by_cases hik : i = k
  · subst hik
    rw [List.getElem?_set_self hkl] at hi
    cases hi
    rw [← hu] at hv
    by_cases hlj : l = j
    · subst hlj
      rw [List.getElem?_set_self (by rw [E.len]; exact hj)] at hv
      cases hv
      have h0 := h.2 i x hx l ((E.enc x)[l]'(by rw [E.len]; exact hj)) (List.getElem?_eq_getElem _)
      refine ⟨?_, by rw [hf]; exact h0.2⟩
      exact World.cell?_setCell_same w _ u h0.1
    · rw [List.getElem?_set_ne (Ne.symm hlj)] at hv
      have h0 := h.2 i x hx l v hv
      exact ⟨(World.cell?_setCell_other w _ _ u (fun he => by have := congrArg Addr.off he; simp only at this; omega)).trans h0.1, by rw [hf]; exact h0.2⟩
  · rw [List.getElem?_set_ne (Ne.symm hik)] at hi
    have h0 := h.2 i z hi l v hv
    have hne : i * E.m + l ≠ k * E.m + j := fun he => hik (hm i k l j hll hj he).1
    exact ⟨(World.cell?_setCell_other w _ _ u (fun he => by have := congrArg Addr.off he; simp only at this; omega)).trans h0.1, by rw [hf]; exact h0.2⟩
def cmpN (a b : Pl.Nm) : Int := if a < b then -1 else if b < a then 1 else 0
set_option maxHeartbeats 4000000 in
set_option maxRecDepth 100000 in
theorem pCmp_any (a b : Pl.Nm) (w : World) : Calls Tryz.prog 57 #[.string (txt a), .string (txt b)] w fun e w' => e = .returned (.int .i64 (cmpN a b)) ∧ w = w' := by
  have h1 := str_lt a b
  have h2 := str_lt b a
  have se : ∀ x : Pl.Nm, ((txt x).toList != (txt x).toList) = false := fun x => by simp
  have s1 := se a
  have s2 := se b
  by_cases ha : a < b
  · rw [decide_eq_true ha] at h1
    have P := Lib.hid (show cmpN a b = -1 by unfold cmpN; rw [if_pos ha])
    clear ha se
    go_enter Tryz.func57, Tryz.ntmps57
    go_wp2
    go_ret
    exact ⟨by rw [P.out]; rfl, rfl⟩
  · rw [decide_eq_false ha] at h1
    by_cases hb : b < a
    · rw [decide_eq_true hb] at h2
      have P := Lib.hid (show cmpN a b = 1 by unfold cmpN; rw [if_neg ha, if_pos hb])
      have h3 := txt_neB (show a ≠ b from (Pl.nm_ne hb).symm)
      clear ha hb se
      go_enter Tryz.func57, Tryz.ntmps57
      go_wp2
      go_ret
      exact ⟨by rw [P.out]; rfl, rfl⟩
    · rw [decide_eq_false hb] at h2
      have P := Lib.hid (show cmpN a b = 0 by unfold cmpN; rw [if_neg ha, if_neg hb])
      have h3 := txt_eqB (show a = b from Pl.nm_tri ha hb)
      clear ha hb se
      go_enter Tryz.func57, Tryz.ntmps57
      go_wp2
      go_ret
      exact ⟨by rw [P.out]; rfl, rfl⟩
end Go.Proofs.YtaheiolbeiofpaaGreatDoor
/-
  The walks of the program's layer 5: sections and signals put in order of their names.
-/
namespace Go.Proofs.YtaheiolbeiofpaaGreatDoor
open Go.RowKit Go.Sort

theorem swo_names {α : Type} (key : α → Pl.Nm) : SWO (ltOf fun x y : α => cmpN (key x) (key y)) := by
  have e : ∀ x y, ltOf (fun x y : α => cmpN (key x) (key y)) x y = decide (key x < key y) := fun x y => by
    unfold ltOf cmpN
    by_cases h1 : key x < key y
    · simp [h1]
    · by_cases h2 : key y < key x <;> simp [h1, h2]
  refine ⟨fun x => ?_, fun x y z h1 h2 => ?_, fun x y z h1 h2 => ?_⟩
  · rw [e]; exact decide_eq_false (Pl.nm_irrefl _)
  · rw [e] at *; exact decide_eq_true (Pl.nm_trans (of_decide_eq_true h1) (of_decide_eq_true h2))
  · rw [e] at *
    have h1 := of_decide_eq_false h1
    have h2 := of_decide_eq_false h2
    refine decide_eq_false fun h => ?_
    by_cases h3 : key y < key z
    · exact h2 h3
    · by_cases h4 : key x < key y
      · exact h1 h4
      · have e1 : ¬ key z < key y := fun h5 => h1 (Pl.nm_trans h h5)
        have := Pl.nm_tri h3 e1
        rw [← this] at h; exact h1 h
section
variable {α : Type} [Inhabited α] (E : Lies α)
theorem RowF.holds {w : World} {b : Nat} {L : List α} (h : RowF E w b L) : HoldsK E.enc E.m w b 0 L.toArray := fun t ht => by
  rw [size_flatK] at ht
  simp only [List.size_toArray] at ht
  have hp := E.pos
  have hk : t / E.m < L.length := (Nat.div_lt_iff_lt_mul hp).2 ht
  have hj : t / E.m * E.m + t % E.m = t := by rw [Nat.mul_comm]; exact Nat.div_add_mod t E.m
  have hm := Nat.mod_lt t hp
  rw [get_flatK _ _ _ _ (by simpa using ht)]
  have hd : (L.toArray)[t / E.m]! = L[t / E.m] := by rw [getElem!_pos L.toArray (t / E.m) (by simpa using hk)]; simp
  rw [hd]
  have hl : t % E.m < (E.enc L[t / E.m]).length := by rw [E.len]; exact hm
  have := h.2 (t / E.m) L[t / E.m] (List.getElem?_eq_getElem hk) (t % E.m) (E.enc L[t / E.m])[t % E.m] (List.getElem?_eq_getElem hl)
  rw [hj] at this
  rw [Nat.zero_add, getElem!_pos (E.enc L[t / E.m]) (t % E.m) hl]
  exact this
theorem RowF.of_holds {w : World} {b : Nat} {d : Array α} (hb : b < w.heap.size) (h : HoldsK E.enc E.m w b 0 d) : RowF E w b d.toList := by
  refine ⟨hb, fun k y hk j v hv => ?_⟩
  obtain ⟨hkl, hy⟩ := List.getElem?_eq_some_iff.1 hk
  have hj : j < E.m := by
    have := (List.getElem?_eq_some_iff.1 hv).1
    rwa [E.len] at this
  have hkd : k < d.size := by simpa using hkl
  have := h.cell hkd hj
  have hd : d[k]! = y := by rw [getElem!_pos d k hkd, ← hy]; simp
  rw [hd] at this
  have hv' : (E.enc y)[j]! = v := by
    obtain ⟨h1, h2⟩ := List.getElem?_eq_some_iff.1 hv
    rw [getElem!_pos (E.enc y) j h1]; exact h2
  rw [hv', Nat.zero_add] at this
  exact this
theorem sort_others (w : World) (b m n : Nat) (d : Array α) (os : Array Obj) : But (some b) w (sortWorldK E.enc n w b 0 m d os) := by
  have hs : (putRowK E.enc n (Sort.ahead w m) b 0 d).heap.size = w.heap.size := size_putRow id (Sort.ahead w m) b 0 _
  refine ⟨fun c hc hn => ?_, ?_, rfl, rfl, rfl⟩
  · unfold sortWorldK
    rw [heap_grow_old _ _ (by rw [hs]; exact hc)]
    unfold putRowK putRow mapBlock
    simp only
    rw [Array.getElem?_modify, if_neg (fun h => hn (by rw [h]))]
    rfl
  · unfold sortWorldK grow
    simp only [Array.size_append, hs]
    omega
/-- What a sort by names leaves. -/
def SortGives (key : α → Pl.Nm) (A : Option Addr) (L : List α) (w : World) (e : Ending) (w' : World) : Prop :=
  e = .returned (.tuple #[]) ∧ (L = [] ∨ ∃ b, A = some ⟨b, 0, none⟩ ∧ RowF E w' b (Pl.isort key L)) ∧ But (if L.isEmpty then none else A.map (·.block)) w w'
theorem sorted_isort (key : α → Pl.Nm) {L : List α} (hn : (L.map key).Nodup) {d' : Array α} (hp : PermIn 0 L.toArray.size L.toArray d') (hs : SortedIn (ltOf fun x y : α => cmpN (key x) (key y)) 0 L.toArray.size d') : d'.toList = Pl.isort key L := by
  have hsz : d'.size = L.length := by have := hp.1; simpa using this
  have hperm : d'.toList.Perm L := by
    have := hp.2.2
    rw [show L.toArray.size = d'.size by simp [hsz]] at this
    rw [Array.extract_size] at this
    rw [show d'.size = L.toArray.size by simp [hsz], Array.extract_size] at this
    simpa using this
  have hlt : ∀ i j, i < j → j < d'.size → ¬ key d'[j]! < key d'[i]! := fun i j hij hj => by
    have := hs i j (Nat.zero_le _) hij (by simp; omega)
    unfold ltOf cmpN at this
    intro hc
    simp only [if_pos hc] at this
    simp at this
  have hnd : (d'.toList.map key).Nodup := (hperm.map key).nodup_iff.2 hn
  have hrise : Pl.Rise key d'.toList := by
    unfold Pl.Rise
    rw [List.pairwise_iff_getElem]
    intro i j hi hj hij
    have hi' : i < d'.size := by simpa using hi
    have hj' : j < d'.size := by simpa using hj
    have h1 := hlt i j hij hj'
    rw [getElem!_pos d' i hi', getElem!_pos d' j hj'] at h1
    simp only [Array.getElem_toList]
    have hne : key d'[i] ≠ key d'[j] := by
      have := List.pairwise_iff_getElem.1 (List.nodup_iff_pairwise_ne.1 hnd) i j (by simpa using hi) (by simpa using hj) hij
      simpa using this
    exact Pl.nm_lt_of h1 (fun h => hne h.symm)
  exact Pl.rise_unique key hrise (Pl.isort_rise key L hn) (hperm.trans (Pl.isort_perm key L).symm)
end
end Go.Proofs.YtaheiolbeiofpaaGreatDoor
/-
  The walks of the program's layer 5: sections and signals put in order of their names, and copied.
-/
namespace Go.Proofs.YtaheiolbeiofpaaGreatDoor
open Go.RowKit

section
open Go.Sort

set_option maxHeartbeats 4000000 in
set_option maxRecDepth 100000 in
theorem pByNameS (x y : Pl.Sec) (W : World) : Calls Tryz.prog 56 #[.agg (secCells x).toArray, .agg (secCells y).toArray] W fun e w' => e = .returned (.int .i64 (cmpN x.name y.name)) ∧ ∃ q os', w' = grow (W.drewN q) os' := by
  have CM := Lib.hid (fun W => pCmp_any x.name y.name W)
  show Calls Tryz.prog 56 #[.agg #[.string (txt x.name), .bool x.pt, .int .i64 x.len, .int .i64 x.e0.goes, .int .i64 x.e0.at_, .int .i64 x.e0.sig, .int .i64 x.e1.goes, .int .i64 x.e1.at_, .int .i64 x.e1.sig, .int .i64 x.e2.goes, .int .i64 x.e2.at_, .int .i64 x.e2.sig], .agg #[.string (txt y.name), .bool y.pt, .int .i64 y.len, .int .i64 y.e0.goes, .int .i64 y.e0.at_, .int .i64 y.e0.sig, .int .i64 y.e1.goes, .int .i64 y.e1.at_, .int .i64 y.e1.sig, .int .i64 y.e2.goes, .int .i64 y.e2.at_, .int .i64 y.e2.sig]] W _
  go_enter Tryz.func56, Tryz.ntmps56
  go_wp2_with fail
  refine (CM.out _).mono ?_; rintro e w1 ⟨rfl, rfl⟩
  go_wp2_with fail
  go_ret
  exact ⟨rfl, 0, _, by rw [alloc_eq_grow, alloc_eq_grow, grow_grow]; rfl⟩
set_option maxHeartbeats 4000000 in
set_option maxRecDepth 100000 in
theorem pByNameG (x y : Pl.Sig) (W : World) : Calls Tryz.prog 59 #[.agg (sigCells x).toArray, .agg (sigCells y).toArray] W fun e w' => e = .returned (.int .i64 (cmpN x.name y.name)) ∧ ∃ q os', w' = grow (W.drewN q) os' := by
  have CM := Lib.hid (fun W => pCmp_any x.name y.name W)
  show Calls Tryz.prog 59 #[.agg #[.string (txt x.name), .int .i64 x.sec, .int .i64 x.en], .agg #[.string (txt y.name), .int .i64 y.sec, .int .i64 y.en]] W _
  go_enter Tryz.func59, Tryz.ntmps59
  go_wp2_with fail
  refine (CM.out _).mono ?_; rintro e w1 ⟨rfl, rfl⟩
  go_wp2_with fail
  go_ret
  exact ⟨rfl, 0, _, by rw [alloc_eq_grow, alloc_eq_grow, grow_grow]; rfl⟩
theorem pSortSec (A : Option Addr) (c : Nat) (L : List Pl.Sec) (w : World) (h : L = [] ∨ ∃ b, A = some ⟨b, 0, none⟩ ∧ RowF LSec w b L) (hn : (L.map Pl.Sec.name).Nodup) (hl : L.length ≤ 1000) :
    Calls Tryz.prog 55 #[.slice A L.length c, .func (.func 56) #[] #[]] w (SortGives LSec Pl.Sec.name A L w) := by
  by_cases h0 : L = []
  · subst h0
    refine (AnyF.slices_SortFunc_none Tryz.laySortSec A c _ w).mono ?_
    rintro e w' ⟨rfl, rfl⟩
    exact ⟨rfl, .inl rfl, fun _ _ _ => rfl, Nat.le_refl _, rfl, rfl, rfl⟩
  · obtain ⟨b, rfl, hR⟩ := h.resolve_left h0
    have eg : ∀ args w, (callFunc 56 args).run Tryz.prog w = .ok (.enter 56 args) w := enters_of Tryz.func56 (by kernel_rfl) rfl
    have := AnyQ.slices_SortFunc Tryz.laySortSec 12 Tryz.isAgg51 Tryz.sizeOf51 secCells (fun _ => rfl) LSec.one (fun x y => cmpN x.name y.name) (swo_names Pl.Sec.name) 56 #[] b 0 c L.toArray w eg (fun _ _ _ _ x y => pByNameS x y _) (RowF.holds LSec hR) hR.1 (by simp; omega)
    simp only [List.size_toArray] at this
    refine Calls.mono this ?_
    rintro e w' ⟨rfl, d', n, os, hp, hs, rfl⟩
    have hd := sorted_isort Pl.Sec.name hn (by simpa using hp) (by simpa using hs)
    have hb := sort_others LSec w b n 12 d' os
    refine ⟨rfl, .inr ⟨b, rfl, ?_⟩, by rw [if_neg (by simpa using h0)]; exact hb⟩
    rw [← hd]
    refine RowF.of_holds LSec (Nat.lt_of_lt_of_le hR.1 hb.2.1) ?_
    unfold sortWorldK
    refine holdsK_grow secCells 12 _ _ _ _ _ (by rw [show (putRowK secCells 12 (Sort.ahead w n) b 0 d').heap.size = w.heap.size from size_putRow id (Sort.ahead w n) b 0 _]; exact hR.1) ?_
    exact holdsK_putRowK secCells 12 (Sort.ahead w n) b 0 L.toArray d' (holdsK_ahead secCells 12 w n b 0 _ (RowF.holds LSec hR)) hp.1
theorem pSortSig (A : Option Addr) (c : Nat) (L : List Pl.Sig) (w : World) (h : L = [] ∨ ∃ b, A = some ⟨b, 0, none⟩ ∧ RowF LSig w b L) (hn : (L.map Pl.Sig.name).Nodup) (hl : L.length ≤ 1000) :
    Calls Tryz.prog 58 #[.slice A L.length c, .func (.func 59) #[] #[]] w (SortGives LSig Pl.Sig.name A L w) := by
  by_cases h0 : L = []
  · subst h0
    refine (AnyF.slices_SortFunc_none Tryz.laySortSig A c _ w).mono ?_
    rintro e w' ⟨rfl, rfl⟩
    exact ⟨rfl, .inl rfl, fun _ _ _ => rfl, Nat.le_refl _, rfl, rfl, rfl⟩
  · obtain ⟨b, rfl, hR⟩ := h.resolve_left h0
    have eg : ∀ args w, (callFunc 59 args).run Tryz.prog w = .ok (.enter 59 args) w := enters_of Tryz.func59 (by kernel_rfl) rfl
    have := AnyQ.slices_SortFunc Tryz.laySortSig 3 Tryz.isAgg53 Tryz.sizeOf53 sigCells (fun _ => rfl) LSig.one (fun x y => cmpN x.name y.name) (swo_names Pl.Sig.name) 59 #[] b 0 c L.toArray w eg (fun _ _ _ _ x y => pByNameG x y _) (RowF.holds LSig hR) hR.1 (by simp; omega)
    simp only [List.size_toArray] at this
    refine Calls.mono this ?_
    rintro e w' ⟨rfl, d', n, os, hp, hs, rfl⟩
    have hd := sorted_isort Pl.Sig.name hn (by simpa using hp) (by simpa using hs)
    have hb := sort_others LSig w b n 3 d' os
    refine ⟨rfl, .inr ⟨b, rfl, ?_⟩, by rw [if_neg (by simpa using h0)]; exact hb⟩
    rw [← hd]
    refine RowF.of_holds LSig (Nat.lt_of_lt_of_le hR.1 hb.2.1) ?_
    unfold sortWorldK
    refine holdsK_grow sigCells 3 _ _ _ _ _ (by rw [show (putRowK sigCells 3 (Sort.ahead w n) b 0 d').heap.size = w.heap.size from size_putRow id (Sort.ahead w n) b 0 _]; exact hR.1) ?_
    exact holdsK_putRowK sigCells 3 (Sort.ahead w n) b 0 L.toArray d' (holdsK_ahead sigCells 3 w n b 0 _ (RowF.holds LSig hR)) hp.1
end
/-- What a copy is. -/
def CloneGives {α : Type} (E : Lies α) (L : List α) (w : World) (e : Ending) (w' : World) : Prop :=
  ∃ A c, e = .returned (.slice A L.length c) ∧ L.length ≤ c ∧ (L = [] ∨ ∃ b, A = some ⟨b, 0, none⟩ ∧ RowF E w' b L) ∧ (∀ a, A = some a → w.heap.size ≤ a.block) ∧ Below w.heap.size w w'
theorem CloneGives.of_own {α : Type} {E : Lies α} {L : List α} {w w' : World} {e : TypeId} {v : Value} (h : w'.ownsRow w.heap.size e E.m v L.length (E.all L)) (hb : Below w.heap.size w w') : CloneGives E L w (.returned v) w' := by
  rcases h.2 with ⟨rfl, h0⟩ | ⟨g, cap, cur, rfl, hg, hh, hc, hr⟩
  · have : L.length = 0 := h0
    exact ⟨none, 0, by rw [this], by omega, .inl (List.eq_nil_of_length_eq_zero this), fun a ha => (by cases ha), hb⟩
  · exact ⟨_, cap, rfl, hc, .inr ⟨g, rfl, RowF.own h⟩, fun a ha => by cases ha; exact hg, hb⟩
theorem pCloneSec (A : Option Addr) (c : Nat) (L : List Pl.Sec) (w : World) (h : L = [] ∧ A = none ∨ ∃ b, A = some ⟨b, 0, none⟩ ∧ RowF LSec w b L) (hl : L.length ≤ 1000) :
    Calls Tryz.prog 53 #[.slice A L.length c] w (CloneGives LSec L w) := by
  rcases h with ⟨rfl, rfl⟩ | ⟨b, rfl, hR⟩
  · refine (AnyE.slices_Clone_nil Tryz.layCloneSec 0 c w).mono ?_
    rintro e w' ⟨rfl, rfl⟩
    exact ⟨none, 0, rfl, Nat.le_refl _, .inl rfl, fun a ha => (by cases ha), Below.refl _ _⟩
  · obtain ⟨i0, hi, hz0, hz1, hz2⟩ := info_parts infoSec
    have := AnyE.slices_Clone Tryz.layCloneSec i0 _ 12 104 hi hz0 hz1 hz2 rfl (by decide) Tryz.sizeOf51 b 0 L.length c (LSec.all L) w (by rw [LSec.all_len]; rfl) (by unfold maxLen; omega) (by omega) (fun t u ht => by have := Lies.news (E := LSec) (w := w) (b := b) (o := 0) (L := L) (fun k y hk j v hv => by rw [Nat.zero_add]; exact (hR.2 k y hk j v hv).1) t u ht; rwa [Go.WideShapes.add_plain] at this) (LSec.all_single L)
    refine Calls.mono this ?_
    rintro e w' ⟨v', rfl, hown, -, hb⟩
    exact CloneGives.of_own hown hb
theorem pCloneSig (A : Option Addr) (c : Nat) (L : List Pl.Sig) (w : World) (h : L = [] ∧ A = none ∨ ∃ b, A = some ⟨b, 0, none⟩ ∧ RowF LSig w b L) (hl : L.length ≤ 1000) :
    Calls Tryz.prog 54 #[.slice A L.length c] w (CloneGives LSig L w) := by
  rcases h with ⟨rfl, rfl⟩ | ⟨b, rfl, hR⟩
  · refine (AnyE.slices_Clone_nil Tryz.layCloneSig 0 c w).mono ?_
    rintro e w' ⟨rfl, rfl⟩
    exact ⟨none, 0, rfl, Nat.le_refl _, .inl rfl, fun a ha => (by cases ha), Below.refl _ _⟩
  · obtain ⟨i0, hi, hz0, hz1, hz2⟩ := info_parts infoSig
    have := AnyE.slices_Clone Tryz.layCloneSig i0 _ 3 32 hi hz0 hz1 hz2 rfl (by decide) Tryz.sizeOf53 b 0 L.length c (LSig.all L) w (by rw [LSig.all_len]; rfl) (by unfold maxLen; omega) (by omega) (fun t u ht => by have := Lies.news (E := LSig) (w := w) (b := b) (o := 0) (L := L) (fun k y hk j v hv => by rw [Nat.zero_add]; exact (hR.2 k y hk j v hv).1) t u ht; rwa [Go.WideShapes.add_plain] at this) (LSig.all_single L)
    refine Calls.mono this ?_
    rintro e w' ⟨v', rfl, hown, -, hb⟩
    exact CloneGives.of_own hown hb
end Go.Proofs.YtaheiolbeiofpaaGreatDoor
