/-
  Texts of this claim, merged: DmPr.
-/
import Derived.Test.YtkdgcibkjhhpoaaMg15
import Derived.Test.YtkdgcibkjhhpoaaMg19
import Derived.BigQuiet
import Derived.Deep.LoopGhost
import Derived.Shelf.Abstract
/-
  The walks of the program's layer 9: what is asked of a point; the first demand for which a test holds; whether two are opposed.
-/
namespace Go.Proofs.Ytkdgcibkjhhpoaa
open Go.RowKit

set_option maxHeartbeats 4000000 in
set_option maxRecDepth 100000 in
theorem pdPosition_any (A : Option Addr) (c : Nat) (L : List Dm.Dem) (k : Int) (w : World) (h : LDem.Row w A L) (hl : L.length ≤ 1000000) :
    Calls Try.prog 8 #[.slice A L.length c, .int .i64 k] w (OneIs (.int .i64 (Dm.posOf L k)) w) := by
  --[
  have B0 := Lib.hid (Below.refl w.heap.size w)
  have HR := Lib.hid h
  generalize hq : Dm.posOf L k = q
  have HQ := Lib.hid hq
  clear h hq
  go_enter Try.func8, Try.ntmps8
  go_wp2_with fail
  go_loopw [9] (fun v w' => ∃ j : Nat, j ≤ L.length ∧ v = .int .i64 j ∧ Dm.posOf (L.drop j) k = q ∧ Below w.heap.size w w') (fun v _ => L.length - (intOf v).toNat)
  case atStart => exact ⟨0, Nat.zero_le _, rfl, by rw [List.drop_zero]; exact HQ.out, B0.out⟩
  case round =>
    obtain ⟨j, hj, rfl, hp, hb⟩ := hrel
    have HB := Lib.hid hb
    by_cases hlt : j < L.length
    · have hy := List.getElem?_eq_getElem hlt
      obtain ⟨b, o, rfl, hbb, on⟩ := (HR.out.below rfl hb).at hlt
      generalize L[j] = x at hy on
      obtain ⟨c0, c1⟩ := dem_on on
      rw [show j * LDem.m = j * 2 from rfl] at c0 c1
      rw [Dm.posOf_drop hy] at hp
      have d1 : decide ((j : Int) < (L.length : Int)) = true := dec_t (by omega)
      have i0 : (0 : Int) ≤ (j : Int) := Int.natCast_nonneg j
      have i1 : (j : Int) < (L.length : Int) := by omega
      have HP := Lib.hid hp
      clear hb hy on hp
      obtain ⟨p0, q0⟩ := x
      simp only at c0 c1
      have RX := Lib.hid (heap_alloc_new wr (.cells #[.int .i64 p0, .int .i64 q0] 32))
      have HX := Lib.hid (HB.out.alloc HB.out.size (.cells #[.int .i64 p0, .int .i64 q0] 32))
      go_upto_region 4 with fail
      generalize wr.alloc (.cells #[.int .i64 p0, .int .i64 q0] 32) = w2 at RX HX ⊢
      generalize wr.heap.size = gx at RX ⊢
      clear c0 c1 hbb
      obtain ⟨t0, t1⟩ := cell_posn RX.out
      have gx2 := (Array.getElem?_eq_some_iff.1 RX.out).1
      by_cases hk : p0 = k
      · have E : (p0 == k) = true := by rw [beq_iff_eq]; exact hk
        have HP2 := Lib.hid (show q0 = q from by have := HP.out; rwa [if_pos hk] at this)
        clear hk
        go_wp2_with fail
        go_ret
        exact ⟨by rw [HP2.out] <;> rfl, HX.out⟩
      · have E : (p0 == k) = false := by rw [beq_eq_false_iff_ne]; exact hk
        have HP2 := Lib.hid (show Dm.posOf (L.drop (j + 1)) k = q from by have := HP.out; rwa [if_neg hk] at this)
        clear hk
        go_wp2_with fail
        go_roundw
        case rel => exact ⟨j + 1, by omega, by go_num, HP2.out, HX.out⟩
        case measure => simp [intOf]; omega
    · obtain rfl : j = L.length := by omega
      have d1 : decide ((L.length : Int) < (L.length : Int)) = false := dec_f (by omega)
      rw [List.drop_length] at hp
      have HP := Lib.hid hp
      clear hb hp
      go_wp2_with fail
      go_ret
      exact ⟨by rw [← HP.out]; rfl, HB.out⟩
  --]
set_option maxHeartbeats 4000000 in
set_option maxRecDepth 100000 in
/-- Is a demand's point not less than that of the demand whose first cell is that one? -/
theorem pPutHit (x : Dm.Dem) (k : Int) (g : Nat) (W : World) (hg : g < W.heap.size) (hc : W.cell? ⟨g, 0, none⟩ = some (.int .i64 k)) :
    Calls Try.prog 21 #[demV x, .pointer (some ⟨g, 0, none⟩)] W fun e w' => e = .returned (.bool (decide (k ≤ x.pt))) ∧ Below W.heap.size W w' := by
  --[
  obtain ⟨a, b⟩ := x
  have hne : g ≠ W.heap.size := by omega
  have X := Lib.hid ((Below.refl W.heap.size W).alloc (Nat.le_refl _) (demO ⟨a, b⟩))
  show Calls Try.prog 21 #[.agg #[.int .i64 a, .int .i64 b], .pointer (some ⟨g, 0, none⟩)] W fun e w' => e = .returned (.bool (decide (k ≤ a))) ∧ Below W.heap.size W w'
  cases h1 : decide (k ≤ a)
  · go_enter Try.func21, Try.ntmps21
    go_wp2
    go_ret
    exact ⟨rfl, X.out⟩
  · go_enter Try.func21, Try.ntmps21
    go_wp2
    go_ret
    exact ⟨rfl, X.out⟩
  --]
/-- Is a demand opposed to some? -/
def Dm.opp (M : List Dm.Dem) (x : Dm.Dem) : Bool := decide (Dm.posOf M x.pt ≠ 0) && decide (Dm.posOf M x.pt ≠ x.pos)
set_option maxHeartbeats 4000000 in
set_option maxRecDepth 100000 in
theorem pOppHit (x : Dm.Dem) (A : Option Addr) (c : Nat) (M : List Dm.Dem) (g : Nat) (W : World) (hg : g < W.heap.size) (hc : W.cell? ⟨g, 0, none⟩ = some (.slice A M.length c)) (hM : LDem.Row W A M) (hl : M.length ≤ 1000000) :
    Calls Try.prog 24 #[demV x, .pointer (some ⟨g, 0, none⟩)] W fun e w' => e = .returned (.bool (Dm.opp M x)) ∧ Below W.heap.size W w' := by
  --[
  obtain ⟨a, b⟩ := x
  have hne : g ≠ W.heap.size := by omega
  have XX := (Below.refl W.heap.size W).alloc (Nat.le_refl _) (.cells #[.int .i64 a, .int .i64 b] 32)
  have X := Lib.hid XX
  have R := Lib.hid (heap_alloc_new W (.cells #[.int .i64 a, .int .i64 b] 32))
  have C := Lib.hid (pdPosition_any A c M a _ (hM.below rfl XX) hl)
  have E : Dm.opp M ⟨a, b⟩ = (decide (Dm.posOf M a ≠ 0) && decide (Dm.posOf M a ≠ b)) := rfl
  have hc2 : (W.alloc (.cells #[.int .i64 a, .int .i64 b] 32)).cell? ⟨g, 0, none⟩ = some (.slice A M.length c) := (XX.cell (p := ⟨g, 0, none⟩) hg).trans hc
  rw [E]
  clear E hc hM XX
  generalize Dm.posOf M a = n at C ⊢
  go_enter Try.func24, Try.ntmps24
  go_upto_region 1 with fail
  generalize W.alloc (.cells #[.int .i64 a, .int .i64 b] 32) = w1 at X R C hc2 ⊢
  generalize hg1 : W.heap.size = g1 at R hne ⊢
  clear hg1
  obtain ⟨t0, t1⟩ := cell_posn R.out
  have gl := (Array.getElem?_eq_some_iff.1 R.out).1
  have K1 := Lib.hid (fun W' (hW : Below w1.heap.size w1 W') => (cell_posn ((hW.block _ gl).trans R.out)).2)
  go_wp2_with fail
  refine C.out.mono ?_; rintro e w2 ⟨rfl, hb2⟩
  have k1 := K1.out _ hb2
  have XF := Lib.hid (X.out.trans (hb2.mono X.out.size))
  clear hb2 t0 t1 hc2 C K1 X
  by_cases h0 : n = 0
  · have E : (n != 0) = false := by rw [bne_eq_false_iff_eq]; exact h0
    have V := Lib.hid (show (decide (n ≠ 0) && decide (n ≠ b)) = false from by rw [decide_eq_false (p := n ≠ 0) (fun h => h h0)]; rfl)
    clear h0
    go_wp2_with fail
    go_ret
    exact ⟨by rw [V.out] <;> rfl, XF.out⟩
  have E : (n != 0) = true := by rw [bne_iff_ne]; exact h0
  by_cases h1 : n = b
  · have E2 : (n != b) = false := by rw [bne_eq_false_iff_eq]; exact h1
    have V := Lib.hid (show (decide (n ≠ 0) && decide (n ≠ b)) = false from by rw [decide_eq_false (p := n ≠ b) (fun h => h h1), Bool.and_false])
    clear h0 h1
    go_wp2_with fail
    go_ret
    exact ⟨by rw [V.out] <;> rfl, XF.out⟩
  · have E2 : (n != b) = true := by rw [bne_iff_ne]; exact h1
    have V := Lib.hid (show (decide (n ≠ 0) && decide (n ≠ b)) = true from by rw [decide_eq_true (p := n ≠ b) h1, decide_eq_true (p := n ≠ 0) h0]; rfl)
    clear h0 h1
    go_wp2_with fail
    go_ret
    exact ⟨by rw [V.out] <;> rfl, XF.out⟩
  --]
/-- The number of the first for which a test holds, or -1. -/
def FirstIs (L : List Dm.Dem) (q : Dm.Dem → Bool) (w : World) (e : Ending) (w' : World) : Prop := ∃ i : Int, e = .returned (.int .i64 i) ∧ ((i = -1 ∧ ∀ x ∈ L, q x = false) ∨ ∃ k : Nat, ∃ x, i = (k : Int) ∧ L[k]? = some x ∧ q x = true ∧ ∀ j < k, ∀ t, L[j]? = some t → q t = false) ∧ Below w.heap.size w w'
set_option maxHeartbeats 4000000 in
set_option maxRecDepth 100000 in
theorem pIndexPut (A : Option Addr) (c : Nat) (L : List Dm.Dem) (q : Dm.Dem → Bool) (g : Nat) (w : World) (h : LDem.Row w A L) (hl : L.length ≤ 1000000)
    (hq : ∀ x W, Below w.heap.size w W → Calls Try.prog 21 #[demV x, .pointer (some ⟨g, 0, none⟩)] W fun e w' => e = .returned (.bool (q x)) ∧ Below W.heap.size W w') :
    Calls Try.prog 20 #[.slice A L.length c, .func (.func 21) #[] #[.pointer (some ⟨g, 0, none⟩)]] w (FirstIs L q w) := by
  --[
  have eg : ∀ args w, (callFunc 21 args).run Try.prog w = .ok (.enter 21 args) w := enters_of Try.func21 (by kernel_rfl) rfl
  have IA := Lib.hid h
  have CL := Lib.hid hq
  clear h hq
  go_enter Try.func20, Try.ntmps20
  go_wp2
  go_loopg [5, 8] L.length (fun gg _ s8 wr => ∃ k : Nat, k ≤ L.length ∧ L.length - k ≤ gg ∧ s8 = .int .i64 k ∧ Below w.heap.size w wr ∧ ∀ j < k, ∀ t, L[j]? = some t → q t = false)
  case atStart => exact ⟨0, Nat.zero_le _, by omega, rfl, Below.refl _ w, fun j hj => absurd hj (Nat.not_lt_zero _)⟩
  case round =>
    obtain ⟨k, hk, hgg, rfl, hB, h0⟩ := hrel
    have HB := Lib.hid hB
    have H0 := Lib.hid h0
    clear hB h0
    by_cases hlt : k < L.length
    · have d1 : decide ((k : Int) < (L.length : Int)) = true := dec_t (by omega)
      have hx := List.getElem?_eq_getElem hlt
      obtain ⟨b, o, rfl, hb, on⟩ := (IA.out.below rfl HB.out).at hlt
      generalize L[k] = x at hx on
      obtain ⟨a0, a1⟩ := dem_on on
      rw [show k * LDem.m = k * 2 from rfl] at a0 a1
      have HX := Lib.hid hx
      have CX := Lib.hid (CL.out x wr HB.out)
      clear on hx
      cases h1 : q x with
      | true =>
        rw [h1] at CX
        have HQ := Lib.hid h1
        clear h1
        go_wp2_with (go_at_fn 21; refine CX.out.mono ?_; rintro e w' ⟨rfl, hb'⟩; have HB2 := Lib.hid (HB.out.trans (hb'.mono HB.out.size)); clear hb')
        go_ret
        exact ⟨(k : Int), rfl, .inr ⟨k, x, rfl, HX.out, HQ.out, H0.out⟩, HB2.out⟩
      | false =>
        rw [h1] at CX
        have N := Lib.hid (fun j (hj : j < k + 1) t (ht : L[j]? = some t) => (show q t = false from by
          by_cases hjk : j = k
          · subst hjk
            rw [HX.out] at ht
            cases ht
            exact h1
          · exact H0.out j (by omega) t ht))
        clear h1
        go_wp2_with (go_at_fn 21; refine CX.out.mono ?_; rintro e w' ⟨rfl, hb'⟩; have HB2 := Lib.hid (HB.out.trans (hb'.mono HB.out.size)); clear hb')
        go_roundg (L.length - (k + 1))
        case measure => omega
        case rel => exact ⟨k + 1, by omega, by omega, by go_num, HB2.out, N.out⟩
    · obtain rfl : k = L.length := by omega
      go_wp2
      go_ret
      exact ⟨-1, rfl, .inl ⟨rfl, fun x hx => by
        obtain ⟨j, hj, rfl⟩ := List.getElem_of_mem hx
        exact H0.out j hj _ (List.getElem?_eq_getElem hj)⟩, HB.out⟩
  --]
set_option maxHeartbeats 4000000 in
set_option maxRecDepth 100000 in
theorem pIndexOpp (A : Option Addr) (c : Nat) (L : List Dm.Dem) (q : Dm.Dem → Bool) (g : Nat) (w : World) (h : LDem.Row w A L) (hl : L.length ≤ 1000000)
    (hq : ∀ x W, Below w.heap.size w W → Calls Try.prog 24 #[demV x, .pointer (some ⟨g, 0, none⟩)] W fun e w' => e = .returned (.bool (q x)) ∧ Below W.heap.size W w') :
    Calls Try.prog 20 #[.slice A L.length c, .func (.func 24) #[] #[.pointer (some ⟨g, 0, none⟩)]] w (FirstIs L q w) := by
  --[
  have eg : ∀ args w, (callFunc 24 args).run Try.prog w = .ok (.enter 24 args) w := enters_of Try.func24 (by kernel_rfl) rfl
  have IA := Lib.hid h
  have CL := Lib.hid hq
  clear h hq
  go_enter Try.func20, Try.ntmps20
  go_wp2
  go_loopg [5, 8] L.length (fun gg _ s8 wr => ∃ k : Nat, k ≤ L.length ∧ L.length - k ≤ gg ∧ s8 = .int .i64 k ∧ Below w.heap.size w wr ∧ ∀ j < k, ∀ t, L[j]? = some t → q t = false)
  case atStart => exact ⟨0, Nat.zero_le _, by omega, rfl, Below.refl _ w, fun j hj => absurd hj (Nat.not_lt_zero _)⟩
  case round =>
    obtain ⟨k, hk, hgg, rfl, hB, h0⟩ := hrel
    have HB := Lib.hid hB
    have H0 := Lib.hid h0
    clear hB h0
    by_cases hlt : k < L.length
    · have d1 : decide ((k : Int) < (L.length : Int)) = true := dec_t (by omega)
      have hx := List.getElem?_eq_getElem hlt
      obtain ⟨b, o, rfl, hb, on⟩ := (IA.out.below rfl HB.out).at hlt
      generalize L[k] = x at hx on
      obtain ⟨a0, a1⟩ := dem_on on
      rw [show k * LDem.m = k * 2 from rfl] at a0 a1
      have HX := Lib.hid hx
      have CX := Lib.hid (CL.out x wr HB.out)
      clear on hx
      cases h1 : q x with
      | true =>
        rw [h1] at CX
        have HQ := Lib.hid h1
        clear h1
        go_wp2_with (go_at_fn 24; refine CX.out.mono ?_; rintro e w' ⟨rfl, hb'⟩; have HB2 := Lib.hid (HB.out.trans (hb'.mono HB.out.size)); clear hb')
        go_ret
        exact ⟨(k : Int), rfl, .inr ⟨k, x, rfl, HX.out, HQ.out, H0.out⟩, HB2.out⟩
      | false =>
        rw [h1] at CX
        have N := Lib.hid (fun j (hj : j < k + 1) t (ht : L[j]? = some t) => (show q t = false from by
          by_cases hjk : j = k
          · subst hjk
            rw [HX.out] at ht
            cases ht
            exact h1
          · exact H0.out j (by omega) t ht))
        clear h1
        go_wp2_with (go_at_fn 24; refine CX.out.mono ?_; rintro e w' ⟨rfl, hb'⟩; have HB2 := Lib.hid (HB.out.trans (hb'.mono HB.out.size)); clear hb')
        go_roundg (L.length - (k + 1))
        case measure => omega
        case rel => exact ⟨k + 1, by omega, by omega, by go_num, HB2.out, N.out⟩
    · obtain rfl : k = L.length := by omega
      go_wp2
      go_ret
      exact ⟨-1, rfl, .inl ⟨rfl, fun x hx => by
        obtain ⟨j, hj, rfl⟩ := List.getElem_of_mem hx
        exact H0.out j hj _ (List.getElem?_eq_getElem hj)⟩, HB.out⟩
  --]
set_option maxHeartbeats 4000000 in
set_option maxRecDepth 100000 in
theorem pHasOpp (A : Option Addr) (c : Nat) (L : List Dm.Dem) (q : Dm.Dem → Bool) (g : Nat) (w : World) (h : LDem.Row w A L) (hl : L.length ≤ 1000000)
    (hq : ∀ x W, Below w.heap.size w W → Calls Try.prog 24 #[demV x, .pointer (some ⟨g, 0, none⟩)] W fun e w' => e = .returned (.bool (q x)) ∧ Below W.heap.size W w') :
    Calls Try.prog 23 #[.slice A L.length c, .func (.func 24) #[] #[.pointer (some ⟨g, 0, none⟩)]] w (OneIs (.bool (L.any q)) w) := by
  --[
  have HC := Lib.hid (pIndexOpp A c L q g w h hl hq)
  clear h hq
  go_enter Try.func23, Try.ntmps23
  go_wp2_with fail
  refine HC.out.mono ?_; rintro e w' ⟨i, rfl, h1, hb'⟩
  have HB := Lib.hid hb'
  clear hb' HC
  rcases h1 with ⟨rfl, hn⟩ | ⟨k, x, rfl, hx, hqx, -⟩
  · have V := Lib.hid (show L.any q = false from by rw [List.any_eq_false]; exact fun x hx => by rw [hn x hx]; decide)
    clear hn
    go_wp2_with fail
    go_ret
    exact ⟨by rw [V.out] <;> rfl, HB.out⟩
  · have V := Lib.hid (show L.any q = true from List.any_eq_true.2 ⟨x, List.mem_of_getElem? hx, hqx⟩)
    have D : decide (0 ≤ (k : Int)) = true := dec_t (by omega)
    clear hx hqx
    go_wp2_with fail
    go_ret
    exact ⟨by rw [V.out] <;> rfl, HB.out⟩
  --]
set_option maxHeartbeats 4000000 in
set_option maxRecDepth 100000 in
theorem pdOpposed_any (A : Option Addr) (c : Nat) (L : List Dm.Dem) (A' : Option Addr) (c' : Nat) (M : List Dm.Dem) (w : World) (h : LDem.Row w A L) (hl : L.length ≤ 1000000) (h' : LDem.Row w A' M) (hl' : M.length ≤ 1000000) :
    Calls Try.prog 13 #[.slice A L.length c, .slice A' M.length c'] w (OneIs (.bool (Dm.opposed L M)) w) := by
  --[
  have hb0 := (Below.refl w.heap.size w).alloc (Nat.le_refl _) (.cells #[.slice A' M.length c'] 22)
  have hcell : (w.alloc (.cells #[.slice A' M.length c'] 22)).cell? ⟨w.heap.size, 0, none⟩ = some (.slice A' M.length c') := cell_of_row _ _ 0 _ _ _ (heap_alloc_new w (.cells #[.slice A' M.length c'] 22))
  have hsz : w.heap.size < (w.alloc (.cells #[.slice A' M.length c'] 22)).heap.size := by simp
  have HC := Lib.hid (pHasOpp A c L (Dm.opp M) w.heap.size _ (h.below rfl hb0) hl fun x W hW => pOppHit x A' c' M w.heap.size W (Nat.lt_of_lt_of_le hsz hW.size) ((hW.cell (p := ⟨w.heap.size, 0, none⟩) hsz).trans hcell) ((h'.below rfl hb0).below rfl hW) hl')
  have HB0 := Lib.hid hb0
  have V := Lib.hid (show L.any (Dm.opp M) = Dm.opposed L M from rfl)
  clear h h' hb0 hcell hsz
  go_enter Try.func13, Try.ntmps13
  go_wp2_with fail
  refine HC.out.mono ?_; rintro e w' ⟨rfl, hb'⟩
  go_wp2_with fail
  go_ret
  exact ⟨by rw [V.out] <;> rfl, HB0.out.trans (hb'.mono HB0.out.size)⟩
  --]
end Go.Proofs.Ytkdgcibkjhhpoaa
