/-
  Texts of this claim, merged: DmPr, DmPrB, DmProg, FlKit.
-/
import Derived.Test.YtbmmcmdopekccaaMg04
import Derived.Test.YtbmmcmdopekccaaMg10
import Derived.Test.YtbmmcmdopekccaaMg16
import Derived.Test.YtbmmcmdopekccaaMg17
import Derived.Test.YtbmmcmdopekccaaMg21
import Derived.BigQuiet
import Derived.Deep.LoopGhost
import Derived.Deep.RegionHeld3
import Derived.Laws.Rows
import Derived.Lib.AppendZeros
import Derived.Shelf.Abstract
/-
  The walks of the program's layer 9: what is asked of a point; the first demand for which a test holds; whether two are opposed.
-/
namespace Go.Proofs.Ytbmmcmdopekccaa
open Go.RowKit

set_option maxHeartbeats 4000000 in
set_option maxRecDepth 100000 in
theorem pdPosition_any (A : Option Addr) (c : Nat) (L : List Dm.Dem) (k : Int) (w : World) (h : LDem.Row w A L) (hl : L.length ≤ 1000000) :
    Calls Try.prog 49 #[.slice A L.length c, .int .i64 k] w (OneIs (.int .i64 (Dm.posOf L k)) w) := by
  --[
  have B0 := Lib.hid (Below.refl w.heap.size w)
  have HR := Lib.hid h
  generalize hq : Dm.posOf L k = q
  have HQ := Lib.hid hq
  clear h hq
  go_enter Try.func49, Try.ntmps49
  go_wp2_with fail
  go_loopw [9] (fun v w' => ∃ j : Nat, j ≤ L.length ∧ v = .int .i64 j ∧ Dm.posOf (L.drop j) k = q ∧ Below w.heap.size w w') (fun v _ => L.length - (intOf v).toNat)
  case atStart => exact ⟨0, Nat.zero_le _, rfl, by rw [List.drop_zero]; exact HQ.out, B0.out⟩
  case round =>
    obtain ⟨j, hj, rfl, hp, hb⟩ := hrel
    have HB := Lib.hid hb
    by_cases hlt : j < L.length
    · have hy := List.getElem?_eq_getElem hlt
      obtain ⟨b, o, rfl, hbb, on⟩ := (HR.out.below rfl hb).at hlt
      generalize L[j] = x at hy on
      obtain ⟨c0, c1⟩ := dem_on on
      rw [show j * LDem.m = j * 2 from rfl] at c0 c1
      rw [Dm.posOf_drop hy] at hp
      have d1 : decide ((j : Int) < (L.length : Int)) = true := dec_t (by omega)
      have i0 : (0 : Int) ≤ (j : Int) := Int.natCast_nonneg j
      have i1 : (j : Int) < (L.length : Int) := by omega
      have HP := Lib.hid hp
      clear hb hy on hp
      obtain ⟨p0, q0⟩ := x
      simp only at c0 c1
      have RX := Lib.hid (heap_alloc_new wr (.cells #[.int .i64 p0, .int .i64 q0] 58))
      have HX := Lib.hid (HB.out.alloc HB.out.size (.cells #[.int .i64 p0, .int .i64 q0] 58))
      go_upto_region 4 with fail
      generalize wr.alloc (.cells #[.int .i64 p0, .int .i64 q0] 58) = w2 at RX HX ⊢
      generalize wr.heap.size = gx at RX ⊢
      clear c0 c1 hbb
      obtain ⟨t0, t1⟩ := cell_posn RX.out
      have gx2 := (Array.getElem?_eq_some_iff.1 RX.out).1
      by_cases hk : p0 = k
      · have E : (p0 == k) = true := by rw [beq_iff_eq]; exact hk
        have HP2 := Lib.hid (show q0 = q from by have := HP.out; rwa [if_pos hk] at this)
        clear hk
        go_wp2_with fail
        go_ret
        exact ⟨by rw [HP2.out] <;> rfl, HX.out⟩
      · have E : (p0 == k) = false := by rw [beq_eq_false_iff_ne]; exact hk
        have HP2 := Lib.hid (show Dm.posOf (L.drop (j + 1)) k = q from by have := HP.out; rwa [if_neg hk] at this)
        clear hk
        go_wp2_with fail
        go_roundw
        case rel => exact ⟨j + 1, by omega, by go_num, HP2.out, HX.out⟩
        case measure => simp [intOf]; omega
    · obtain rfl : j = L.length := by omega
      have d1 : decide ((L.length : Int) < (L.length : Int)) = false := dec_f (by omega)
      rw [List.drop_length] at hp
      have HP := Lib.hid hp
      clear hb hp
      go_wp2_with fail
      go_ret
      exact ⟨by rw [← HP.out]; rfl, HB.out⟩
  --]
/-- Is a demand opposed to some? -/
def Dm.opp (M : List Dm.Dem) (x : Dm.Dem) : Bool := decide (Dm.posOf M x.pt ≠ 0) && decide (Dm.posOf M x.pt ≠ x.pos)
set_option maxHeartbeats 4000000 in
set_option maxRecDepth 100000 in
theorem pOppHit (x : Dm.Dem) (A : Option Addr) (c : Nat) (M : List Dm.Dem) (g : Nat) (W : World) (hg : g < W.heap.size) (hc : W.cell? ⟨g, 0, none⟩ = some (.slice A M.length c)) (hM : LDem.Row W A M) (hl : M.length ≤ 1000000) :
    Calls Try.prog 48 #[demV x, .pointer (some ⟨g, 0, none⟩)] W fun e w' => e = .returned (.bool (Dm.opp M x)) ∧ Below W.heap.size W w' := by
  --[
  obtain ⟨a, b⟩ := x
  have hne : g ≠ W.heap.size := by omega
  have XX := (Below.refl W.heap.size W).alloc (Nat.le_refl _) (.cells #[.int .i64 a, .int .i64 b] 58)
  have X := Lib.hid XX
  have R := Lib.hid (heap_alloc_new W (.cells #[.int .i64 a, .int .i64 b] 58))
  have C := Lib.hid (pdPosition_any A c M a _ (hM.below rfl XX) hl)
  have E : Dm.opp M ⟨a, b⟩ = (decide (Dm.posOf M a ≠ 0) && decide (Dm.posOf M a ≠ b)) := rfl
  have hc2 : (W.alloc (.cells #[.int .i64 a, .int .i64 b] 58)).cell? ⟨g, 0, none⟩ = some (.slice A M.length c) := (XX.cell (p := ⟨g, 0, none⟩) hg).trans hc
  rw [E]
  clear E hc hM XX
  generalize Dm.posOf M a = n at C ⊢
  go_enter Try.func48, Try.ntmps48
  go_upto_region 1 with fail
  generalize W.alloc (.cells #[.int .i64 a, .int .i64 b] 58) = w1 at X R C hc2 ⊢
  generalize hg1 : W.heap.size = g1 at R hne ⊢
  clear hg1
  obtain ⟨t0, t1⟩ := cell_posn R.out
  have gl := (Array.getElem?_eq_some_iff.1 R.out).1
  have K1 := Lib.hid (fun W' (hW : Below w1.heap.size w1 W') => (cell_posn ((hW.block _ gl).trans R.out)).2)
  go_wp2_with fail
  refine C.out.mono ?_; rintro e w2 ⟨rfl, hb2⟩
  have k1 := K1.out _ hb2
  have XF := Lib.hid (X.out.trans (hb2.mono X.out.size))
  clear hb2 t0 t1 hc2 C K1 X
  by_cases h0 : n = 0
  · have E : (n != 0) = false := by rw [bne_eq_false_iff_eq]; exact h0
    have V := Lib.hid (show (decide (n ≠ 0) && decide (n ≠ b)) = false from by rw [decide_eq_false (p := n ≠ 0) (fun h => h h0)]; rfl)
    clear h0
    go_wp2_with fail
    go_ret
    exact ⟨by rw [V.out] <;> rfl, XF.out⟩
  have E : (n != 0) = true := by rw [bne_iff_ne]; exact h0
  by_cases h1 : n = b
  · have E2 : (n != b) = false := by rw [bne_eq_false_iff_eq]; exact h1
    have V := Lib.hid (show (decide (n ≠ 0) && decide (n ≠ b)) = false from by rw [decide_eq_false (p := n ≠ b) (fun h => h h1), Bool.and_false])
    clear h0 h1
    go_wp2_with fail
    go_ret
    exact ⟨by rw [V.out] <;> rfl, XF.out⟩
  · have E2 : (n != b) = true := by rw [bne_iff_ne]; exact h1
    have V := Lib.hid (show (decide (n ≠ 0) && decide (n ≠ b)) = true from by rw [decide_eq_true (p := n ≠ b) h1, decide_eq_true (p := n ≠ 0) h0]; rfl)
    clear h0 h1
    go_wp2_with fail
    go_ret
    exact ⟨by rw [V.out] <;> rfl, XF.out⟩
  --]
/-- The number of the first for which a test holds, or -1. -/
def FirstIs (L : List Dm.Dem) (q : Dm.Dem → Bool) (w : World) (e : Ending) (w' : World) : Prop := ∃ i : Int, e = .returned (.int .i64 i) ∧ ((i = -1 ∧ ∀ x ∈ L, q x = false) ∨ ∃ k : Nat, ∃ x, i = (k : Int) ∧ L[k]? = some x ∧ q x = true ∧ ∀ j < k, ∀ t, L[j]? = some t → q t = false) ∧ Below w.heap.size w w'
set_option maxHeartbeats 4000000 in
set_option maxRecDepth 100000 in
theorem pIndexOpp (A : Option Addr) (c : Nat) (L : List Dm.Dem) (q : Dm.Dem → Bool) (g : Nat) (w : World) (h : LDem.Row w A L) (hl : L.length ≤ 1000000)
    (hq : ∀ x W, Below w.heap.size w W → Calls Try.prog 48 #[demV x, .pointer (some ⟨g, 0, none⟩)] W fun e w' => e = .returned (.bool (q x)) ∧ Below W.heap.size W w') :
    Calls Try.prog 71 #[.slice A L.length c, .func (.func 48) #[] #[.pointer (some ⟨g, 0, none⟩)]] w (FirstIs L q w) := by
  --[
  have eg : ∀ args w, (callFunc 48 args).run Try.prog w = .ok (.enter 48 args) w := enters_of Try.func48 (by kernel_rfl) rfl
  have IA := Lib.hid h
  have CL := Lib.hid hq
  clear h hq
  go_enter Try.func71, Try.ntmps71
  go_wp2
  go_loopg [5, 8] L.length (fun gg _ s8 wr => ∃ k : Nat, k ≤ L.length ∧ L.length - k ≤ gg ∧ s8 = .int .i64 k ∧ Below w.heap.size w wr ∧ ∀ j < k, ∀ t, L[j]? = some t → q t = false)
  case atStart => exact ⟨0, Nat.zero_le _, by omega, rfl, Below.refl _ w, fun j hj => absurd hj (Nat.not_lt_zero _)⟩
  case round =>
    obtain ⟨k, hk, hgg, rfl, hB, h0⟩ := hrel
    have HB := Lib.hid hB
    have H0 := Lib.hid h0
    clear hB h0
    by_cases hlt : k < L.length
    · have d1 : decide ((k : Int) < (L.length : Int)) = true := dec_t (by omega)
      have hx := List.getElem?_eq_getElem hlt
      obtain ⟨b, o, rfl, hb, on⟩ := (IA.out.below rfl HB.out).at hlt
      generalize L[k] = x at hx on
      obtain ⟨a0, a1⟩ := dem_on on
      rw [show k * LDem.m = k * 2 from rfl] at a0 a1
      have HX := Lib.hid hx
      have CX := Lib.hid (CL.out x wr HB.out)
      clear on hx
      cases h1 : q x with
      | true =>
        rw [h1] at CX
        have HQ := Lib.hid h1
        clear h1
        go_wp2_with (go_at_fn 48; refine CX.out.mono ?_; rintro e w' ⟨rfl, hb'⟩; have HB2 := Lib.hid (HB.out.trans (hb'.mono HB.out.size)); clear hb')
        go_ret
        exact ⟨(k : Int), rfl, .inr ⟨k, x, rfl, HX.out, HQ.out, H0.out⟩, HB2.out⟩
      | false =>
        rw [h1] at CX
        have N := Lib.hid (fun j (hj : j < k + 1) t (ht : L[j]? = some t) => (show q t = false from by
          by_cases hjk : j = k
          · subst hjk
            rw [HX.out] at ht
            cases ht
            exact h1
          · exact H0.out j (by omega) t ht))
        clear h1
        go_wp2_with (go_at_fn 48; refine CX.out.mono ?_; rintro e w' ⟨rfl, hb'⟩; have HB2 := Lib.hid (HB.out.trans (hb'.mono HB.out.size)); clear hb')
        go_roundg (L.length - (k + 1))
        case measure => omega
        case rel => exact ⟨k + 1, by omega, by omega, by go_num, HB2.out, N.out⟩
    · obtain rfl : k = L.length := by omega
      go_wp2
      go_ret
      exact ⟨-1, rfl, .inl ⟨rfl, fun x hx => by
        obtain ⟨j, hj, rfl⟩ := List.getElem_of_mem hx
        exact H0.out j hj _ (List.getElem?_eq_getElem hj)⟩, HB.out⟩
  --]
set_option maxHeartbeats 4000000 in
set_option maxRecDepth 100000 in
theorem pHasOpp (A : Option Addr) (c : Nat) (L : List Dm.Dem) (q : Dm.Dem → Bool) (g : Nat) (w : World) (h : LDem.Row w A L) (hl : L.length ≤ 1000000)
    (hq : ∀ x W, Below w.heap.size w W → Calls Try.prog 48 #[demV x, .pointer (some ⟨g, 0, none⟩)] W fun e w' => e = .returned (.bool (q x)) ∧ Below W.heap.size W w') :
    Calls Try.prog 47 #[.slice A L.length c, .func (.func 48) #[] #[.pointer (some ⟨g, 0, none⟩)]] w (OneIs (.bool (L.any q)) w) := by
  --[
  have HC := Lib.hid (pIndexOpp A c L q g w h hl hq)
  clear h hq
  go_enter Try.func47, Try.ntmps47
  go_wp2_with fail
  refine HC.out.mono ?_; rintro e w' ⟨i, rfl, h1, hb'⟩
  have HB := Lib.hid hb'
  clear hb' HC
  rcases h1 with ⟨rfl, hn⟩ | ⟨k, x, rfl, hx, hqx, -⟩
  · have V := Lib.hid (show L.any q = false from by rw [List.any_eq_false]; exact fun x hx => by rw [hn x hx]; decide)
    clear hn
    go_wp2_with fail
    go_ret
    exact ⟨by rw [V.out] <;> rfl, HB.out⟩
  · have V := Lib.hid (show L.any q = true from List.any_eq_true.2 ⟨x, List.mem_of_getElem? hx, hqx⟩)
    have D : decide (0 ≤ (k : Int)) = true := dec_t (by omega)
    clear hx hqx
    go_wp2_with fail
    go_ret
    exact ⟨by rw [V.out] <;> rfl, HB.out⟩
  --]
set_option maxHeartbeats 4000000 in
set_option maxRecDepth 100000 in
theorem pdOpposed_any (A : Option Addr) (c : Nat) (L : List Dm.Dem) (A' : Option Addr) (c' : Nat) (M : List Dm.Dem) (w : World) (h : LDem.Row w A L) (hl : L.length ≤ 1000000) (h' : LDem.Row w A' M) (hl' : M.length ≤ 1000000) :
    Calls Try.prog 32 #[.slice A L.length c, .slice A' M.length c'] w (OneIs (.bool (Dm.opposed L M)) w) := by
  --[
  have hb0 := (Below.refl w.heap.size w).alloc (Nat.le_refl _) (.cells #[.slice A' M.length c'] 32)
  have hcell : (w.alloc (.cells #[.slice A' M.length c'] 32)).cell? ⟨w.heap.size, 0, none⟩ = some (.slice A' M.length c') := cell_of_row _ _ 0 _ _ _ (heap_alloc_new w (.cells #[.slice A' M.length c'] 32))
  have hsz : w.heap.size < (w.alloc (.cells #[.slice A' M.length c'] 32)).heap.size := by simp
  have HC := Lib.hid (pHasOpp A c L (Dm.opp M) w.heap.size _ (h.below rfl hb0) hl fun x W hW => pOppHit x A' c' M w.heap.size W (Nat.lt_of_lt_of_le hsz hW.size) ((hW.cell (p := ⟨w.heap.size, 0, none⟩) hsz).trans hcell) ((h'.below rfl hb0).below rfl hW) hl')
  have HB0 := Lib.hid hb0
  have V := Lib.hid (show L.any (Dm.opp M) = Dm.opposed L M from rfl)
  clear h h' hb0 hcell hsz
  go_enter Try.func32, Try.ntmps32
  go_wp2_with fail
  refine HC.out.mono ?_; rintro e w' ⟨rfl, hb'⟩
  go_wp2_with fail
  go_ret
  exact ⟨by rw [V.out] <;> rfl, HB0.out.trans (hb'.mono HB0.out.size)⟩
  --]
end Go.Proofs.Ytbmmcmdopekccaa
/-
  The walks of the program's layer 9: slices.Clone, slices.Grow and slices.Concat over demands.
-/
namespace Go.Proofs.Ytbmmcmdopekccaa
open Go.RowKit

/-- Demands that a call leaves in memory of its own. -/
def DemsNew (L : List Dm.Dem) (w : World) (e : Ending) (w' : World) : Prop := ∃ B d, e = .returned (.slice B L.length d) ∧ LDem.Row w' B L ∧ L.length ≤ d ∧ Below w.heap.size w w' ∧ ∀ a, B = some a → w.heap.size ≤ a.block
theorem DemsNew.yes {L : List Dm.Dem} {w : World} {e : Ending} {w' : World} (h : DemsNew L w e w') : DemsYes L w e w' := by
  obtain ⟨B, d, h1, h2, h3, h4, -⟩ := h
  exact ⟨B, d, h1, h2, h3, h4⟩
theorem DemsNew.of_own {L : List Dm.Dem} {w w' : World} {base n : Nat} {v : Value} (h : w'.ownsRow base 58 LDem.m v n (LDem.all L)) (hn : n = L.length) (hb : Below w.heap.size w w') (hbase : w.heap.size ≤ base) : DemsNew L w (.returned v) w' := by
  subst hn
  have hlt := h.lt
  obtain ⟨-, B, d, rfl, hc, hR⟩ := Lies.Row.of_own (E := LDem) h
  exact ⟨B, d, rfl, hR, hc, hb, fun a ha => by
    subst ha
    exact Nat.le_trans hbase (hlt a.block rfl).1⟩
end Go.Proofs.Ytbmmcmdopekccaa
/-
  The walks of layer 9: what steps ask of points, by the document and by the program.
-/
namespace Go.Proofs.Ytbmmcmdopekccaa
open Go.RowKit

namespace Dm
theorem ofSteps_take {p : Pl.Plan} {L : List Wk.Stp} {k : Nat} {y : Wk.Stp} (h : L[k]? = some y) : ofSteps p (L.take (k + 1)) = if 0 < Wk.position p y then put (ofSteps p (L.take k)) ⟨y.s, Wk.position p y⟩ else ofSteps p (L.take k) := by
  rw [List.take_add_one, h]
  unfold ofSteps
  rw [List.foldl_append]
  rfl
theorem put_len (L : List Dem) (x : Dem) : (put L x).length ≤ L.length + 1 := by
  unfold put
  split
  · omega
  · have h : L.takeWhile (low x.pt) ++ L.dropWhile (low x.pt) = L := List.takeWhile_append_dropWhile
    have := congrArg List.length h
    rw [List.length_append] at this
    rw [List.length_append, List.length_cons]
    omega
theorem ofSteps_len (p : Pl.Plan) (L : List Wk.Stp) : ∀ k, (ofSteps p (L.take k)).length ≤ k
  | 0 => by rw [List.take_zero]; exact Nat.le_refl _
  | k + 1 => by
    have ih := ofSteps_len p L k
    cases h : L[k]? with
    | none =>
      rw [List.take_add_one, h]
      show (ofSteps p (L.take k ++ [])).length ≤ _
      rw [List.append_nil]; omega
    | some y =>
      rw [ofSteps_take h]
      split
      · have := put_len (ofSteps p (L.take k)) ⟨y.s, Wk.position p y⟩; omega
      · omega
end Dm
set_option maxHeartbeats 8000000 in
set_option maxRecDepth 100000 in
theorem rdOf_new (p : Pl.Plan) (A : Option Addr) (c : Nat) (A' : Option Addr) (c' : Nat) (L : List Wk.Stp) (B : Option Addr) (d : Nat) (w : World) (h : PlanIn w p A A') (hL : LStp.Row w B L) (hl : L.length ≤ 500) :
    Calls Try.prog 67 #[planV p A c A' c', .slice B L.length d] w (DemsNew (Dm.ofSteps p L) w) := by
  --[
  have XA := (Below.refl w.heap.size w).alloc (Nat.le_refl _) (planO p A c A' c')
  have X0 := Lib.hid XA
  have RP := Lib.hid (heap_alloc_new w (planO p A c A' c'))
  have gp := (Array.getElem?_eq_some_iff.1 RP.out).1
  have HI := Lib.hid (h.below XA)
  have HL := Lib.hid (hL.below rfl XA)
  have KP := Lib.hid (fun W (hW : Below (w.alloc (planO p A c A' c')).heap.size (w.alloc (planO p A c A' c')) W) => (row6 ((hW.block _ gp).trans RP.out)).1)
  have T0 := Lib.hid (Below.refl (w.alloc (planO p A c A' c')).heap.size (w.alloc (planO p A c A' c')))
  clear XA h hL
  go_enter Try.func67, Try.ntmps67
  go_upto_region 2 with fail
  generalize w.alloc (planO p A c A' c') = w1 at X0 RP gp HI HL KP T0 ⊢
  generalize w.heap.size = gq at RP gp KP ⊢
  go_wp2_with fail
  go_loopw [5, 6, 7] (fun v1 v2 _ w' => ∃ (k : Nat) (B' : Option Addr) (d' : Nat), k ≤ L.length ∧ v1 = .slice B' (Dm.ofSteps p (L.take k)).length d' ∧ v2 = .int .i64 k ∧ LDem.Row w' B' (Dm.ofSteps p (L.take k)) ∧ (Dm.ofSteps p (L.take k)).length ≤ d' ∧ Below w1.heap.size w1 w' ∧ ∀ a, B' = some a → w1.heap.size ≤ a.block) (fun _ v2 _ _ => L.length - (intOf v2).toNat)
  case atStart => exact ⟨0, none, 0, Nat.zero_le _, rfl, rfl, .inl rfl, Nat.le_refl _, T0.out, fun a ha => by cases ha⟩
  case round =>
    obtain ⟨k, B', d', hk, rfl, rfl, hR, hd, hB, hN⟩ := hrel
    have HNW := Lib.hid hN
    clear hN
    have HB := Lib.hid hB
    have HR := Lib.hid hR
    have HD := Lib.hid hd
    clear hB hR hd
    have HLN := Lib.hid (Dm.ofSteps_len p L k)
    by_cases hlt : k < L.length
    · have hy := List.getElem?_eq_getElem hlt
      obtain ⟨b1, o1, rfl, g1, on⟩ := (HL.out.below rfl HB.out).at hlt
      generalize L[k] = y at hy on
      obtain ⟨r0, r1, r2⟩ := stp_on on
      rw [show k * LStp.m = k * 3 from rfl] at r0 r1 r2
      have d1 : decide ((k : Int) < (L.length : Int)) = true := dec_t (by omega)
      have i0 : (0 : Int) ≤ (k : Int) := Int.natCast_nonneg k
      have i1 : (k : Int) < (L.length : Int) := by omega
      have HN := Lib.hid (Dm.ofSteps_take (p := p) hy)
      have KS := Lib.hid (fun W (hW : Below wr.heap.size wr W) => And.intro (KP.out _ (HB.out.trans (hW.mono HB.out.size))) (And.intro ((hW.cell (p := ⟨b1, o1 + k * 3, none⟩) g1).trans r0) (And.intro ((hW.cell (p := ⟨b1, o1 + k * 3 + 1, none⟩) g1).trans r1) ((hW.cell (p := ⟨b1, o1 + k * 3 + 2, none⟩) g1).trans r2))))
      have R0 := Lib.hid (Below.refl wr.heap.size wr)
      have CP := Lib.hid (fun W (hW : Below wr.heap.size wr W) => Made.of (w := wr) hW (rwPosition_any p A c A' c' y W (HI.out.below (HB.out.trans (hW.mono HB.out.size)))))
      generalize hpos : Wk.position p y = n at CP HN
      obtain ⟨s, f, t⟩ := y
      clear hpos hy on
      simp only at r0 r1 r2
      generalize HQ : Dm.ofSteps p (L.take k) = M at HR HD HLN HN ⊢
      clear HQ
      obtain ⟨⟨p0, p1, p2, p3, p4, p5⟩, -⟩ := KS.out _ R0.out
      go_upto_region 5 with fail
      clear p0 p1 p2 p3 p4 p5 r0 r1 r2
      go_region_held3 (fun W' => (W'.cell? ⟨gq, 0, none⟩ = some (.int .i64 p.ov) ∧ W'.cell? ⟨gq, 1, none⟩ = some (.int .i64 p.ap) ∧ W'.cell? ⟨gq, 2, none⟩ = some (.int .i64 p.se) ∧ W'.cell? ⟨gq, 3, none⟩ = some (.int .i64 p.ho) ∧ W'.cell? ⟨gq, 4, none⟩ = some (.slice A p.secs.length c) ∧ W'.cell? ⟨gq, 5, none⟩ = some (.slice A' p.sigs.length c')) ∧ W'.cell? ⟨b1, o1 + k * 3, none⟩ = some (.int .i64 s) ∧ W'.cell? ⟨b1, o1 + k * 3 + 1, none⟩ = some (.int .i64 f) ∧ W'.cell? ⟨b1, o1 + k * 3 + 2, none⟩ = some (.int .i64 t))
        (first | with_reducible exact KS.out _ R0.out.drew | with_reducible exact KS.out _ h5)
        (first
          | (go_at_call 68; (with_reducible refine (CP.out _ R0.out.drew).mono ?_); rintro e5 w5 ⟨rfl, -, h5, -⟩))
      obtain ⟨-, r0, -, -⟩ := KS.out _ h5
      have HB5 := Lib.hid (HB.out.trans (h5.mono HB.out.size))
      have HR5 := Lib.hid (HR.out.below rfl h5)
      clear h5 CP KS
      by_cases hn : 0 < n
      · have D : decide (0 < n) = true := dec_t hn
        have HN2 := Lib.hid (show Dm.ofSteps p (L.take (k + 1)) = Dm.put M ⟨s, n⟩ from by rw [HN.out, if_pos hn])
        have CU := Lib.hid (rdPut_or B' d' M ⟨s, n⟩ w5 HR5.out (by have := HLN.out; omega) HD.out)
        clear hn HN
        go_wp2_with fail
        refine CU.out.mono ?_; rintro e6 w6 ⟨B6, d6, rfl, hR6, hd6, hb6, hn6⟩
        have HNW6 := Lib.hid (show ∀ a, B6 = some a → w1.heap.size ≤ a.block from fun a ha => by
          rcases hn6 with ⟨h1, -⟩ | h1
          · exact HNW.out a (h1 ▸ ha)
          · have := h1 a ha
            have := HB5.out.size
            omega)
        clear hn6
        rw [← HN2.out] at hR6 hd6 ⊢
        have HR6 := Lib.hid hR6
        have HD6 := Lib.hid hd6
        have HB6 := Lib.hid (HB5.out.trans (hb6.mono HB5.out.size))
        generalize hq : (Dm.ofSteps p (List.take (k + 1) L)).length = N6
        have HQ6 := Lib.hid hq
        clear hR6 hd6 hb6 CU HN2 hq
        go_wp2_with fail
        go_roundw
        case rel => exact ⟨k + 1, B6, d6, by omega, by rw [HQ6.out], by go_num, HR6.out, HD6.out, HB6.out, HNW6.out⟩
        case measure => simp [intOf]; omega
      · have D : decide (0 < n) = false := dec_f hn
        have HN2 := Lib.hid (show Dm.ofSteps p (L.take (k + 1)) = M from by rw [HN.out, if_neg hn])
        clear hn HN
        go_wp2_with fail
        go_roundw
        case rel => exact ⟨k + 1, B', d', by omega, by rw [HN2.out], by go_num, by rw [HN2.out]; exact HR5.out, by rw [HN2.out]; exact HD.out, HB5.out, HNW.out⟩
        case measure => simp [intOf]; omega
    · obtain rfl : k = L.length := by omega
      have d1 : decide ((L.length : Int) < (L.length : Int)) = false := dec_f (by omega)
      rw [List.take_length] at HR HD ⊢
      generalize hq : Dm.ofSteps p L = M at HR HD ⊢
      have HQ := Lib.hid hq
      clear hq
      have HX := Lib.hid (X0.out.trans (HB.out.mono X0.out.size))
      go_wp2_with fail
      go_ret
      rw [HQ.out]
      exact ⟨B', d', rfl, HR.out, HD.out, HX.out, fun a ha => Nat.le_trans X0.out.size (HNW.out a ha)⟩
  --]
end Go.Proofs.Ytbmmcmdopekccaa
/-
  What both searches of layer 10 share: rows that are kept, a way's steps one by one, what an answer leaves.
-/
namespace Go.Proofs.Ytbmmcmdopekccaa
open Go.RowKit

theorem Lies.Row.kept {α : Type} {E : Lies α} {w w' : World} {A : Option Addr} {L : List α} (h : E.Row w A L) (hs : w.heap.size ≤ w'.heap.size) (hk : L ≠ [] → ∀ a, A = some a → w'.heap[a.block]? = w.heap[a.block]?) : E.Row w' A L := by
  rcases h with h | ⟨b, o, hA, hlt, h⟩
  · exact .inl h
  · refine .inr ⟨b, o, hA, by omega, fun k y hy j v hv => ?_⟩
    have e := hk (fun e => by rw [e] at hy; simp at hy) _ hA
    rw [← h k y hy j v hv]
    unfold World.cell?
    rw [show w'.heap[b]? = w.heap[b]? from e]
theorem Fl.next_fit {p : Pl.Plan} (hf : Pl.Fit p) {s k q f : Int} (h : Wk.next p s k = (q, f, true)) : (0 ≤ q ∧ q < p.secs.length) ∧ 0 ≤ f ∧ f ≤ 2 := by
  unfold Wk.next at h
  split at h
  · exact absurd (congrArg (fun x => x.2.2) h) (by simp)
  · rename_i x hx
    split at h
    · exact absurd (congrArg (fun x => x.2.2) h) (by simp)
    · rename_i hg
      obtain ⟨i, e, y, h1, h2, h3, h4, h5⟩ := Lp.endOf_some hx
      simp only [Prod.mk.injEq] at h
      obtain ⟨e1, e2, -⟩ := h
      have h6 := hf.ends i y h4 e h3
      rw [← h5] at h6
      have h7 := h6.2.2 (by omega)
      omega
theorem Lies.Row.lt {α : Type} {E : Lies α} {w : World} {A : Option Addr} {L : List α} (h : E.Row w A L) (hne : L ≠ []) : ∀ a, A = some a → a.block < w.heap.size := fun a ha => by
  rcases h with h | ⟨b, o, hA, hlt, -⟩
  · exact absurd h hne
  · rw [ha] at hA
    cases hA
    exact hlt
theorem any_drop {L : List Int} {j : Nat} {x : Int} (h : L[j]? = some x) (n : Int) : (L.drop j).any (fun y => decide (y = n)) = (decide (x = n) || (L.drop (j + 1)).any fun y => decide (y = n)) := by
  obtain ⟨hj, rfl⟩ := List.getElem?_eq_some_iff.1 h
  rw [List.drop_eq_getElem_cons hj, List.any_cons]
theorem infoStp3 : (Try.prog.info? 39).map (fun i => (i.zero, i.size, i.bytes)) = some (some (.agg #[.int .i64 0, .int .i64 0, .int .i64 0]), 3, 24) := by kernel_rfl
theorem ownstp_empty (w : World) {g base : Nat} (hg : w.heap.size = g) (hb : base ≤ g) : (w.alloc (.cells #[] 39)).ownsRow base 39 LStp.m (.slice (some ⟨g, 0, none⟩) 0 0) 0 [] := by
  subst hg
  exact ⟨rfl, .inr ⟨w.heap.size, 0, #[], rfl, hb, heap_alloc_new _ _, Nat.le_refl _, by unfold maxLen; omega, rfl, rfl⟩⟩
/-- What flank leaves. -/
def FlankIs (g : Fl.G) (w : World) (e : Ending) (w' : World) : Prop := ∃ B1 d1 B2 d2, e = .returned (.tuple #[.slice B1 g.pts.length d1, .slice B2 g.fl.length d2]) ∧ LDem.Row w' B1 g.pts ∧ g.pts.length ≤ d1 ∧ LNum.Row w' B2 g.fl ∧ g.fl.length ≤ d2 ∧ Below w.heap.size w w' ∧ (g.pts ≠ [] → ∀ a, B1 = some a → w.heap.size ≤ a.block) ∧ (g.fl ≠ [] → ∀ a, B2 = some a → w.heap.size ≤ a.block)
namespace Fl
def upTo (p : Pl.Plan) (own : List Wk.Stp) (k : Nat) : G := (own.take k).foldl (one p own) ⟨Dm.ofSteps p own, [], []⟩
theorem upTo_next {p : Pl.Plan} {own : List Wk.Stp} {k : Nat} {y : Wk.Stp} (h : own[k]? = some y) : upTo p own (k + 1) = one p own (upTo p own k) y := by
  unfold upTo
  rw [List.take_add_one, h, List.foldl_append]; rfl
theorem upTo_all (p : Pl.Plan) (own : List Wk.Stp) : upTo p own own.length = of p own := by
  unfold upTo of
  rw [List.take_length]
theorem one_len (p : Pl.Plan) (own : List Wk.Stp) (x : Wk.Stp) (g : G) : (one p own g x).pts.length ≤ g.pts.length + 8 ∧ (one p own g x).fl.length ≤ g.fl.length + 8 := by
  unfold one
  split
  · have ha := on_adds p own 9 x.s (3 - Wk.position p x) { g with seen := [] }
    have h3 := ha.most (Nat.zero_le _)
    have h4 := ha.pts
    have h5 := ha.fl
    simp only [List.length_nil, Nat.add_zero] at h4 h5
    exact ⟨by omega, by omega⟩
  · exact ⟨by omega, by omega⟩
theorem upTo_len (p : Pl.Plan) (own : List Wk.Stp) : ∀ k, k ≤ own.length → (upTo p own k).pts.length ≤ own.length + 8 * k ∧ (upTo p own k).fl.length ≤ 8 * k
  | 0, _ => by
    have := Dm.ofSteps_len p own own.length
    rw [List.take_length] at this
    exact ⟨this, Nat.le_refl _⟩
  | k + 1, h => by
    rw [upTo_next (List.getElem?_eq_getElem (show k < own.length by omega))]
    have h1 := upTo_len p own k (by omega)
    have h2 := one_len p own (own[k]'(by omega)) (upTo p own k)
    omega
end Fl
end Go.Proofs.Ytbmmcmdopekccaa
