/-
  Texts of this claim, merged: ClPr, ClPrB, BsPr.
-/
import Derived.Test.YtbmmcmdopekccaaMg16
import Derived.Test.YtbmmcmdopekccaaMg22
import Derived.Test.YtbmmcmdopekccaaMg33
import Derived.Deep.CutRange
import Derived.Deep.RegionHeld3
import Derived.Deep.RegionWith
import Derived.Shelf.Spec.TrailingZeros
/-
  The walks of the program's layer 14: whether a section is in both, whether points are asked for in opposed positions, whether one leads to the other one.
-/
namespace Go.Proofs.Ytbmmcmdopekccaa
open Go.RowKit

set_option maxHeartbeats 4000000 in
set_option maxRecDepth 100000 in
/-- Is a step's section in the steps that lie in that cell? -/
theorem pShareOf (x : Wk.Stp) (A : Option Addr) (c : Nat) (M : List Wk.Stp) (g : Nat) (W : World) (hg : g < W.heap.size) (hc : W.cell? ⟨g, 0, none⟩ = some (.slice A M.length c)) (hM : LStp.Row W A M) (hl : M.length ≤ 1000000) :
    Calls Try.prog 30 #[stpV x, .pointer (some ⟨g, 0, none⟩)] W fun e w' => e = .returned (.bool (Wk.within M x.s)) ∧ Below W.heap.size W w' := by
  --[
  obtain ⟨a, b, d⟩ := x
  have hne : g ≠ W.heap.size := by omega
  have XX := (Below.refl W.heap.size W).alloc (Nat.le_refl _) (stpO ⟨a, b, d⟩)
  have X := Lib.hid XX
  have C := Lib.hid (pwWithin_any A c M a _ (hM.below rfl XX) hl)
  clear hM XX
  show Calls Try.prog 30 #[.agg #[.int .i64 a, .int .i64 b, .int .i64 d], .pointer (some ⟨g, 0, none⟩)] W fun e w' => e = .returned (.bool (Wk.within M a)) ∧ Below W.heap.size W w'
  generalize Wk.within M a = z at C ⊢
  go_enter Try.func30, Try.ntmps30
  go_wp2_with fail
  refine C.out.mono ?_; rintro e w2 ⟨rfl, hb2⟩
  have XF := Lib.hid (X.out.trans (hb2.mono X.out.size))
  clear hb2 C X
  go_wp2_with fail
  go_ret
  exact ⟨rfl, XF.out⟩
  --]
set_option maxHeartbeats 4000000 in
set_option maxRecDepth 100000 in
theorem pIndexShare (A : Option Addr) (c : Nat) (L : List Wk.Stp) (q : Wk.Stp → Bool) (g : Nat) (w : World) (h : LStp.Row w A L) (hl : L.length ≤ 1000000)
    (hq : ∀ x W, Below w.heap.size w W → Calls Try.prog 30 #[stpV x, .pointer (some ⟨g, 0, none⟩)] W fun e w' => e = .returned (.bool (q x)) ∧ Below W.heap.size W w') :
    Calls Try.prog 45 #[.slice A L.length c, .func (.func 30) #[] #[.pointer (some ⟨g, 0, none⟩)]] w (HitIs (L.any q) w) := by
  --[
  have eg : ∀ args w, (callFunc 30 args).run Try.prog w = .ok (.enter 30 args) w := enters_of Try.func30 (by kernel_rfl) rfl
  have IA := Lib.hid h
  have CL := Lib.hid hq
  clear h hq
  go_enter Try.func45, Try.ntmps45
  go_wp2
  go_loopg [5, 8] L.length (fun gg _ s8 wr => ∃ k : Nat, k ≤ L.length ∧ L.length - k ≤ gg ∧ s8 = .int .i64 k ∧ Below w.heap.size w wr ∧ ∀ j < k, ∀ t, L[j]? = some t → q t = false)
  case atStart => exact ⟨0, Nat.zero_le _, by omega, rfl, Below.refl _ w, fun j hj => absurd hj (Nat.not_lt_zero _)⟩
  case round =>
    obtain ⟨k, hk, hgg, rfl, hB, h0⟩ := hrel
    have HB := Lib.hid hB
    have H0 := Lib.hid h0
    clear hB h0
    by_cases hlt : k < L.length
    · have d1 : decide ((k : Int) < (L.length : Int)) = true := dec_t (by omega)
      have hx := List.getElem?_eq_getElem hlt
      obtain ⟨b, o, rfl, hb, on⟩ := (IA.out.below rfl HB.out).at hlt
      generalize L[k] = x at hx on
      obtain ⟨a0, a1, a2⟩ := stp_on on
      rw [show k * LStp.m = k * 3 from rfl] at a0 a1 a2
      have HX := Lib.hid hx
      have CX := Lib.hid (CL.out x wr HB.out)
      clear on hx
      cases h1 : q x with
      | true =>
        rw [h1] at CX
        have P := Lib.hid (show L.any q = true from List.any_eq_true.2 ⟨x, List.mem_of_getElem? HX.out, h1⟩)
        clear h1
        go_wp2_with (go_at_fn 30; refine CX.out.mono ?_; rintro e w' ⟨rfl, hb'⟩; have HB2 := Lib.hid (HB.out.trans (hb'.mono HB.out.size)); clear hb')
        go_ret
        exact ⟨(k : Int), rfl, (fun _ => dec_t (by omega)), (fun h => absurd (P.out.symm.trans h) (by decide)), HB2.out⟩
      | false =>
        rw [h1] at CX
        have N := Lib.hid (fun j (hj : j < k + 1) t (ht : L[j]? = some t) => (show q t = false from by
          by_cases hjk : j = k
          · subst hjk
            rw [HX.out] at ht
            cases ht
            exact h1
          · exact H0.out j (by omega) t ht))
        clear h1
        go_wp2_with (go_at_fn 30; refine CX.out.mono ?_; rintro e w' ⟨rfl, hb'⟩; have HB2 := Lib.hid (HB.out.trans (hb'.mono HB.out.size)); clear hb')
        go_roundg (L.length - (k + 1))
        case measure => omega
        case rel => exact ⟨k + 1, by omega, by omega, by go_num, HB2.out, N.out⟩
    · obtain rfl : k = L.length := by omega
      have P := Lib.hid (show L.any q = false from by
        rw [List.any_eq_false]
        intro x hx
        obtain ⟨j, hj, rfl⟩ := List.getElem_of_mem hx
        rw [H0.out j hj _ (List.getElem?_eq_getElem hj)]
        decide)
      go_wp2
      go_ret
      exact ⟨-1, rfl, (fun h => absurd (P.out.symm.trans h) (by decide)), (fun _ => rfl), HB.out⟩
  --]
set_option maxHeartbeats 4000000 in
set_option maxRecDepth 100000 in
theorem pHasShare (A : Option Addr) (c : Nat) (L : List Wk.Stp) (q : Wk.Stp → Bool) (g : Nat) (w : World) (h : LStp.Row w A L) (hl : L.length ≤ 1000000)
    (hq : ∀ x W, Below w.heap.size w W → Calls Try.prog 30 #[stpV x, .pointer (some ⟨g, 0, none⟩)] W fun e w' => e = .returned (.bool (q x)) ∧ Below W.heap.size W w') :
    Calls Try.prog 29 #[.slice A L.length c, .func (.func 30) #[] #[.pointer (some ⟨g, 0, none⟩)]] w (OneIs (.bool (L.any q)) w) := by
  --[
  have HC := Lib.hid (pIndexShare A c L q g w h hl hq)
  clear h hq
  generalize L.any q = z at HC ⊢
  go_enter Try.func29, Try.ntmps29
  go_wp2_with fail
  refine HC.out.mono ?_; rintro e w' ⟨i, rfl, h1, h2, hb'⟩
  have HB := Lib.hid hb'
  clear hb' HC
  cases z with
  | true =>
    have D := h1 rfl
    clear h1 h2
    go_wp2_with fail
    go_ret
    exact ⟨rfl, HB.out⟩
  | false =>
    obtain rfl := h2 rfl
    clear h1 h2
    go_wp2_with fail
    go_ret
    exact ⟨rfl, HB.out⟩
  --]
set_option maxHeartbeats 4000000 in
set_option maxRecDepth 100000 in
theorem pcShare_any (A : Option Addr) (c : Nat) (L : List Wk.Stp) (A' : Option Addr) (c' : Nat) (M : List Wk.Stp) (w : World) (h : LStp.Row w A L) (hl : L.length ≤ 1000000) (h' : LStp.Row w A' M) (hl' : M.length ≤ 1000000) :
    Calls Try.prog 18 #[.slice A L.length c, .slice A' M.length c'] w (OneIs (.bool (Cl.share L M)) w) := by
  --[
  have hb0 := (Below.refl w.heap.size w).alloc (Nat.le_refl _) (.cells #[.slice A' M.length c'] 31)
  have hcell : (w.alloc (.cells #[.slice A' M.length c'] 31)).cell? ⟨w.heap.size, 0, none⟩ = some (.slice A' M.length c') := cell_of_row _ _ 0 _ _ _ (heap_alloc_new w (.cells #[.slice A' M.length c'] 31))
  have hsz : w.heap.size < (w.alloc (.cells #[.slice A' M.length c'] 31)).heap.size := by simp
  have HC := Lib.hid (pHasShare A c L (fun x => Wk.within M x.s) w.heap.size _ (h.below rfl hb0) hl fun x W hW => pShareOf x A' c' M w.heap.size W (Nat.lt_of_lt_of_le hsz hW.size) ((hW.cell (p := ⟨w.heap.size, 0, none⟩) hsz).trans hcell) ((h'.below rfl hb0).below rfl hW) hl')
  have HB0 := Lib.hid hb0
  have V := Lib.hid (show L.any (fun x => Wk.within M x.s) = Cl.share L M from rfl)
  clear h h' hb0 hcell hsz
  go_enter Try.func18, Try.ntmps18
  go_wp2_with fail
  refine HC.out.mono ?_; rintro e w' ⟨rfl, hb'⟩
  go_wp2_with fail
  go_ret
  exact ⟨by rw [V.out] <;> rfl, HB0.out.trans (hb'.mono HB0.out.size)⟩
  --]
set_option maxHeartbeats 4000000 in
set_option maxRecDepth 100000 in
theorem pcOpp_any (A : Option Addr) (c : Nat) (L : List Dm.Dem) (A' : Option Addr) (c' : Nat) (M : List Dm.Dem) (w : World) (h : LDem.Row w A L) (hl : L.length ≤ 1000000) (h' : LDem.Row w A' M) (hl' : M.length ≤ 1000000) :
    Calls Try.prog 19 #[.slice A L.length c, .slice A' M.length c'] w (OneIs (.bool (Cl.opp L M)) w) := by
  --[
  have C1 := Lib.hid (pdOpposed_any A c L A' c' M w h hl h' hl')
  have C2 := Lib.hid (fun W (hW : Below w.heap.size w W) => pdOpposed_any A' c' M A c L W (h'.below rfl hW) hl' (h.below rfl hW) hl)
  show Calls Try.prog 19 #[.slice A L.length c, .slice A' M.length c'] w (OneIs (.bool (Dm.opposed L M || Dm.opposed M L)) w)
  clear h h'
  generalize Dm.opposed M L = z2 at C2 ⊢
  generalize Dm.opposed L M = z1 at C1 ⊢
  go_enter Try.func19, Try.ntmps19
  go_wp2_with fail
  refine C1.out.mono ?_; rintro e w1 ⟨rfl, hb1⟩
  have B1 := Lib.hid hb1
  clear hb1
  cases z1 with
  | true =>
    go_wp2_with fail
    go_ret
    exact ⟨rfl, B1.out⟩
  | false =>
    go_wp2_with fail
    refine (C2.out _ B1.out).mono ?_; rintro e w2 ⟨rfl, hb2⟩
    have B2 := Lib.hid (B1.out.trans (hb2.mono B1.out.size))
    clear hb2 B1 C1 C2
    go_wp2_with fail
    go_ret
    exact ⟨rfl, B2.out⟩
  --]
set_option maxHeartbeats 4000000 in
set_option maxRecDepth 100000 in
theorem pcLeads_any (m m' : RouteM) (w : World) : Calls Try.prog 33 #[rtV m, rtV m'] w (OneIs (.bool (Cl.leads m.r m'.r)) w) := by
  --[
  obtain ⟨A1, c1, A2, c2, A3, c3, A4, c4, A5, c5, ⟨en, ex, ys, yl, yp, yf, yn, yd, yt⟩⟩ := m
  obtain ⟨B1, d1, B2, d2, B3, d3, B4, d4, B5, d5, ⟨en', ex', ys', yl', yp', yf', yn', yd', yt'⟩⟩ := m'
  show Calls Try.prog 33 #[.agg #[.int .i64 en, .int .i64 ex, .slice A1 ys.length c1, .slice A2 yl.length c2, .slice A3 yp.length c3, .slice A4 yf.length c4, .slice A5 yn.length c5, .int .i64 yd, .int .i64 yt], .agg #[.int .i64 en', .int .i64 ex', .slice B1 ys'.length d1, .slice B2 yl'.length d2, .slice B3 yp'.length d3, .slice B4 yf'.length d4, .slice B5 yn'.length d5, .int .i64 yd', .int .i64 yt']] w (OneIs (.bool (decide (0 ≤ ex) && (ex == en'))) w)
  have XX := ((Below.refl w.heap.size w).alloc (Nat.le_refl _) (.cells #[.int .i64 en, .int .i64 ex, .slice A1 ys.length c1, .slice A2 yl.length c2, .slice A3 yp.length c3, .slice A4 yf.length c4, .slice A5 yn.length c5, .int .i64 yd, .int .i64 yt] 35)).alloc (by simp) (.cells #[.int .i64 en', .int .i64 ex', .slice B1 ys'.length d1, .slice B2 yl'.length d2, .slice B3 yp'.length d3, .slice B4 yf'.length d4, .slice B5 yn'.length d5, .int .i64 yd', .int .i64 yt'] 35)
  have X := Lib.hid XX
  clear XX
  by_cases h0 : 0 ≤ ex
  · have D0 : decide (0 ≤ ex) = true := dec_t h0
    rw [D0, Bool.true_and]
    cases h1 : (ex == en') with
    | true =>
      go_enter Try.func33, Try.ntmps33
      go_wp2_with fail
      go_ret
      exact ⟨rfl, X.out⟩
    | false =>
      go_enter Try.func33, Try.ntmps33
      go_wp2_with fail
      go_ret
      exact ⟨rfl, X.out⟩
  · have D0 : decide (0 ≤ ex) = false := dec_f h0
    rw [D0, Bool.false_and]
    clear h0
    go_enter Try.func33, Try.ntmps33
    go_wp2_with fail
    go_ret
    exact ⟨rfl, X.out⟩
  --]
end Go.Proofs.Ytbmmcmdopekccaa
/-
  The walks of the program's layer 14: whether an overlap meets another route; Bars.
-/
namespace Go.Proofs.Ytbmmcmdopekccaa
open Go.RowKit

theorem two_puts (w : World) (a b : Obj) : ((w.alloc a).alloc b).heap[w.heap.size]? = some a ∧ ((w.alloc a).alloc b).heap[w.heap.size + 1]? = some b ∧ Below w.heap.size w ((w.alloc a).alloc b) := by
  have s1 : (w.alloc a).heap.size = w.heap.size + 1 := by simp
  refine ⟨?_, ?_, ((Below.refl _ _).alloc (Nat.le_refl _) _).alloc (by omega) _⟩
  · rw [heap_alloc_old _ _ (by omega)]; exact heap_alloc_new _ _
  · rw [← s1]; exact heap_alloc_new _ _
set_option maxHeartbeats 8000000 in
set_option maxRecDepth 100000 in
theorem pcMeets_any (m m' : RouteM) (w : World) (h : PartsIn w m) (h' : PartsIn w m') (hl : m.r.lap.length ≤ 1000000) (hs' : m'.r.steps.length ≤ 1000000) (hl' : m'.r.lap.length ≤ 1000000) :
    Calls Try.prog 20 #[rtV m, rtV m'] w (OneIs (.bool (Cl.meets m.r m'.r)) w) := by
  --[
  obtain ⟨R1, R2, XX⟩ := two_puts w (rtO m) (rtO m')
  have X := Lib.hid XX
  have P := Lib.hid (h.below XX)
  have P' := Lib.hid (h'.below XX)
  have CL := Lib.hid (fun W => pcLeads_any m m' W)
  show Calls Try.prog 20 #[rtV m, rtV m'] w (OneIs (.bool (!Cl.leads m.r m'.r && (Cl.share m.r.lap m'.r.steps || Cl.share m.r.lap m'.r.lap))) w)
  have C1 := Lib.hid (fun W (hW : Below ((w.alloc (rtO m)).alloc (rtO m')).heap.size ((w.alloc (rtO m)).alloc (rtO m')) W) => pcShare_any m.A2 m.c2 m.r.lap m'.A1 m'.c1 m'.r.steps W (P.out.p2.below rfl hW) hl (P'.out.p1.below rfl hW) hs')
  have C2 := Lib.hid (fun W (hW : Below ((w.alloc (rtO m)).alloc (rtO m')).heap.size ((w.alloc (rtO m)).alloc (rtO m')) W) => pcShare_any m.A2 m.c2 m.r.lap m'.A2 m'.c2 m'.r.lap W (P.out.p2.below rfl hW) hl (P'.out.p2.below rfl hW) hl')
  generalize Cl.share m.r.lap m'.r.steps = z1 at C1 ⊢
  generalize Cl.share m.r.lap m'.r.lap = z2 at C2 ⊢
  generalize Cl.leads m.r m'.r = z0 at CL ⊢
  clear h h' XX
  go_enter Try.func20, Try.ntmps20
  go_upto_region 1 with fail
  generalize (w.alloc (rtO m)).alloc (rtO m') = w2 at X P P' R1 R2 C1 C2 ⊢
  generalize w.heap.size + 1 = g2 at R2 ⊢
  generalize hg : w.heap.size = g at R1 ⊢
  obtain ⟨⟨p0, p1, p2, p3, p4, p5, p6, p7, p8⟩, -, gx⟩ := row9 R1
  obtain ⟨⟨q0, q1, q2, q3, q4, q5, q6, q7, q8⟩, -, gy⟩ := row9 R2
  have K := Lib.hid (fun W (hW : Below w2.heap.size w2 W) => And.intro (And.intro ((hW.cell (p := ⟨g, 3, none⟩) gx).trans p3) ((hW.cell (p := ⟨g2, 2, none⟩) gy).trans q2)) ((hW.cell (p := ⟨g2, 3, none⟩) gy).trans q3))
  have X2 := Lib.hid (Below.refl w2.heap.size w2)
  clear hg R1 R2 hl hs' hl'
  go_wp2_with fail
  refine (CL.out _).mono ?_; rintro e w3 ⟨rfl, hb3⟩
  obtain ⟨⟨k3, k2⟩, k4⟩ := K.out _ hb3
  have B3 := Lib.hid hb3
  have F3 := Lib.hid (X.out.trans (hb3.mono X.out.size))
  clear hb3 p0 p1 p2 p3 p4 p5 p6 p7 p8 q0 q1 q2 q3 q4 q5 q6 q7 q8 gx gy CL
  cases z0 with
  | true =>
    go_wp2_with fail
    go_ret
    exact ⟨rfl, F3.out⟩
  | false =>
    go_wp2_with fail
    refine (C1.out _ B3.out).mono ?_; rintro e w4 ⟨rfl, hb4⟩
    have B4 := Lib.hid (B3.out.trans (hb4.mono B3.out.size))
    have F4 := Lib.hid (F3.out.trans (hb4.mono F3.out.size))
    clear hb4 k3 k2 k4 C1
    obtain ⟨⟨k3, k2⟩, k4⟩ := K.out _ B4.out
    cases z1 with
    | true =>
      go_wp2_with fail
      go_ret
      exact ⟨rfl, F4.out⟩
    | false =>
      go_wp2_with fail
      refine (C2.out _ B4.out).mono ?_; rintro e w5 ⟨rfl, hb5⟩
      have F5 := Lib.hid (F4.out.trans (hb5.mono F4.out.size))
      clear hb5
      go_wp2_with fail
      go_ret
      exact ⟨rfl, F5.out⟩
  --]
/-- The parts that are looked at are short. -/
def Cl.Tiny (r : Rt.Route) : Prop := r.steps.length ≤ 1000000 ∧ r.lap.length ≤ 1000000 ∧ r.pts.length ≤ 1000000
set_option maxHeartbeats 16000000 in
set_option maxRecDepth 100000 in
theorem pcBars_any (m m' : RouteM) (w : World) (h : PartsIn w m) (h' : PartsIn w m') (ht : Cl.Tiny m.r) (ht' : Cl.Tiny m'.r) :
    Calls Try.prog 10 #[rtV m, rtV m'] w (OneIs (.bool (Cl.bars m.r m'.r)) w) := by
  --[
  obtain ⟨hs, hl, hp⟩ := ht
  obtain ⟨hs', hl', hp'⟩ := ht'
  obtain ⟨R1, R2, XX⟩ := two_puts w (rtO m) (rtO m')
  have X := Lib.hid XX
  have P := Lib.hid (h.below XX)
  have P' := Lib.hid (h'.below XX)
  show Calls Try.prog 10 #[rtV m, rtV m'] w (OneIs (.bool ((m.r.entry == m'.r.entry) || Cl.share m.r.steps m'.r.steps || Cl.opp m.r.pts m'.r.pts || Cl.meets m.r m'.r || Cl.meets m'.r m.r)) w)
  have C1 := Lib.hid (fun W (hW : Below ((w.alloc (rtO m)).alloc (rtO m')).heap.size ((w.alloc (rtO m)).alloc (rtO m')) W) => pcShare_any m.A1 m.c1 m.r.steps m'.A1 m'.c1 m'.r.steps W (P.out.p1.below rfl hW) hs (P'.out.p1.below rfl hW) hs')
  have C2 := Lib.hid (fun W (hW : Below ((w.alloc (rtO m)).alloc (rtO m')).heap.size ((w.alloc (rtO m)).alloc (rtO m')) W) => pcOpp_any m.A3 m.c3 m.r.pts m'.A3 m'.c3 m'.r.pts W (P.out.p3.below rfl hW) hp (P'.out.p3.below rfl hW) hp')
  have C3 := Lib.hid (fun W (hW : Below ((w.alloc (rtO m)).alloc (rtO m')).heap.size ((w.alloc (rtO m)).alloc (rtO m')) W) => pcMeets_any m m' W (P.out.below hW) (P'.out.below hW) hl hs' hl')
  have C4 := Lib.hid (fun W (hW : Below ((w.alloc (rtO m)).alloc (rtO m')).heap.size ((w.alloc (rtO m)).alloc (rtO m')) W) => pcMeets_any m' m W (P'.out.below hW) (P.out.below hW) hl' hs hl)
  generalize hz : (m.r.entry == m'.r.entry) = z0
  have HZ := Lib.hid hz
  clear hz
  generalize Cl.share m.r.steps m'.r.steps = z1 at C1 ⊢
  generalize Cl.opp m.r.pts m'.r.pts = z2 at C2 ⊢
  generalize Cl.meets m.r m'.r = z3 at C3 ⊢
  generalize Cl.meets m'.r m.r = z4 at C4 ⊢
  clear h h' XX
  go_enter Try.func10, Try.ntmps10
  go_upto_region 1 with fail
  generalize (w.alloc (rtO m)).alloc (rtO m') = w2 at X P P' R1 R2 C1 C2 C3 C4 ⊢
  generalize w.heap.size + 1 = g2 at R2 ⊢
  generalize hg : w.heap.size = g at R1 ⊢
  have X2 := Lib.hid (Below.refl w2.heap.size w2)
  have gx := (row9 R1).2.2
  have gy := (row9 R2).2.2
  have K := Lib.hid (fun W (hW : Below w2.heap.size w2 W) => And.intro (row9 ((hW.block _ gx).trans R1)).1 (row9 ((hW.block _ gy).trans R2)).1)
  clear hg R1 R2 hl hs' hl' hs hp hp' gx gy
  obtain ⟨⟨p0, p1, p2, p3, p4, p5, p6, p7, p8⟩, q0, q1, q2, q3, q4, q5, q6, q7, q8⟩ := K.out _ X2.out
  have hz := HZ.out
  clear HZ
  cases z0 with
  | true =>
    go_wp2_with fail
    go_ret
    exact ⟨rfl, X.out⟩
  | false =>
    go_wp2_with fail
    refine (C1.out _ X2.out).mono ?_; rintro e w3 ⟨rfl, hb3⟩
    have B3 := Lib.hid hb3
    have F3 := Lib.hid (X.out.trans (hb3.mono X.out.size))
    clear hb3 p0 p1 p2 p3 p4 p5 p6 p7 p8 q0 q1 q2 q3 q4 q5 q6 q7 q8 hz C1
    cases z1 with
    | true =>
      go_wp2_with fail
      go_ret
      exact ⟨rfl, F3.out⟩
    | false =>
      obtain ⟨⟨p0, p1, p2, p3, p4, p5, p6, p7, p8⟩, q0, q1, q2, q3, q4, q5, q6, q7, q8⟩ := K.out _ B3.out
      go_wp2_with fail
      refine (C2.out _ B3.out).mono ?_; rintro e w4 ⟨rfl, hb4⟩
      have B4 := Lib.hid (B3.out.trans (hb4.mono B3.out.size))
      have F4 := Lib.hid (F3.out.trans (hb4.mono F3.out.size))
      clear hb4 p0 p1 p2 p3 p4 p5 p6 p7 p8 q0 q1 q2 q3 q4 q5 q6 q7 q8 C2 B3 F3
      cases z2 with
      | true =>
        go_wp2_with fail
        go_ret
        exact ⟨rfl, F4.out⟩
      | false =>
        obtain ⟨⟨p0, p1, p2, p3, p4, p5, p6, p7, p8⟩, q0, q1, q2, q3, q4, q5, q6, q7, q8⟩ := K.out _ B4.out
        go_wp2_with fail
        refine (C3.out _ B4.out).mono ?_; rintro e w5 ⟨rfl, hb5⟩
        have B5 := Lib.hid (B4.out.trans (hb5.mono B4.out.size))
        have F5 := Lib.hid (F4.out.trans (hb5.mono F4.out.size))
        clear hb5 p0 p1 p2 p3 p4 p5 p6 p7 p8 q0 q1 q2 q3 q4 q5 q6 q7 q8 C3 B4 F4
        cases z3 with
        | true =>
          go_wp2_with fail
          go_ret
          exact ⟨rfl, F5.out⟩
        | false =>
          obtain ⟨⟨p0, p1, p2, p3, p4, p5, p6, p7, p8⟩, q0, q1, q2, q3, q4, q5, q6, q7, q8⟩ := K.out _ B5.out
          go_wp2_with fail
          refine (C4.out _ B5.out).mono ?_; rintro e w6 ⟨rfl, hb6⟩
          have F6 := Lib.hid (F5.out.trans (hb6.mono F5.out.size))
          clear hb6 p0 p1 p2 p3 p4 p5 p6 p7 p8 q0 q1 q2 q3 q4 q5 q6 q7 q8 C4 B5 F5
          go_wp2_with fail
          go_ret
          exact ⟨rfl, F6.out⟩
  --]
end Go.Proofs.Ytbmmcmdopekccaa
/-
  The walks of the program's layer 13: whether a set has a bit for a number, the bit, how many bits are 0 ahead of the lowest; Has, New.
-/
namespace Go.Proofs.Ytbmmcmdopekccaa
open Go.RowKit

set_option maxHeartbeats 4000000 in
set_option maxRecDepth 100000 in
theorem bpBit_any (k : Nat) (w : World) : Calls Try.prog 28 #[.int .i64 k] w fun e w' => e = .returned (.int .u32 ((2 ^ (k % 32) : Nat) : Int)) ∧ w' = w := by
  --[
  have Q := Lib.hid (Bs.shl_mod (k % 32) (Nat.mod_lt _ (by decide)))
  have q1 : (k : Int).tmod 32 = ((k % 32 : Nat) : Int) := by rw [Int.tmod_eq_emod_of_nonneg (Int.natCast_nonneg k)]; omega
  have i0 : (0 : Int) ≤ ((k % 32 : Nat) : Int) := Int.natCast_nonneg _
  go_enter Try.func28, Try.ntmps28
  go_wp2_with fail
  go_ret
  exact ⟨by rw [← Q.out] <;> rfl, rfl⟩
  --]
set_option maxHeartbeats 4000000 in
set_option maxRecDepth 100000 in
theorem bpFits_any (A : Option Addr) (c : Nat) (L : List Nat) (n : Int) (w : World) (h0 : -9223372036854775808 ≤ n ∧ n ≤ 9223372036854775807) (_hl : L.length ≤ 1000000000) :
    Calls Try.prog 27 #[.slice A L.length c, .int .i64 n] w fun e w' => e = .returned (.bool (Bs.fits L n)) ∧ w' = w := by
  --[
  by_cases hn : 0 ≤ n
  · obtain ⟨k, rfl⟩ : ∃ k : Nat, n = (k : Int) := ⟨n.toNat, by omega⟩
    have d0 : decide ((0 : Int) ≤ (k : Int)) = true := dec_t hn
    have q : IntKind.i64.wrap ((k : Int).tdiv 32) = ((k / 32 : Nat) : Int) := by
      rw [Int.tdiv_eq_ediv_of_nonneg hn, IntWalk.i64_in _ (by omega)]; omega
    have E : Bs.fits L (k : Int) = decide (((k / 32 : Nat) : Int) < (L.length : Int)) := by
      unfold Bs.fits
      rw [d0, Bool.true_and, Int.toNat_natCast]
      congr 1
      rw [eq_iff_iff]; omega
    have HE := Lib.hid E
    clear E
    go_enter Try.func27, Try.ntmps27
    go_wp2_with fail
    go_ret
    exact ⟨by rw [HE.out] <;> rfl, rfl⟩
  · have d0 : decide ((0 : Int) ≤ n) = false := dec_f hn
    have HE := Lib.hid (show Bs.fits L n = false from by unfold Bs.fits; rw [d0]; rfl)
    clear hn
    go_enter Try.func27, Try.ntmps27
    go_wp2_with fail
    go_ret
    exact ⟨by rw [HE.out] <;> rfl, rfl⟩
  --]
end Go.Proofs.Ytbmmcmdopekccaa
