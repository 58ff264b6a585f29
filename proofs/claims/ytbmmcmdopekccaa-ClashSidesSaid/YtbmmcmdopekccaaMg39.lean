/-
  Texts of this claim, merged: ClAwake.
-/
import Derived.Test.YtbmmcmdopekccaaMg37
import Derived.Test.YtbmmcmdopekccaaMg38
import Derived.BigQuiet
/-
  The walk of layer 14's examples: they are as the document says.
-/
namespace Go.Proofs.Ytbmmcmdopekccaa
open Go.RowKit

theorem routesP_ex : ∃ L, routesP exL.data.toList = some L ∧ L.length = 10 ∧ Cl.hit L 0 1 = true ∧ Cl.hit L 0 2 = false ∧ Cl.hit L 0 6 = true ∧ Cl.bars (L.getD 0 Rt.zero) (L.getD 1 Rt.zero) = true ∧ Cl.bars (L.getD 0 Rt.zero) (L.getD 2 Rt.zero) = false ∧ Cl.bars (L.getD 0 Rt.zero) (L.getD 6 Rt.zero) = true := by
  obtain ⟨L, h, hl⟩ := clA_one
  refine ⟨L, ?_, hl⟩
  unfold routesP
  rw [made_exL]
  simp only
  rw [h, if_pos rfl]
theorem clLoop_any (w : World) : Calls Try.prog 15 #[] w fun e w' => e = .returned (.string exL) ∧ w = w' := by
  go_enter Try.func15, Try.ntmps15
  go_wp2
  go_ret
  exact ⟨rfl, rfl⟩
/-- A route among those in memory, at a literal place. -/
theorem RoutesIn.lit {w : World} {A : Option Addr} {L : List Rt.Route} (h : RoutesIn w A L) {k : Nat} (hk : k < L.length) : ∃ (b o : Nat) (m : RouteM), A = some ⟨b, o, none⟩ ∧ b < w.heap.size ∧ m.r = L.getD k Rt.zero ∧ LRt.On w b (o + k * 9) m ∧ PartsIn w m := by
  obtain ⟨b, o, m, h1, h2, h3, h4, h5⟩ := h.at (List.getElem?_eq_getElem hk)
  exact ⟨b, o, m, h1, h2, by rw [h3, Cl.get_at (List.getElem?_eq_getElem hk)], h4, h5⟩
theorem Cl.tiny_at {L : List Rt.Route} (h : ∀ r ∈ L, Cl.Tiny r) {m : RouteM} {k : Nat} (hk : k < L.length) (hm : m.r = L.getD k Rt.zero) : Cl.Tiny m.r := by
  rw [hm, Cl.get_at (List.getElem?_eq_getElem hk)]
  exact h _ (List.getElem_mem hk)
theorem Cl.has_at {L : List Nat} {n : Int} {z : Bool} {W : World} (A : Option Addr) (c : Nat) (h0 : 0 ≤ n ∧ n ≤ 100) (h : LWd.Row W A L) (hw : Bs.W32 L) (hl : L.length ≤ 1000000000) (hz : Bs.has L n = z) :
    Calls Try.prog 9 #[.slice A L.length c, .int .i64 n] W fun e w' => e = .returned (.bool z) ∧ w' = W := hz ▸ rbHas_any A c L n W (by omega) h hw hl
theorem on_below {w W : World} {b o : Nat} {m : RouteM} (hW : Below w.heap.size w W) (hb : b < w.heap.size) (h : LRt.On w b o m) : LRt.On W b o m := fun j v hv => (hW.cell (p := ⟨b, o + j, none⟩) hb).trans (h j v hv)
theorem RoutesIn.pair {w : World} {A : Option Addr} {L : List Rt.Route} (h : RoutesIn w A L) {i k : Nat} (hi : i < L.length) (hk : k < L.length) : ∃ (b o : Nat) (m1 m2 : RouteM), A = some ⟨b, o, none⟩ ∧ b < w.heap.size ∧ m1.r = L.getD i Rt.zero ∧ m2.r = L.getD k Rt.zero ∧ LRt.On w b (o + i * 9) m1 ∧ LRt.On w b (o + k * 9) m2 ∧ PartsIn w m1 ∧ PartsIn w m2 := by
  obtain ⟨b, o, m1, h1, h2, h3, h4, h5⟩ := h.lit hi
  obtain ⟨_, _, m2, e, -, g3, g4, g5⟩ := h.lit hk
  rw [h1] at e
  cases e
  exact ⟨_, _, m1, m2, h1, h2, h3, g3, h4, g4, h5, g5⟩
theorem SetsIn.pair {w : World} {A : Option Addr} {L : List Rt.Route} (h : SetsIn w A (Cl.rows L)) {i k : Nat} (hi : i < L.length) (hk : k < L.length) : ∃ (b o : Nat) (B : Option Addr) (c : Nat) (D : Option Addr) (d : Nat), A = some ⟨b, o, none⟩ ∧ b < w.heap.size ∧ w.cell? ⟨b, o + i, none⟩ = some (.slice B (Cl.row L i).length c) ∧ w.cell? ⟨b, o + k, none⟩ = some (.slice D (Cl.row L k).length d) ∧ LWd.Row w B (Cl.row L i) ∧ LWd.Row w D (Cl.row L k) := by
  obtain ⟨b, o, B, c, h1, h2, h3, h4⟩ := h.at (Cl.rows_at L hi)
  obtain ⟨_, _, D, d, e, -, g3, g4⟩ := h.at (Cl.rows_at L hk)
  rw [h1] at e
  cases e
  exact ⟨_, _, B, c, D, d, h1, h2, h3, g3, h4, g4⟩
theorem Cl.has_nat {L : List Nat} {n : Nat} {z : Bool} {W : World} (A : Option Addr) (c : Nat) (h0 : n ≤ 100) (h : LWd.Row W A L) (hw : Bs.W32 L) (hl : L.length ≤ 1000000000) (hz : Bs.has L (n : Int) = z) :
    Calls Try.prog 9 #[.slice A L.length c, .int .i64 n] W fun e w' => e = .returned (.bool z) ∧ w' = W := hz ▸ rbHas_any A c L n W (by omega) h hw hl
set_option maxHeartbeats 16000000 in
set_option maxRecDepth 100000 in
theorem clAwake_any (w : World) : Calls Try.prog 7 #[] w fun e w' => e = .returned (.bool true) ∧ Below w.heap.size w w' := by
  --[
  obtain ⟨L, hR, hl, h01, h02, h06, b01, b02, b06⟩ := routesP_ex
  obtain ⟨-, hT⟩ := routesP_few hR
  have CL := Lib.hid clLoop_any
  have CR := Lib.hid (fun W => routes_some hR W)
  have HL := Lib.hid hl
  clear hR
  go_enter Try.func7, Try.ntmps7
  go_wp2_with fail
  refine (CL.out _).mono ?_; rintro e w0 ⟨rfl, rfl⟩
  go_wp2_with fail
  refine (CR.out _).mono ?_; rintro e w1 ⟨A, c, rfl, hc, hR1, hb1⟩
  have B1 := Lib.hid hb1
  have R1 := Lib.hid hR1
  have CM := Lib.hid (pcMatrix_any A c L w1 hR1 hT (by omega))
  have E10 : ((10 : Int) != 10) = false := by decide
  rw [hl] at CM hc ⊢
  clear hR1 hb1 CL CR
  go_wp2_with fail
  refine CM.out.mono ?_; rintro e w2 ⟨B, d, rfl, hS, hb2⟩
  have B2 := Lib.hid (B1.out.trans (hb2.mono B1.out.size))
  have R2 := R1.out.below hb2
  obtain ⟨b, o, m0, rfl, hbb, e0, on0, P0⟩ := R2.lit (k := 0) (by omega)
  obtain ⟨_, _, m1, hA, -, e1, on1, P1⟩ := R2.lit (k := 1) (by omega)
  cases hA
  obtain ⟨_, _, m2, hA, -, e2, on2, P2⟩ := R2.lit (k := 2) (by omega)
  cases hA
  obtain ⟨_, _, m6, hA, -, e6, on6, P6⟩ := R2.lit (k := 6) (by omega)
  cases hA
  have t0 := Cl.tiny_at hT (by omega) e0
  have t1 := Cl.tiny_at hT (by omega) e1
  have t2 := Cl.tiny_at hT (by omega) e2
  have t6 := Cl.tiny_at hT (by omega) e6
  have C1 := Lib.hid (fun W (hW : Below w2.heap.size w2 W) => pcBars_any m0 m1 W (P0.below hW) (P1.below hW) t0 t1)
  have C2 := Lib.hid (fun W (hW : Below w2.heap.size w2 W) => pcBars_any m0 m2 W (P0.below hW) (P2.below hW) t0 t2)
  have C6 := Lib.hid (fun W (hW : Below w2.heap.size w2 W) => pcBars_any m0 m6 W (P0.below hW) (P6.below hW) t0 t6)
  rw [e0, e1, b01] at C1
  rw [e0, e2, b02] at C2
  rw [e0, e6, b06] at C6
  obtain ⟨bs, os, S0, s0, rfl, hbs, x0, W0⟩ := hS.at (Cl.rows_at L (i := 0) (by omega))
  obtain ⟨_, _, S6, s6, hB, -, x6, W6⟩ := hS.at (Cl.rows_at L (i := 6) (by omega))
  cases hB
  have l0 := Cl.row_len L 0
  have l6 := Cl.row_len L 6
  have H1 := Lib.hid (fun W (hW : Below w2.heap.size w2 W) => Cl.has_at (W := W) S0 s0 (by decide : (0 : Int) ≤ 1 ∧ (1 : Int) ≤ 100) (W0.below rfl hW) (Cl.row_w32 L 0) (by omega) ((Cl.has_row L 0 (k := 1) (by omega)).trans h01))
  have H2 := Lib.hid (fun W (hW : Below w2.heap.size w2 W) => Cl.has_at (W := W) S0 s0 (by decide : (0 : Int) ≤ 2 ∧ (2 : Int) ≤ 100) (W0.below rfl hW) (Cl.row_w32 L 0) (by omega) ((Cl.has_row L 0 (k := 2) (by omega)).trans h02))
  have H0 := Lib.hid (fun W (hW : Below w2.heap.size w2 W) => Cl.has_at (W := W) S0 s0 (by decide : (0 : Int) ≤ 0 ∧ (0 : Int) ≤ 100) (W0.below rfl hW) (Cl.row_w32 L 0) (by omega) ((Cl.has_row L 0 (k := 0) (by omega)).trans (Cl.hit_self L 0)))
  have H6 := Lib.hid (fun W (hW : Below w2.heap.size w2 W) => Cl.has_at (W := W) S6 s6 (by decide : (0 : Int) ≤ 0 ∧ (0 : Int) ≤ 100) (W6.below rfl hW) (Cl.row_w32 L 6) (by omega) ((Cl.has_row L 6 (k := 0) (by omega)).trans ((Cl.hit_comm L 6 0).trans h06)))
  have K0 := Lib.hid (fun W (hW : Below w2.heap.size w2 W) => And.intro (rt_on (on_below hW hbb on0)) (And.intro (rt_on (on_below hW hbb on1)) (And.intro (rt_on (on_below hW hbb on2)) (And.intro (rt_on (on_below hW hbb on6)) (And.intro ((hW.cell (p := ⟨bs, os + 0, none⟩) hbs).trans x0) ((hW.cell (p := ⟨bs, os + 6, none⟩) hbs).trans x6))))))
  have K := Lib.hid (show ∀ W', Below w2.heap.size w2 W' → ((W'.cell? ⟨b, o, none⟩ = some (.int .i64 m0.r.entry) ∧ W'.cell? ⟨b, o + 1, none⟩ = some (.int .i64 m0.r.exit) ∧ W'.cell? ⟨b, o + 2, none⟩ = some (.slice m0.A1 m0.r.steps.length m0.c1) ∧ W'.cell? ⟨b, o + 3, none⟩ = some (.slice m0.A2 m0.r.lap.length m0.c2) ∧ W'.cell? ⟨b, o + 4, none⟩ = some (.slice m0.A3 m0.r.pts.length m0.c3) ∧ W'.cell? ⟨b, o + 5, none⟩ = some (.slice m0.A4 m0.r.fl.length m0.c4) ∧ W'.cell? ⟨b, o + 6, none⟩ = some (.slice m0.A5 m0.r.near.length m0.c5) ∧ W'.cell? ⟨b, o + 7, none⟩ = some (.int .i64 m0.r.dist) ∧ W'.cell? ⟨b, o + 8, none⟩ = some (.int .i64 m0.r.timer)) ∧ (W'.cell? ⟨b, o + 9, none⟩ = some (.int .i64 m1.r.entry) ∧ W'.cell? ⟨b, o + 10, none⟩ = some (.int .i64 m1.r.exit) ∧ W'.cell? ⟨b, o + 11, none⟩ = some (.slice m1.A1 m1.r.steps.length m1.c1) ∧ W'.cell? ⟨b, o + 12, none⟩ = some (.slice m1.A2 m1.r.lap.length m1.c2) ∧ W'.cell? ⟨b, o + 13, none⟩ = some (.slice m1.A3 m1.r.pts.length m1.c3) ∧ W'.cell? ⟨b, o + 14, none⟩ = some (.slice m1.A4 m1.r.fl.length m1.c4) ∧ W'.cell? ⟨b, o + 15, none⟩ = some (.slice m1.A5 m1.r.near.length m1.c5) ∧ W'.cell? ⟨b, o + 16, none⟩ = some (.int .i64 m1.r.dist) ∧ W'.cell? ⟨b, o + 17, none⟩ = some (.int .i64 m1.r.timer)) ∧ (W'.cell? ⟨b, o + 18, none⟩ = some (.int .i64 m2.r.entry) ∧ W'.cell? ⟨b, o + 19, none⟩ = some (.int .i64 m2.r.exit) ∧ W'.cell? ⟨b, o + 20, none⟩ = some (.slice m2.A1 m2.r.steps.length m2.c1) ∧ W'.cell? ⟨b, o + 21, none⟩ = some (.slice m2.A2 m2.r.lap.length m2.c2) ∧ W'.cell? ⟨b, o + 22, none⟩ = some (.slice m2.A3 m2.r.pts.length m2.c3) ∧ W'.cell? ⟨b, o + 23, none⟩ = some (.slice m2.A4 m2.r.fl.length m2.c4) ∧ W'.cell? ⟨b, o + 24, none⟩ = some (.slice m2.A5 m2.r.near.length m2.c5) ∧ W'.cell? ⟨b, o + 25, none⟩ = some (.int .i64 m2.r.dist) ∧ W'.cell? ⟨b, o + 26, none⟩ = some (.int .i64 m2.r.timer)) ∧ (W'.cell? ⟨b, o + 54, none⟩ = some (.int .i64 m6.r.entry) ∧ W'.cell? ⟨b, o + 55, none⟩ = some (.int .i64 m6.r.exit) ∧ W'.cell? ⟨b, o + 56, none⟩ = some (.slice m6.A1 m6.r.steps.length m6.c1) ∧ W'.cell? ⟨b, o + 57, none⟩ = some (.slice m6.A2 m6.r.lap.length m6.c2) ∧ W'.cell? ⟨b, o + 58, none⟩ = some (.slice m6.A3 m6.r.pts.length m6.c3) ∧ W'.cell? ⟨b, o + 59, none⟩ = some (.slice m6.A4 m6.r.fl.length m6.c4) ∧ W'.cell? ⟨b, o + 60, none⟩ = some (.slice m6.A5 m6.r.near.length m6.c5) ∧ W'.cell? ⟨b, o + 61, none⟩ = some (.int .i64 m6.r.dist) ∧ W'.cell? ⟨b, o + 62, none⟩ = some (.int .i64 m6.r.timer)) ∧ W'.cell? ⟨bs, os, none⟩ = some (.slice S0 (Cl.row L 0).length s0) ∧ W'.cell? ⟨bs, os + 6, none⟩ = some (.slice S6 (Cl.row L 6).length s6)) from K0.out)
  have T0 := Lib.hid (Below.refl w2.heap.size w2)
  have RL := Lib.hid (Cl.rows_len L)
  clear on0 on1 on2 on6 P0 P1 P2 P6 t0 t1 t2 t6 e0 e1 e2 e6 h01 h02 h06 b01 b02 b06 hT W0 W6 x0 x6 l0 l6 R2 hS hbb hbs hb2 CM K0 R1
  rw [RL.out, HL.out]
  clear hl
  go_upto_region 7 with fail
  go_region_held3 (fun W' => (W'.cell? ⟨b, o, none⟩ = some (.int .i64 m0.r.entry) ∧ W'.cell? ⟨b, o + 1, none⟩ = some (.int .i64 m0.r.exit) ∧ W'.cell? ⟨b, o + 2, none⟩ = some (.slice m0.A1 m0.r.steps.length m0.c1) ∧ W'.cell? ⟨b, o + 3, none⟩ = some (.slice m0.A2 m0.r.lap.length m0.c2) ∧ W'.cell? ⟨b, o + 4, none⟩ = some (.slice m0.A3 m0.r.pts.length m0.c3) ∧ W'.cell? ⟨b, o + 5, none⟩ = some (.slice m0.A4 m0.r.fl.length m0.c4) ∧ W'.cell? ⟨b, o + 6, none⟩ = some (.slice m0.A5 m0.r.near.length m0.c5) ∧ W'.cell? ⟨b, o + 7, none⟩ = some (.int .i64 m0.r.dist) ∧ W'.cell? ⟨b, o + 8, none⟩ = some (.int .i64 m0.r.timer)) ∧ (W'.cell? ⟨b, o + 9, none⟩ = some (.int .i64 m1.r.entry) ∧ W'.cell? ⟨b, o + 10, none⟩ = some (.int .i64 m1.r.exit) ∧ W'.cell? ⟨b, o + 11, none⟩ = some (.slice m1.A1 m1.r.steps.length m1.c1) ∧ W'.cell? ⟨b, o + 12, none⟩ = some (.slice m1.A2 m1.r.lap.length m1.c2) ∧ W'.cell? ⟨b, o + 13, none⟩ = some (.slice m1.A3 m1.r.pts.length m1.c3) ∧ W'.cell? ⟨b, o + 14, none⟩ = some (.slice m1.A4 m1.r.fl.length m1.c4) ∧ W'.cell? ⟨b, o + 15, none⟩ = some (.slice m1.A5 m1.r.near.length m1.c5) ∧ W'.cell? ⟨b, o + 16, none⟩ = some (.int .i64 m1.r.dist) ∧ W'.cell? ⟨b, o + 17, none⟩ = some (.int .i64 m1.r.timer)) ∧ (W'.cell? ⟨b, o + 18, none⟩ = some (.int .i64 m2.r.entry) ∧ W'.cell? ⟨b, o + 19, none⟩ = some (.int .i64 m2.r.exit) ∧ W'.cell? ⟨b, o + 20, none⟩ = some (.slice m2.A1 m2.r.steps.length m2.c1) ∧ W'.cell? ⟨b, o + 21, none⟩ = some (.slice m2.A2 m2.r.lap.length m2.c2) ∧ W'.cell? ⟨b, o + 22, none⟩ = some (.slice m2.A3 m2.r.pts.length m2.c3) ∧ W'.cell? ⟨b, o + 23, none⟩ = some (.slice m2.A4 m2.r.fl.length m2.c4) ∧ W'.cell? ⟨b, o + 24, none⟩ = some (.slice m2.A5 m2.r.near.length m2.c5) ∧ W'.cell? ⟨b, o + 25, none⟩ = some (.int .i64 m2.r.dist) ∧ W'.cell? ⟨b, o + 26, none⟩ = some (.int .i64 m2.r.timer)) ∧ (W'.cell? ⟨b, o + 54, none⟩ = some (.int .i64 m6.r.entry) ∧ W'.cell? ⟨b, o + 55, none⟩ = some (.int .i64 m6.r.exit) ∧ W'.cell? ⟨b, o + 56, none⟩ = some (.slice m6.A1 m6.r.steps.length m6.c1) ∧ W'.cell? ⟨b, o + 57, none⟩ = some (.slice m6.A2 m6.r.lap.length m6.c2) ∧ W'.cell? ⟨b, o + 58, none⟩ = some (.slice m6.A3 m6.r.pts.length m6.c3) ∧ W'.cell? ⟨b, o + 59, none⟩ = some (.slice m6.A4 m6.r.fl.length m6.c4) ∧ W'.cell? ⟨b, o + 60, none⟩ = some (.slice m6.A5 m6.r.near.length m6.c5) ∧ W'.cell? ⟨b, o + 61, none⟩ = some (.int .i64 m6.r.dist) ∧ W'.cell? ⟨b, o + 62, none⟩ = some (.int .i64 m6.r.timer)) ∧ W'.cell? ⟨bs, os, none⟩ = some (.slice S0 (Cl.row L 0).length s0) ∧ W'.cell? ⟨bs, os + 6, none⟩ = some (.slice S6 (Cl.row L 6).length s6))
    (first | with_reducible exact K.out _ T0.out.drew | with_reducible exact K.out _ k1 | with_reducible exact K.out _ k2 | with_reducible exact K.out _ k3 | (go_keep; done))
    (first
      | (go_at_call 10; (with_reducible refine (C1.out _ T0.out.drew).mono ?_); rintro e5 w5 ⟨rfl, hb5⟩; have k1 := T0.out.drew.trans (hb5.mono T0.out.drew.size))
      | (go_at_call 10; (with_reducible refine (C2.out _ k1).mono ?_); rintro e6 w6 ⟨rfl, hb6⟩; have k2 := k1.trans (hb6.mono k1.size))
      | (go_at_call 10; (with_reducible refine (C6.out _ k2).mono ?_); rintro e7 w7 ⟨rfl, hb7⟩; have k3 := k2.trans (hb7.mono k2.size))
      | (go_at_call 9; (with_reducible refine (H1.out _ k3).mono ?_); rintro e8 w8 ⟨rfl, rfl⟩)
      | (go_at_call 9; (with_reducible refine (H2.out _ k3).mono ?_); rintro e8 w8 ⟨rfl, rfl⟩)
      | (go_at_call 9; (with_reducible refine (H0.out _ k3).mono ?_); rintro e8 w8 ⟨rfl, rfl⟩)
      | (go_at_call 9; (with_reducible refine (H6.out _ k3).mono ?_); rintro e8 w8 ⟨rfl, rfl⟩))
  have BX := Lib.hid (B2.out.trans (k3.mono B2.out.size))
  go_wp2_with fail
  go_ret
  exact ⟨rfl, BX.out⟩
  --]
end Go.Proofs.Ytbmmcmdopekccaa
