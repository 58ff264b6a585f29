/-
  Texts of this claim, merged: LpAwake.
-/
import Derived.Test.YtfmpjljddfaggaaMg26
import Derived.Test.YtfmpjljddfaggaaMg27
import Derived.Deep.CutRange
import Derived.Deep.RegionHeld3
/-
  The walk of layer 8's examples: they are as the document says.
-/
namespace Go.Proofs.Ytfmpjljddfaggaa
open Go.RowKit

/-- An overlap, made behind a world that stands. -/
def LapMade (W0 : World) (x : List Wk.Stp × Int) (W : World) (e : Ending) (w' : World) : Prop := ∃ B d, e = .returned (.tuple #[.slice B x.1.length d, .int .i64 x.2]) ∧ TRow 47 LStp w' B x.1 ∧ x.1.length ≤ d ∧ Below W.heap.size W w' ∧ Below W0.heap.size W0 w' ∧ W.heap.size ≤ w'.heap.size
theorem LapMade.of {W0 W : World} {x : List Wk.Stp × Int} {f : FuncId} {xs : Array Value} (h : Below W0.heap.size W0 W) (hc : Calls Try.prog f xs W (LapYes x W)) : Calls Try.prog f xs W (LapMade W0 x W) :=
  hc.mono fun _ _ ⟨B, d, he, hr, hl, hb⟩ => ⟨B, d, he, hr, hl, hb, h.trans (hb.mono h.size), hb.size⟩
theorem Lp.fit_with {p : Pl.Plan} (h : Pl.Fit p) (o : Int) : Pl.Fit (Lp.with_ p o) := ⟨h.ends, h.plain, h.sigs, h.few, h.gfew⟩
theorem Lp.meas_with {p : Pl.Plan} (h : Lp.Meas p) {o : Int} (h0 : 0 ≤ o) (h1 : o ≤ 1125899906842624) : Lp.Meas (Lp.with_ p o) := ⟨⟨h0, h1⟩, h.len, h.sig⟩
theorem madeP_meas {l : List UInt8} {p : Pl.Plan} (h : madeP l = some p) : Pl.Fit p ∧ Lp.Meas p := by
  obtain ⟨hf, L, hL, hS, rfl⟩ := madeP_some h
  exact ⟨hf, Lp.meas_fin hL hS⟩
theorem awL_fits : Pl.Fit awL ∧ Lp.Meas awL := madeP_meas made_exL
theorem pLoop8_any (w : World) : Calls Try.prog 21 #[] w fun e w' => e = .returned (.string exL) ∧ w = w' := by
  go_enter Try.func21, Try.ntmps21
  go_wp2
  go_ret
  exact ⟨rfl, rfl⟩
theorem awP_x : Lp.of (Lp.with_ awL 3000) 0 ⟨[⟨2, 0, 1⟩, ⟨4, 0, 1⟩], 1⟩ = ([⟨3, 1, 0⟩], 0) := by decide +kernel
theorem awP_y : Lp.of (Lp.with_ awL 6000) 0 ⟨[⟨2, 0, 2⟩, ⟨5, 0, 1⟩], 2⟩ = ([⟨3, 2, 0⟩, ⟨0, 0, 1⟩], 0) := by decide +kernel
theorem awP_z : Lp.of (Lp.with_ awL 1073741824) 0 ⟨[⟨2, 0, 2⟩, ⟨5, 0, 1⟩], 2⟩ = ([⟨3, 2, 0⟩, ⟨0, 0, 1⟩, ⟨1, 0, 1⟩], 0) := by decide +kernel
theorem awP_u : Lp.of (Lp.with_ awL 0) 0 ⟨[⟨2, 0, 2⟩, ⟨5, 0, 1⟩], 2⟩ = ([], 0) := by decide +kernel
theorem awP_t : Lp.of (Lp.with_ awL 0) 9 ⟨[⟨2, 0, 2⟩, ⟨5, 0, 1⟩], 2⟩ = ([], 4) := by decide +kernel
theorem awP_len : Lp.len (Lp.with_ awL 0) [⟨3, 2, 0⟩, ⟨0, 0, 1⟩] = 14000 := by decide +kernel
abbrev oneO (y : Wk.Stp) : Obj := .cells #[.int .i64 y.s, .int .i64 y.f, .int .i64 y.t] 47
theorem row_one1 (w : World) (y : Wk.Stp) {g : Nat} (hg : w.heap.size = g) : LStp.Row (w.alloc (.cells #[.int .i64 y.s, .int .i64 y.f, .int .i64 y.t] 47)) (some ⟨g, 0, none⟩) [y] := hg ▸ Lies.Row.fresh (E := LStp) w [y] 47
set_option maxHeartbeats 8000000 in
set_option maxRecDepth 100000 in
theorem lpAwake_any (w : World) : Calls Try.prog 9 #[] w fun e w' => e = .returned (.bool true) ∧ Below w.heap.size w w' := by
  have CL := Lib.hid pLoop8_any
  have CM := Lib.hid (fun W => made_some made_exL W)
  go_enter Try.func9, Try.ntmps9
  go_wp2_with fail
  refine (CL.out _).mono ?_; rintro e w0 ⟨rfl, rfl⟩
  go_wp2_with fail
  refine (CM.out _).mono ?_; rintro e w1 ⟨A, c, A', c', rfl, pin, hb1⟩
  have X1 := (Below.refl w1.heap.size w1).alloc (Nat.le_refl _) (planO awL A c A' c')
  have B1 := Lib.hid hb1
  have I1 := Lib.hid pin
  have RP := Lib.hid (heap_alloc_new w1 (planO awL A c A' c'))
  have XX := Lib.hid X1
  obtain ⟨⟨p0, p1, p2, p3, p4, p5⟩, -, gx⟩ := row6 RP.out
  have CW := Lib.hid (fun W (hW : Below w1.heap.size w1 W) => rcOf_t awL A c A' c' 0 W (I1.out.below hW))
  rw [awL_of0] at CW
  clear hb1 X1 pin CM CL
  go_wp2_with fail
  generalize w1.alloc (planO awL A c A' c') = w5 at RP XX p0 p1 p2 p3 p4 p5 gx ⊢
  refine (CW.out _ XX.out).mono ?_; rintro e v1 ⟨L1, k1, rfl, hW1, hb⟩
  have P1 := Lib.hid (show v1.heap[w1.heap.size]? = some (planO (Lp.with_ awL 3000) A c A' c') from (hb.block _ gx).trans RP.out)
  have Y1 := Lib.hid (XX.out.trans (hb.mono XX.out.size))
  have Q1 := Lib.hid hW1
  clear p0 p1 p2 p3 p4 p5 gx RP XX hb hW1 CW
  obtain ⟨⟨p0, p1, p2, p3, p4, p5⟩, -, gx⟩ := row6 P1.out
  obtain ⟨b1, o1, S1, d1, he1, g1, a0, a1, R1, -⟩ := Q1.out.at (k := 0) rfl
  subst he1
  have T1 := Lib.hid (Below.refl v1.heap.size v1)
  have KS := Lib.hid (fun W (hW : Below v1.heap.size v1 W) => show (W.cell? ⟨w1.heap.size, 0, none⟩ = some (.int .i64 3000) ∧ W.cell? ⟨w1.heap.size, 1, none⟩ = some (.int .i64 awL.ap) ∧ W.cell? ⟨w1.heap.size, 2, none⟩ = some (.int .i64 awL.se) ∧ W.cell? ⟨w1.heap.size, 3, none⟩ = some (.int .i64 awL.ho) ∧ W.cell? ⟨w1.heap.size, 4, none⟩ = some (.slice A awL.secs.length c) ∧ W.cell? ⟨w1.heap.size, 5, none⟩ = some (.slice A' awL.sigs.length c')) ∧ W.cell? ⟨b1, o1, none⟩ = some (.slice S1 2 d1) ∧ W.cell? ⟨b1, o1 + 1, none⟩ = some (.int .i64 1) from
    ⟨(row6 ((hW.block _ gx).trans P1.out)).1, (hW.cell (p := ⟨b1, o1, none⟩) g1).trans a0, (hW.cell (p := ⟨b1, o1 + 1, none⟩) g1).trans a1⟩)
  have CC := Lib.hid (fun W (hW : Below v1.heap.size v1 W) => show Calls Try.prog 10 #[.agg #[.int .i64 3000, .int .i64 awL.ap, .int .i64 awL.se, .int .i64 awL.ho, .slice A awL.secs.length c, .slice A' awL.sigs.length c'], .int .i64 0, .agg #[.slice S1 2 d1, .int .i64 1]] W (LapMade v1 ([⟨3, 1, 0⟩], 0) W) from by
    have h := LapMade.of hW (plOf_any (Lp.with_ awL 3000) (Lp.fit_with awL_fits.1 3000) (Lp.meas_with awL_fits.2 (by decide) (by decide)) A c A' c' 0 ⟨[⟨2, 0, 1⟩, ⟨4, 0, 1⟩], 1⟩ S1 d1 W (I1.out.below (Y1.out.trans (hW.mono Y1.out.size))) (R1.below hW).row (by decide) (by decide))
    rw [awP_x] at h
    exact h)
  clear p0 p1 p2 p3 p4 p5 a0 a1
  obtain ⟨⟨p0, p1, p2, p3, p4, p5⟩, a0, a1⟩ := KS.out _ T1.out
  go_upto_region 7 with fail
  go_cut [5, 6] from 30 to 37 (fun s1 s2 w' => ∃ B d, s1 = .slice B 1 d ∧ s2 = .int .i64 0 ∧ TRow 47 LStp w' B [⟨3, 1, 0⟩] ∧ Below v1.heap.size v1 w')
  case first =>
    --[
    go_region_held3 (fun W => (W.cell? ⟨w1.heap.size, 0, none⟩ = some (.int .i64 3000) ∧ W.cell? ⟨w1.heap.size, 1, none⟩ = some (.int .i64 awL.ap) ∧ W.cell? ⟨w1.heap.size, 2, none⟩ = some (.int .i64 awL.se) ∧ W.cell? ⟨w1.heap.size, 3, none⟩ = some (.int .i64 awL.ho) ∧ W.cell? ⟨w1.heap.size, 4, none⟩ = some (.slice A awL.secs.length c) ∧ W.cell? ⟨w1.heap.size, 5, none⟩ = some (.slice A' awL.sigs.length c')) ∧ W.cell? ⟨b1, o1, none⟩ = some (.slice S1 2 d1) ∧ W.cell? ⟨b1, o1 + 1, none⟩ = some (.int .i64 1))
      (first | with_reducible exact KS.out _ T1.out.drew | with_reducible exact KS.out _ hacc)
      (first | (go_at_call 10; (with_reducible refine (CC.out _ T1.out.drew).mono ?_); rintro e w' ⟨Bq, dq, rfl, hR, hl, hbl, hacc, hz⟩))
    all_goals go_wp2_with fail
    all_goals go_meet
    all_goals exact ⟨Bq, dq, rfl, rfl, hR, hacc⟩
    --]
  case rest =>
  obtain ⟨Bx, dx, rfl, rfl, hR, hb⟩ := hcut
  clear p0 p1 p2 p3 p4 p5 a0 a1 KS CC
  generalize wc = v2c at hR hb ⊢
  have P2c := Lib.hid (show v2c.heap[w1.heap.size]? = some (planO (Lp.with_ awL 3000) A c A' c') from (hb.block _ gx).trans P1.out)
  have Y2c := Lib.hid (Y1.out.trans (hb.mono Y1.out.size))
  have Q2c := Lib.hid (Q1.out.below hb)
  have Rx2c := Lib.hid hR
  clear hb hR gx P1 Y1 Q1 T1 R1 g1
  obtain ⟨⟨p0, -, -, -, -, -⟩, ⟨f0, -, -, -, -, -⟩, gx⟩ := row6 P2c.out
  have P2 := Lib.hid (show (v2c.setCell ⟨w1.heap.size, 0, none⟩ (.int .i64 6000)).heap[w1.heap.size]? = some (planO (Lp.with_ awL 6000) A c A' c') from by rw [heap_setCell_same _ _ _ _ _ _ P2c.out]; rfl)
  have Y2 := Lib.hid (Y2c.out.setCell (p := ⟨w1.heap.size, 0, none⟩) (Nat.le_refl _) (.int .i64 6000))
  have Q2 := Lib.hid (Q2c.out.set (i := 0) (v := .int .i64 6000) P2c.out (by decide) (by decide))
  have Rx2 := Lib.hid (Rx2c.out.set (i := 0) (v := .int .i64 6000) P2c.out (by decide))
  go_upto_region 9 with fail
  clear p0 f0 gx P2c Y2c Q2c Rx2c
  generalize v2c.setCell ⟨w1.heap.size, 0, none⟩ (.int .i64 6000) = v2 at P2 Y2 Q2 Rx2 ⊢
  obtain ⟨⟨p0, p1, p2, p3, p4, p5⟩, -, gx⟩ := row6 P2.out
  obtain ⟨b2, o2, S2, d2, he2, g2, a0, a1, R2, -⟩ := Q2.out.at (k := 1) rfl
  cases he2
  have T2 := Lib.hid (Below.refl v2.heap.size v2)
  have KS := Lib.hid (fun W (hW : Below v2.heap.size v2 W) => show (W.cell? ⟨w1.heap.size, 0, none⟩ = some (.int .i64 6000) ∧ W.cell? ⟨w1.heap.size, 1, none⟩ = some (.int .i64 awL.ap) ∧ W.cell? ⟨w1.heap.size, 2, none⟩ = some (.int .i64 awL.se) ∧ W.cell? ⟨w1.heap.size, 3, none⟩ = some (.int .i64 awL.ho) ∧ W.cell? ⟨w1.heap.size, 4, none⟩ = some (.slice A awL.secs.length c) ∧ W.cell? ⟨w1.heap.size, 5, none⟩ = some (.slice A' awL.sigs.length c')) ∧ W.cell? ⟨b1, o1 + 2, none⟩ = some (.slice S2 2 d2) ∧ W.cell? ⟨b1, o1 + 2 + 1, none⟩ = some (.int .i64 2) from
    ⟨(row6 ((hW.block _ gx).trans P2.out)).1, (hW.cell (p := ⟨b1, o1 + 2, none⟩) g2).trans a0, (hW.cell (p := ⟨b1, o1 + 2 + 1, none⟩) g2).trans a1⟩)
  have CC := Lib.hid (fun W (hW : Below v2.heap.size v2 W) => show Calls Try.prog 10 #[.agg #[.int .i64 6000, .int .i64 awL.ap, .int .i64 awL.se, .int .i64 awL.ho, .slice A awL.secs.length c, .slice A' awL.sigs.length c'], .int .i64 0, .agg #[.slice S2 2 d2, .int .i64 2]] W (LapMade v2 ([⟨3, 2, 0⟩, ⟨0, 0, 1⟩], 0) W) from by
    have h := LapMade.of hW (plOf_any (Lp.with_ awL 6000) (Lp.fit_with awL_fits.1 6000) (Lp.meas_with awL_fits.2 (by decide) (by decide)) A c A' c' 0 ⟨[⟨2, 0, 2⟩, ⟨5, 0, 1⟩], 2⟩ S2 d2 W (I1.out.below (Y2.out.trans (hW.mono Y2.out.size))) (R2.below hW).row (by decide) (by decide))
    rw [awP_y] at h
    exact h)
  clear p0 p1 p2 p3 p4 p5 a0 a1
  obtain ⟨⟨p0, p1, p2, p3, p4, p5⟩, a0, a1⟩ := KS.out _ T2.out
  go_upto_region 9 with fail
  go_cut [7, 8] from 39 to 46 (fun s1 s2 w' => ∃ B d, s1 = .slice B 2 d ∧ s2 = .int .i64 0 ∧ TRow 47 LStp w' B [⟨3, 2, 0⟩, ⟨0, 0, 1⟩] ∧ Below v2.heap.size v2 w')
  case first =>
    --[
    go_region_held3 (fun W => (W.cell? ⟨w1.heap.size, 0, none⟩ = some (.int .i64 6000) ∧ W.cell? ⟨w1.heap.size, 1, none⟩ = some (.int .i64 awL.ap) ∧ W.cell? ⟨w1.heap.size, 2, none⟩ = some (.int .i64 awL.se) ∧ W.cell? ⟨w1.heap.size, 3, none⟩ = some (.int .i64 awL.ho) ∧ W.cell? ⟨w1.heap.size, 4, none⟩ = some (.slice A awL.secs.length c) ∧ W.cell? ⟨w1.heap.size, 5, none⟩ = some (.slice A' awL.sigs.length c')) ∧ W.cell? ⟨b1, o1 + 2, none⟩ = some (.slice S2 2 d2) ∧ W.cell? ⟨b1, o1 + 2 + 1, none⟩ = some (.int .i64 2))
      (first | with_reducible exact KS.out _ T2.out.drew | with_reducible exact KS.out _ hacc)
      (first | (go_at_call 10; (with_reducible refine (CC.out _ T2.out.drew).mono ?_); rintro e w' ⟨Bq, dq, rfl, hR, hl, hbl, hacc, hz⟩))
    all_goals go_wp2_with fail
    all_goals go_meet
    all_goals exact ⟨Bq, dq, rfl, rfl, hR, hacc⟩
    --]
  case rest =>
  obtain ⟨By, dy, rfl, rfl, hR, hb⟩ := hcut
  clear p0 p1 p2 p3 p4 p5 a0 a1 KS CC
  generalize wc = v3c at hR hb ⊢
  have P3c := Lib.hid (show v3c.heap[w1.heap.size]? = some (planO (Lp.with_ awL 6000) A c A' c') from (hb.block _ gx).trans P2.out)
  have Y3c := Lib.hid (Y2.out.trans (hb.mono Y2.out.size))
  have Q3c := Lib.hid (Q2.out.below hb)
  have Ry3c := Lib.hid hR
  have Rx3c := Lib.hid (Rx2.out.below hb)
  clear hb hR gx P2 Y2 Q2 T2 Rx2 R2 g2
  obtain ⟨⟨p0, -, -, -, -, -⟩, ⟨f0, -, -, -, -, -⟩, gx⟩ := row6 P3c.out
  have P3 := Lib.hid (show (v3c.setCell ⟨w1.heap.size, 0, none⟩ (.int .i64 1073741824)).heap[w1.heap.size]? = some (planO (Lp.with_ awL 1073741824) A c A' c') from by rw [heap_setCell_same _ _ _ _ _ _ P3c.out]; rfl)
  have Y3 := Lib.hid (Y3c.out.setCell (p := ⟨w1.heap.size, 0, none⟩) (Nat.le_refl _) (.int .i64 1073741824))
  have Q3 := Lib.hid (Q3c.out.set (i := 0) (v := .int .i64 1073741824) P3c.out (by decide) (by decide))
  have Rx3 := Lib.hid (Rx3c.out.set (i := 0) (v := .int .i64 1073741824) P3c.out (by decide))
  have Ry3 := Lib.hid (Ry3c.out.set (i := 0) (v := .int .i64 1073741824) P3c.out (by decide))
  go_upto_region 11 with fail
  clear p0 f0 gx P3c Y3c Q3c Rx3c Ry3c
  generalize v3c.setCell ⟨w1.heap.size, 0, none⟩ (.int .i64 1073741824) = v3 at P3 Y3 Q3 Rx3 Ry3 ⊢
  obtain ⟨⟨p0, p1, p2, p3, p4, p5⟩, -, gx⟩ := row6 P3.out
  obtain ⟨b3, o3, S3, d3, he3, g3, a0, a1, R3, -⟩ := Q3.out.at (k := 1) rfl
  cases he3
  have T3 := Lib.hid (Below.refl v3.heap.size v3)
  have KS := Lib.hid (fun W (hW : Below v3.heap.size v3 W) => show (W.cell? ⟨w1.heap.size, 0, none⟩ = some (.int .i64 1073741824) ∧ W.cell? ⟨w1.heap.size, 1, none⟩ = some (.int .i64 awL.ap) ∧ W.cell? ⟨w1.heap.size, 2, none⟩ = some (.int .i64 awL.se) ∧ W.cell? ⟨w1.heap.size, 3, none⟩ = some (.int .i64 awL.ho) ∧ W.cell? ⟨w1.heap.size, 4, none⟩ = some (.slice A awL.secs.length c) ∧ W.cell? ⟨w1.heap.size, 5, none⟩ = some (.slice A' awL.sigs.length c')) ∧ W.cell? ⟨b1, o1 + 2, none⟩ = some (.slice S3 2 d3) ∧ W.cell? ⟨b1, o1 + 2 + 1, none⟩ = some (.int .i64 2) from
    ⟨(row6 ((hW.block _ gx).trans P3.out)).1, (hW.cell (p := ⟨b1, o1 + 2, none⟩) g3).trans a0, (hW.cell (p := ⟨b1, o1 + 2 + 1, none⟩) g3).trans a1⟩)
  have CC := Lib.hid (fun W (hW : Below v3.heap.size v3 W) => show Calls Try.prog 10 #[.agg #[.int .i64 1073741824, .int .i64 awL.ap, .int .i64 awL.se, .int .i64 awL.ho, .slice A awL.secs.length c, .slice A' awL.sigs.length c'], .int .i64 0, .agg #[.slice S3 2 d3, .int .i64 2]] W (LapMade v3 ([⟨3, 2, 0⟩, ⟨0, 0, 1⟩, ⟨1, 0, 1⟩], 0) W) from by
    have h := LapMade.of hW (plOf_any (Lp.with_ awL 1073741824) (Lp.fit_with awL_fits.1 1073741824) (Lp.meas_with awL_fits.2 (by decide) (by decide)) A c A' c' 0 ⟨[⟨2, 0, 2⟩, ⟨5, 0, 1⟩], 2⟩ S3 d3 W (I1.out.below (Y3.out.trans (hW.mono Y3.out.size))) (R3.below hW).row (by decide) (by decide))
    rw [awP_z] at h
    exact h)
  clear p0 p1 p2 p3 p4 p5 a0 a1
  obtain ⟨⟨p0, p1, p2, p3, p4, p5⟩, a0, a1⟩ := KS.out _ T3.out
  go_upto_region 11 with fail
  go_cut [9, 10] from 48 to 55 (fun s1 s2 w' => ∃ B d, s1 = .slice B 3 d ∧ s2 = .int .i64 0 ∧ TRow 47 LStp w' B [⟨3, 2, 0⟩, ⟨0, 0, 1⟩, ⟨1, 0, 1⟩] ∧ Below v3.heap.size v3 w')
  case first =>
    --[
    go_region_held3 (fun W => (W.cell? ⟨w1.heap.size, 0, none⟩ = some (.int .i64 1073741824) ∧ W.cell? ⟨w1.heap.size, 1, none⟩ = some (.int .i64 awL.ap) ∧ W.cell? ⟨w1.heap.size, 2, none⟩ = some (.int .i64 awL.se) ∧ W.cell? ⟨w1.heap.size, 3, none⟩ = some (.int .i64 awL.ho) ∧ W.cell? ⟨w1.heap.size, 4, none⟩ = some (.slice A awL.secs.length c) ∧ W.cell? ⟨w1.heap.size, 5, none⟩ = some (.slice A' awL.sigs.length c')) ∧ W.cell? ⟨b1, o1 + 2, none⟩ = some (.slice S3 2 d3) ∧ W.cell? ⟨b1, o1 + 2 + 1, none⟩ = some (.int .i64 2))
      (first | with_reducible exact KS.out _ T3.out.drew | with_reducible exact KS.out _ hacc)
      (first | (go_at_call 10; (with_reducible refine (CC.out _ T3.out.drew).mono ?_); rintro e w' ⟨Bq, dq, rfl, hR, hl, hbl, hacc, hz⟩))
    all_goals go_wp2_with fail
    all_goals go_meet
    all_goals exact ⟨Bq, dq, rfl, rfl, hR, hacc⟩
    --]
  case rest =>
  obtain ⟨Bz, dz, rfl, rfl, hR, hb⟩ := hcut
  clear p0 p1 p2 p3 p4 p5 a0 a1 KS CC
  generalize wc = v4c at hR hb ⊢
  have P4c := Lib.hid (show v4c.heap[w1.heap.size]? = some (planO (Lp.with_ awL 1073741824) A c A' c') from (hb.block _ gx).trans P3.out)
  have Y4c := Lib.hid (Y3.out.trans (hb.mono Y3.out.size))
  have Q4c := Lib.hid (Q3.out.below hb)
  have Rz4c := Lib.hid hR
  have Rx4c := Lib.hid (Rx3.out.below hb)
  have Ry4c := Lib.hid (Ry3.out.below hb)
  clear hb hR gx P3 Y3 Q3 T3 Rx3 Ry3 R3 g3
  obtain ⟨⟨p0, -, -, -, -, -⟩, ⟨f0, -, -, -, -, -⟩, gx⟩ := row6 P4c.out
  have P4 := Lib.hid (show (v4c.setCell ⟨w1.heap.size, 0, none⟩ (.int .i64 0)).heap[w1.heap.size]? = some (planO (Lp.with_ awL 0) A c A' c') from by rw [heap_setCell_same _ _ _ _ _ _ P4c.out]; rfl)
  have Y4 := Lib.hid (Y4c.out.setCell (p := ⟨w1.heap.size, 0, none⟩) (Nat.le_refl _) (.int .i64 0))
  have Q4 := Lib.hid (Q4c.out.set (i := 0) (v := .int .i64 0) P4c.out (by decide) (by decide))
  have Rx4 := Lib.hid (Rx4c.out.set (i := 0) (v := .int .i64 0) P4c.out (by decide))
  have Ry4 := Lib.hid (Ry4c.out.set (i := 0) (v := .int .i64 0) P4c.out (by decide))
  have Rz4 := Lib.hid (Rz4c.out.set (i := 0) (v := .int .i64 0) P4c.out (by decide))
  go_upto_region 13 with fail
  clear p0 f0 gx P4c Y4c Q4c Rx4c Ry4c Rz4c
  generalize v4c.setCell ⟨w1.heap.size, 0, none⟩ (.int .i64 0) = v4 at P4 Y4 Q4 Rx4 Ry4 Rz4 ⊢
  obtain ⟨⟨p0, p1, p2, p3, p4, p5⟩, -, gx⟩ := row6 P4.out
  obtain ⟨b4, o4, S4, d4, he4, g4, a0, a1, R4, -⟩ := Q4.out.at (k := 1) rfl
  cases he4
  have T4 := Lib.hid (Below.refl v4.heap.size v4)
  have KS := Lib.hid (fun W (hW : Below v4.heap.size v4 W) => show (W.cell? ⟨w1.heap.size, 0, none⟩ = some (.int .i64 0) ∧ W.cell? ⟨w1.heap.size, 1, none⟩ = some (.int .i64 awL.ap) ∧ W.cell? ⟨w1.heap.size, 2, none⟩ = some (.int .i64 awL.se) ∧ W.cell? ⟨w1.heap.size, 3, none⟩ = some (.int .i64 awL.ho) ∧ W.cell? ⟨w1.heap.size, 4, none⟩ = some (.slice A awL.secs.length c) ∧ W.cell? ⟨w1.heap.size, 5, none⟩ = some (.slice A' awL.sigs.length c')) ∧ W.cell? ⟨b1, o1 + 2, none⟩ = some (.slice S4 2 d4) ∧ W.cell? ⟨b1, o1 + 2 + 1, none⟩ = some (.int .i64 2) from
    ⟨(row6 ((hW.block _ gx).trans P4.out)).1, (hW.cell (p := ⟨b1, o1 + 2, none⟩) g4).trans a0, (hW.cell (p := ⟨b1, o1 + 2 + 1, none⟩) g4).trans a1⟩)
  have CC := Lib.hid (fun W (hW : Below v4.heap.size v4 W) => show Calls Try.prog 10 #[.agg #[.int .i64 0, .int .i64 awL.ap, .int .i64 awL.se, .int .i64 awL.ho, .slice A awL.secs.length c, .slice A' awL.sigs.length c'], .int .i64 0, .agg #[.slice S4 2 d4, .int .i64 2]] W (LapMade v4 ([], 0) W) from by
    have h := LapMade.of hW (plOf_any (Lp.with_ awL 0) (Lp.fit_with awL_fits.1 0) (Lp.meas_with awL_fits.2 (by decide) (by decide)) A c A' c' 0 ⟨[⟨2, 0, 2⟩, ⟨5, 0, 1⟩], 2⟩ S4 d4 W (I1.out.below (Y4.out.trans (hW.mono Y4.out.size))) (R4.below hW).row (by decide) (by decide))
    rw [awP_u] at h
    exact h)
  clear p0 p1 p2 p3 p4 p5 a0 a1
  obtain ⟨⟨p0, p1, p2, p3, p4, p5⟩, a0, a1⟩ := KS.out _ T4.out
  go_upto_region 13 with fail
  go_cut [11, 12] from 57 to 64 (fun s1 s2 w' => ∃ B d, s1 = .slice B 0 d ∧ s2 = .int .i64 0 ∧ TRow 47 LStp w' B [] ∧ Below v4.heap.size v4 w')
  case first =>
    --[
    go_region_held3 (fun W => (W.cell? ⟨w1.heap.size, 0, none⟩ = some (.int .i64 0) ∧ W.cell? ⟨w1.heap.size, 1, none⟩ = some (.int .i64 awL.ap) ∧ W.cell? ⟨w1.heap.size, 2, none⟩ = some (.int .i64 awL.se) ∧ W.cell? ⟨w1.heap.size, 3, none⟩ = some (.int .i64 awL.ho) ∧ W.cell? ⟨w1.heap.size, 4, none⟩ = some (.slice A awL.secs.length c) ∧ W.cell? ⟨w1.heap.size, 5, none⟩ = some (.slice A' awL.sigs.length c')) ∧ W.cell? ⟨b1, o1 + 2, none⟩ = some (.slice S4 2 d4) ∧ W.cell? ⟨b1, o1 + 2 + 1, none⟩ = some (.int .i64 2))
      (first | with_reducible exact KS.out _ T4.out.drew | with_reducible exact KS.out _ hacc)
      (first | (go_at_call 10; (with_reducible refine (CC.out _ T4.out.drew).mono ?_); rintro e w' ⟨Bq, dq, rfl, hR, hl, hbl, hacc, hz⟩))
    all_goals go_wp2_with fail
    all_goals go_meet
    all_goals exact ⟨Bq, dq, rfl, rfl, hR, hacc⟩
    --]
  case rest =>
  obtain ⟨Bu, du, rfl, rfl, hR, hb⟩ := hcut
  clear p0 p1 p2 p3 p4 p5 a0 a1 KS CC
  generalize wc = v5c at hR hb ⊢
  have P5c := Lib.hid (show v5c.heap[w1.heap.size]? = some (planO (Lp.with_ awL 0) A c A' c') from (hb.block _ gx).trans P4.out)
  have Y5c := Lib.hid (Y4.out.trans (hb.mono Y4.out.size))
  have Q5c := Lib.hid (Q4.out.below hb)
  have Ru5c := Lib.hid hR
  have Rx5c := Lib.hid (Rx4.out.below hb)
  have Ry5c := Lib.hid (Ry4.out.below hb)
  have Rz5c := Lib.hid (Rz4.out.below hb)
  clear hb hR gx P4 Y4 Q4 T4 Rx4 Ry4 Rz4 R4 g4
  have P5 := P5c
  have Y5 := Y5c
  have Q5 := Q5c
  have Rx5 := Rx5c
  have Ry5 := Ry5c
  have Rz5 := Rz5c
  have Ru5 := Ru5c
  clear P5c Y5c Q5c Rx5c Ry5c Rz5c Ru5c
  generalize v5c = v5 at P5 Y5 Q5 Rx5 Ry5 Rz5 Ru5 ⊢
  obtain ⟨⟨p0, p1, p2, p3, p4, p5⟩, -, gx⟩ := row6 P5.out
  obtain ⟨b5, o5, S5, d5, he5, g5, a0, a1, R5, -⟩ := Q5.out.at (k := 1) rfl
  cases he5
  have T5 := Lib.hid (Below.refl v5.heap.size v5)
  have KS := Lib.hid (fun W (hW : Below v5.heap.size v5 W) => show (W.cell? ⟨w1.heap.size, 0, none⟩ = some (.int .i64 0) ∧ W.cell? ⟨w1.heap.size, 1, none⟩ = some (.int .i64 awL.ap) ∧ W.cell? ⟨w1.heap.size, 2, none⟩ = some (.int .i64 awL.se) ∧ W.cell? ⟨w1.heap.size, 3, none⟩ = some (.int .i64 awL.ho) ∧ W.cell? ⟨w1.heap.size, 4, none⟩ = some (.slice A awL.secs.length c) ∧ W.cell? ⟨w1.heap.size, 5, none⟩ = some (.slice A' awL.sigs.length c')) ∧ W.cell? ⟨b1, o1 + 2, none⟩ = some (.slice S5 2 d5) ∧ W.cell? ⟨b1, o1 + 2 + 1, none⟩ = some (.int .i64 2) from
    ⟨(row6 ((hW.block _ gx).trans P5.out)).1, (hW.cell (p := ⟨b1, o1 + 2, none⟩) g5).trans a0, (hW.cell (p := ⟨b1, o1 + 2 + 1, none⟩) g5).trans a1⟩)
  have CC := Lib.hid (fun W (hW : Below v5.heap.size v5 W) => show Calls Try.prog 10 #[.agg #[.int .i64 0, .int .i64 awL.ap, .int .i64 awL.se, .int .i64 awL.ho, .slice A awL.secs.length c, .slice A' awL.sigs.length c'], .int .i64 9, .agg #[.slice S5 2 d5, .int .i64 2]] W (LapMade v5 ([], 4) W) from by
    have h := LapMade.of hW (plOf_any (Lp.with_ awL 0) (Lp.fit_with awL_fits.1 0) (Lp.meas_with awL_fits.2 (by decide) (by decide)) A c A' c' 9 ⟨[⟨2, 0, 2⟩, ⟨5, 0, 1⟩], 2⟩ S5 d5 W (I1.out.below (Y5.out.trans (hW.mono Y5.out.size))) (R5.below hW).row (by decide) (by decide))
    rw [awP_t] at h
    exact h)
  clear p0 p1 p2 p3 p4 p5 a0 a1
  obtain ⟨⟨p0, p1, p2, p3, p4, p5⟩, a0, a1⟩ := KS.out _ T5.out
  go_upto_region 14 with fail
  go_cut [13, 14] from 65 to 72 (fun s1 s2 w' => ∃ B d, s1 = .slice B 0 d ∧ s2 = .int .i64 4 ∧ TRow 47 LStp w' B [] ∧ Below v5.heap.size v5 w')
  case first =>
    --[
    go_region_held3 (fun W => (W.cell? ⟨w1.heap.size, 0, none⟩ = some (.int .i64 0) ∧ W.cell? ⟨w1.heap.size, 1, none⟩ = some (.int .i64 awL.ap) ∧ W.cell? ⟨w1.heap.size, 2, none⟩ = some (.int .i64 awL.se) ∧ W.cell? ⟨w1.heap.size, 3, none⟩ = some (.int .i64 awL.ho) ∧ W.cell? ⟨w1.heap.size, 4, none⟩ = some (.slice A awL.secs.length c) ∧ W.cell? ⟨w1.heap.size, 5, none⟩ = some (.slice A' awL.sigs.length c')) ∧ W.cell? ⟨b1, o1 + 2, none⟩ = some (.slice S5 2 d5) ∧ W.cell? ⟨b1, o1 + 2 + 1, none⟩ = some (.int .i64 2))
      (first | with_reducible exact KS.out _ T5.out.drew | with_reducible exact KS.out _ hacc)
      (first | (go_at_call 10; (with_reducible refine (CC.out _ T5.out.drew).mono ?_); rintro e w' ⟨Bq, dq, rfl, hR, hl, hbl, hacc, hz⟩))
    all_goals go_wp2_with fail
    all_goals go_meet
    all_goals exact ⟨Bq, dq, rfl, rfl, hR, hacc⟩
    --]
  case rest =>
  obtain ⟨Bt, dt, rfl, rfl, hR, hb⟩ := hcut
  clear p0 p1 p2 p3 p4 p5 a0 a1 KS CC
  generalize wc = v6c at hR hb ⊢
  have P6c := Lib.hid (show v6c.heap[w1.heap.size]? = some (planO (Lp.with_ awL 0) A c A' c') from (hb.block _ gx).trans P5.out)
  have Y6c := Lib.hid (Y5.out.trans (hb.mono Y5.out.size))
  have Q6c := Lib.hid (Q5.out.below hb)
  have Rt6c := Lib.hid hR
  have Rx6c := Lib.hid (Rx5.out.below hb)
  have Ry6c := Lib.hid (Ry5.out.below hb)
  have Rz6c := Lib.hid (Rz5.out.below hb)
  have Ru6c := Lib.hid (Ru5.out.below hb)
  clear hb hR gx P5 Y5 Q5 T5 Rx5 Ry5 Rz5 Ru5 R5 g5
  have P6 := P6c
  have Y6 := Y6c
  have Q6 := Q6c
  have Rx6 := Rx6c
  have Ry6 := Ry6c
  have Rz6 := Rz6c
  have Ru6 := Ru6c
  have Rt6 := Rt6c
  clear P6c Y6c Q6c Rx6c Ry6c Rz6c Ru6c Rt6c
  generalize v6c = v6 at P6 Y6 Q6 Rx6 Ry6 Rz6 Ru6 Rt6 ⊢
  have W0 := Lib.hid (Below.refl v6.heap.size v6)
  have KS := Lib.hid (fun W (hW : Below v6.heap.size v6 W) => show W.cell? ⟨w1.heap.size, 0, none⟩ = some (.int .i64 0) ∧ W.cell? ⟨w1.heap.size, 1, none⟩ = some (.int .i64 awL.ap) ∧ W.cell? ⟨w1.heap.size, 2, none⟩ = some (.int .i64 awL.se) ∧ W.cell? ⟨w1.heap.size, 3, none⟩ = some (.int .i64 awL.ho) ∧ W.cell? ⟨w1.heap.size, 4, none⟩ = some (.slice A awL.secs.length c) ∧ W.cell? ⟨w1.heap.size, 5, none⟩ = some (.slice A' awL.sigs.length c') from
    (row6 ((hW.block _ (Array.getElem?_eq_some_iff.1 P6.out).1).trans P6.out)).1)
  have s1 := fun B d W hA hB => rwSame_all [⟨3, 1, 0⟩] [⟨3, 1, 0⟩] Bx dx B d W hA hB (by decide)
  have s2 := fun B d W hA hB => rwSame_all [⟨3, 2, 0⟩, ⟨0, 0, 1⟩] [⟨3, 2, 0⟩, ⟨0, 0, 1⟩] By dy B d W hA hB (by decide)
  simp only [decide_true] at s1 s2
  have G1 := Lib.hid (fun W (hW : Below v6.heap.size v6 W) B d hB => show Calls Try.prog 12 #[.slice Bx 1 dx, .slice B 1 d] W (Made v6 (.bool true) W) from Made.of (w := v6) hW (s1 B d W (Rx6.out.below hW).row hB))
  have G2 := Lib.hid (fun W (hW : Below v6.heap.size v6 W) B d hB => show Calls Try.prog 12 #[.slice By 2 dy, .slice B 2 d] W (Made v6 (.bool true) W) from Made.of (w := v6) hW (s2 B d W (Ry6.out.below hW).row hB))
  have G3 := Lib.hid (fun W (hW : Below v6.heap.size v6 W) => show Calls Try.prog 13 #[.agg #[.int .i64 0, .int .i64 awL.ap, .int .i64 awL.se, .int .i64 awL.ho, .slice A awL.secs.length c, .slice A' awL.sigs.length c'], .slice By 2 dy] W (Made v6 (.int .i64 14000) W) from by
    have h := Made.of (w := v6) hW (plLength_any (Lp.with_ awL 0) (Lp.meas_with awL_fits.2 (by decide) (by decide)) A c A' c' [⟨3, 2, 0⟩, ⟨0, 0, 1⟩] By dy W (I1.out.below (Y6.out.trans (hW.mono Y6.out.size))) (Ry6.out.below hW).row (by decide))
    rw [awP_len] at h
    exact h)
  have N1 := Lib.hid (fun (W : World) (g : Nat) (hg : W.heap.size = g) => row_one1 W ⟨3, 1, 0⟩ hg)
  have N2 := Lib.hid (fun (W : World) (g : Nat) (hg : W.heap.size = g) => row_two2 W ⟨3, 2, 0⟩ ⟨0, 0, 1⟩ hg)
  have BE := Lib.hid (fun W (hW : Below v6.heap.size v6 W) => B1.out.trans ((Y6.out.trans (hW.mono Y6.out.size)).mono B1.out.size))
  clear s1 s2 P6 Y6 Q6 Rx6 Ry6 Rz6 Ru6 Rt6
  obtain ⟨j0, j1, j2, j3, j4, j5⟩ := KS.out _ W0.out
  go_wp2_with (first
      | (go_at_call 12; (with_reducible refine (G1.out _ (W0.out.alloc W0.out.size (oneO ⟨3, 1, 0⟩)) _ _ (N1.out v6 _ rfl)).mono ?_); rintro e w' ⟨rfl, hbl, hacc, hz⟩; obtain ⟨m0, m1, m2, m3, m4, m5⟩ := KS.out _ hacc)
      | (go_at_call 12; (with_reducible refine (G2.out _ (hacc.alloc hacc.size (twoO ⟨3, 2, 0⟩ ⟨0, 0, 1⟩)) _ _ (N2.out w' _ rfl)).mono ?_); rintro e w'' ⟨rfl, hbl2, hacc2, hz2⟩; obtain ⟨n0, n1, n2, n3, n4, n5⟩ := KS.out _ hacc2)
      | (go_at_call 13; (with_reducible refine (G3.out _ hacc2).mono ?_); rintro e w3 ⟨rfl, hbl3, hacc3, hz3⟩))
  go_ret
  exact ⟨rfl, BE.out _ hacc3⟩
end Go.Proofs.Ytfmpjljddfaggaa
