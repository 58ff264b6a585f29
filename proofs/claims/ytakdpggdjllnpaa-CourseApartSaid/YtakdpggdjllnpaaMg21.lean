/-
  Texts of this claim, merged: CrAwake.
-/
import Derived.Test.YtakdpggdjllnpaaMg20
/-
  The walk of layer 7's examples: they are as the document says.
-/
namespace Go.Proofs.Ytakdpggdjllnpaa
open Go.RowKit

def awL : Pl.Plan := ⟨3000, 15000, 2, 1, [⟨[69], false, 9000, ⟨3, 0, 3⟩, ⟨1, 0, -1⟩, ⟨-1, 0, -1⟩⟩, ⟨[70], false, 8000, ⟨0, 1, 7⟩, ⟨-1, 0, -1⟩, ⟨-1, 0, -1⟩⟩, ⟨[80], true, 5000, ⟨7, 1, -1⟩, ⟨4, 0, -1⟩, ⟨5, 0, -1⟩⟩, ⟨[81], true, 5000, ⟨0, 0, -1⟩, ⟨4, 1, -1⟩, ⟨5, 1, -1⟩⟩, ⟨[84], false, 7000, ⟨2, 1, 4⟩, ⟨3, 1, 1⟩, ⟨-1, 0, -1⟩⟩, ⟨[85], false, 7000, ⟨2, 2, 5⟩, ⟨3, 2, 2⟩, ⟨-1, 0, -1⟩⟩, ⟨[86], false, 8000, ⟨-1, 0, -1⟩, ⟨7, 0, 6⟩, ⟨-1, 0, -1⟩⟩, ⟨[87], false, 9000, ⟨6, 1, -1⟩, ⟨2, 0, 0⟩, ⟨-1, 0, -1⟩⟩], [⟨[65], 7, 1⟩, ⟨[66], 4, 1⟩, ⟨[67], 5, 1⟩, ⟨[68], 0, 0⟩, ⟨[71], 4, 0⟩, ⟨[72], 5, 0⟩, ⟨[73], 6, 1⟩, ⟨[74], 1, 0⟩]⟩
abbrev exL : ByteArray := ⟨((([111, 118, 101, 114, 108, 97, 112, 32, 51, 48, 48, 48, 10, 97, 112, 112, 114, 111, 97, 99, 104, 32, 49, 53, 48, 48, 48, 10, 115, 101, 116, 116, 108, 101, 32, 50, 10, 104, 111, 108, 100, 32, 49, 10, 115, 101, 99, 116].append [105, 111, 110, 32, 87, 32, 57, 48, 48, 48, 10, 115, 101, 99, 116, 105, 111, 110, 32, 86, 32, 56, 48, 48, 48, 10, 112, 111, 105, 110, 116, 32, 80, 32, 53, 48, 48, 48, 10, 115, 101, 99, 116, 105, 111, 110, 32, 84, 32]).append ([55, 48, 48, 48, 10, 115, 101, 99, 116, 105, 111, 110, 32, 85, 32, 55, 48, 48, 48, 10, 112, 111, 105, 110, 116, 32, 81, 32, 53, 48, 48, 48, 10, 115, 101, 99, 116, 105, 111, 110, 32, 69, 32, 57, 48, 48, 48, 10, 115].append [101, 99, 116, 105, 111, 110, 32, 70, 32, 56, 48, 48, 48, 10, 106, 111, 105, 110, 32, 86, 46, 98, 32, 87, 46, 97, 10, 106, 111, 105, 110, 32, 87, 46, 98, 32, 80, 46, 116, 10, 106, 111, 105, 110, 32, 80, 46, 110, 32])).append (([84, 46, 97, 10, 106, 111, 105, 110, 32, 80, 46, 114, 32, 85, 46, 97, 10, 106, 111, 105, 110, 32, 84, 46, 98, 32, 81, 46, 110, 10, 106, 111, 105, 110, 32, 85, 46, 98, 32, 81, 46, 114, 10, 106, 111, 105, 110, 32].append [81, 46, 116, 32, 69, 46, 97, 10, 106, 111, 105, 110, 32, 69, 46, 98, 32, 70, 46, 97, 10, 98, 117, 102, 102, 101, 114, 32, 86, 46, 97, 10, 98, 117, 102, 102, 101, 114, 32, 70, 46, 98, 10, 115, 105, 103, 110, 97, 108]).append ([32, 65, 32, 87, 46, 98, 10, 115, 105, 103, 110, 97, 108, 32, 66, 32, 84, 46, 98, 10, 115, 105, 103, 110, 97, 108, 32, 67, 32, 85, 46, 98, 10, 115, 105, 103, 110, 97, 108, 32, 68, 32, 69, 46, 97, 10, 115, 105, 103].append [110, 97, 108, 32, 71, 32, 84, 46, 97, 10, 115, 105, 103, 110, 97, 108, 32, 72, 32, 85, 46, 97, 10, 115, 105, 103, 110, 97, 108, 32, 73, 32, 86, 46, 98, 10, 115, 105, 103, 110, 97, 108, 32, 74, 32, 70, 46, 97, 10]))).toArray⟩
theorem exL_built : Pl.builtP exL.data.toList = (awL, 0, 0) := by decide +kernel
theorem made_exL : madeP exL.data.toList = some awL := by
  unfold madeP
  rw [exL_built]
  exact if_pos ⟨by decide +kernel, rfl⟩
theorem awL_few : awL.secs.length ≤ 24 := by decide
theorem awL_sigs : awL.sigs.length ≤ 12 := by decide
theorem awL_of0 : Cr.of awL 0 = ([⟨[⟨2, 0, 1⟩, ⟨4, 0, 1⟩], 1⟩, ⟨[⟨2, 0, 2⟩, ⟨5, 0, 1⟩], 2⟩], 0) := by decide +kernel
theorem awL_of6 : Cr.of awL 6 = ([⟨[⟨7, 0, 1⟩], 0⟩], 0) := by decide +kernel
theorem awL_of8 : Cr.of awL 8 = ([], 4) := by decide +kernel
theorem awL_of4 : Cr.of awL 4 = ([⟨[⟨2, 1, 0⟩, ⟨7, 1, 0⟩, ⟨6, 1, 0⟩], -1⟩], 0) := by decide +kernel
theorem pLoop_any (w : World) : Calls Try.prog 19 #[] w fun e w' => e = .returned (.string exL) ∧ w = w' := by
  go_enter Try.func19, Try.ntmps19
  go_wp2
  go_ret
  exact ⟨rfl, rfl⟩
theorem row_two2 (w : World) (y z : Wk.Stp) {g : Nat} (hg : w.heap.size = g) : LStp.Row (w.alloc (.cells #[.int .i64 y.s, .int .i64 y.f, .int .i64 y.t, .int .i64 z.s, .int .i64 z.f, .int .i64 z.t] 43)) (some ⟨g, 0, none⟩) [y, z] := hg ▸ Lies.Row.fresh (E := LStp) w [y, z] 43
abbrev twoO (y z : Wk.Stp) : Obj := .cells #[.int .i64 y.s, .int .i64 y.f, .int .i64 y.t, .int .i64 z.s, .int .i64 z.f, .int .i64 z.t] 43
set_option maxHeartbeats 8000000 in
set_option maxRecDepth 100000 in
theorem crAwake_any (w : World) : Calls Try.prog 8 #[] w fun e w' => e = .returned (.bool true) ∧ Below w.heap.size w w' := by
  --[
  have CL := Lib.hid pLoop_any
  have CM := Lib.hid (fun W => made_some made_exL W)
  go_enter Try.func8, Try.ntmps8
  go_wp2_with fail
  refine (CL.out _).mono ?_; rintro e w0 ⟨rfl, rfl⟩
  go_wp2_with fail
  refine (CM.out _).mono ?_; rintro e w1 ⟨A, c, A', c', rfl, pin, hb1⟩
  have X1 := (Below.refl w1.heap.size w1).alloc (Nat.le_refl _) (planO awL A c A' c')
  have B5 := Lib.hid (hb1.trans (X1.mono hb1.size))
  have I5 := Lib.hid (pin.below X1)
  have RP := Lib.hid (heap_alloc_new w1 (planO awL A c A' c'))
  have gx := (Array.getElem?_eq_some_iff.1 RP.out).1
  generalize hw5 : w1.alloc (planO awL A c A' c') = w5 at B5 I5 RP gx
  have KP := Lib.hid (fun W (hW : Below w5.heap.size w5 W) => show W.cell? ⟨w1.heap.size, 0, none⟩ = some (.int .i64 awL.ov) ∧ W.cell? ⟨w1.heap.size, 1, none⟩ = some (.int .i64 awL.ap) ∧ W.cell? ⟨w1.heap.size, 2, none⟩ = some (.int .i64 awL.se) ∧ W.cell? ⟨w1.heap.size, 3, none⟩ = some (.int .i64 awL.ho) ∧ W.cell? ⟨w1.heap.size, 4, none⟩ = some (.slice A awL.secs.length c) ∧ W.cell? ⟨w1.heap.size, 5, none⟩ = some (.slice A' awL.sigs.length c') from (row6 ((hW.block _ gx).trans RP.out)).1)
  have T0 := Lib.hid (Below.refl w5.heap.size w5)
  obtain ⟨p0, p1, p2, p3, p4, p5⟩ := KP.out _ T0.out
  have C1 := Lib.hid (fun W (hW : Below w5.heap.size w5 W) => pcOf_any awL A c A' c' 0 W (I5.out.below hW) awL_few awL_sigs)
  have C2 := Lib.hid (fun W (hW : Below w5.heap.size w5 W) => pcOf_any awL A c A' c' 6 W (I5.out.below hW) awL_few awL_sigs)
  have C3 := Lib.hid (fun W (hW : Below w5.heap.size w5 W) => pcOf_any awL A c A' c' 8 W (I5.out.below hW) awL_few awL_sigs)
  have C4 := Lib.hid (fun W (hW : Below w5.heap.size w5 W) => pcOf_any awL A c A' c' 4 W (I5.out.below hW) awL_few awL_sigs)
  rw [awL_of0] at C1
  rw [awL_of6] at C2
  rw [awL_of8] at C3
  rw [awL_of4] at C4
  subst hw5
  clear hb1 X1 pin CM CL
  go_wp2_with fail
  generalize w1.alloc (planO awL A c A' c') = w5 at B5 I5 KP T0 C1 C2 C3 C4 p0 p1 p2 p3 p4 p5 gx RP
  refine (C1.out _ T0.out).mono ?_; rintro e v1 ⟨L1, k1, rfl, hW1, hb⟩
  have T1 := Lib.hid hb
  have Q1 := Lib.hid hW1
  clear p0 p1 p2 p3 p4 p5 hb hW1
  obtain ⟨p0, p1, p2, p3, p4, p5⟩ := KP.out _ T1.out
  go_wp2_with fail
  refine (C2.out _ T1.out).mono ?_; rintro e v2 ⟨L2, k2, rfl, hW2, hb⟩
  have T2 := Lib.hid (T1.out.trans (hb.mono T1.out.size))
  have Q2 := Lib.hid hW2
  have Q12 := Lib.hid (Q1.out.below hb)
  clear p0 p1 p2 p3 p4 p5 hb hW2
  obtain ⟨p0, p1, p2, p3, p4, p5⟩ := KP.out _ T2.out
  go_wp2_with fail
  refine (C3.out _ T2.out).mono ?_; rintro e v3 ⟨L3, k3, rfl, -, hb⟩
  have T3 := Lib.hid (T2.out.trans (hb.mono T2.out.size))
  have Q23 := Lib.hid (Q2.out.below hb)
  have Q13 := Lib.hid (Q12.out.below hb)
  clear p0 p1 p2 p3 p4 p5 hb
  obtain ⟨p0, p1, p2, p3, p4, p5⟩ := KP.out _ T3.out
  go_wp2_with fail
  refine (C4.out _ T3.out).mono ?_; rintro e v4 ⟨L4, k4, rfl, hW4, hb⟩
  have T4 := Lib.hid (T3.out.trans (hb.mono T3.out.size))
  have Q24 := Lib.hid (Q23.out.below hb)
  have Q14 := Lib.hid (Q13.out.below hb)
  clear p0 p1 p2 p3 p4 p5 hb
  obtain ⟨b1, o1, S1, d1, rfl, g1, a0, a1, R1, -⟩ := Q14.out.at (k := 0) rfl
  obtain ⟨b1', o1', S2, d2, he, g1', a2, a3, R2, -⟩ := Q14.out.at (k := 1) rfl
  obtain ⟨b2, o2, S3, d3, rfl, g2, a4, a5, R3, -⟩ := Q24.out.at (k := 0) rfl
  obtain ⟨b4, o4, S4, d4, rfl, g4, a6, a7, R4, -⟩ := hW4.at (k := 0) rfl
  cases he
  have KS := Lib.hid (fun W (hW : Below v4.heap.size v4 W) => show W.cell? ⟨b1, o1, none⟩ = some (.slice S1 2 d1) ∧ W.cell? ⟨b1, o1 + 1, none⟩ = some (.int .i64 1) ∧ W.cell? ⟨b1, o1 + 2, none⟩ = some (.slice S2 2 d2) ∧ W.cell? ⟨b1, o1 + 2 + 1, none⟩ = some (.int .i64 2) ∧ W.cell? ⟨b2, o2, none⟩ = some (.slice S3 1 d3) ∧ W.cell? ⟨b2, o2 + 1, none⟩ = some (.int .i64 0) ∧ W.cell? ⟨b4, o4, none⟩ = some (.slice S4 3 d4) ∧ W.cell? ⟨b4, o4 + 1, none⟩ = some (.int .i64 (-1)) from
    ⟨(hW.cell (p := ⟨b1, o1, none⟩) g1).trans a0, (hW.cell (p := ⟨b1, o1 + 1, none⟩) g1).trans a1, (hW.cell (p := ⟨b1, o1 + 2, none⟩) g1).trans a2, (hW.cell (p := ⟨b1, o1 + 2 + 1, none⟩) g1).trans a3, (hW.cell (p := ⟨b2, o2, none⟩) g2).trans a4, (hW.cell (p := ⟨b2, o2 + 1, none⟩) g2).trans a5, (hW.cell (p := ⟨b4, o4, none⟩) g4).trans a6, (hW.cell (p := ⟨b4, o4 + 1, none⟩) g4).trans a7⟩)
  have W0 := Lib.hid (Below.refl v4.heap.size v4)
  have s1 := fun B d W hA hB => rwSame_all [⟨2, 0, 1⟩, ⟨4, 0, 1⟩] [⟨2, 0, 1⟩, ⟨4, 0, 1⟩] S1 d1 B d W hA hB (by decide)
  have s2 := fun B d W hA hB => rwSame_all [⟨2, 0, 2⟩, ⟨5, 0, 1⟩] [⟨2, 0, 2⟩, ⟨5, 0, 1⟩] S2 d2 B d W hA hB (by decide)
  simp only [decide_true] at s1 s2
  have G1 := Lib.hid (fun W (hW : Below v4.heap.size v4 W) B d hB => show Calls Try.prog 16 #[.slice S1 2 d1, .slice B 2 d] W (Made v4 (.bool true) W) from Made.of (w := v4) hW (s1 B d W (R1.below rfl hW) hB))
  have G2 := Lib.hid (fun W (hW : Below v4.heap.size v4 W) B d hB => show Calls Try.prog 16 #[.slice S2 2 d2, .slice B 2 d] W (Made v4 (.bool true) W) from Made.of (w := v4) hW (s2 B d W (R2.below rfl hW) hB))
  have N1 := Lib.hid (fun (W : World) (g : Nat) (hg : W.heap.size = g) => row_two2 W ⟨2, 0, 1⟩ ⟨4, 0, 1⟩ hg)
  have N2 := Lib.hid (fun (W : World) (g : Nat) (hg : W.heap.size = g) => row_two2 W ⟨2, 0, 2⟩ ⟨5, 0, 1⟩ hg)
  have TW := Lib.hid (fun W (hW : Below v4.heap.size v4 W) => T4.out.trans (hW.mono T4.out.size))
  clear a0 a1 a2 a3 a4 a5 a6 a7 R1 R2 R3 R4 s1 s2 hW4 C1 C2 C3 C4 Q1 Q2 Q12 Q13 Q23 Q14 Q24 g1' T0 T1 T2 T3 KP I5 RP gx
  obtain ⟨j0, j1, j2, j3, j4, j5, j6, j7⟩ := KS.out _ W0.out
  go_wp2_with (first
      | (go_at_call 16; (with_reducible refine (G1.out _ (W0.out.alloc W0.out.size (twoO ⟨2, 0, 1⟩ ⟨4, 0, 1⟩)) _ _ (N1.out v4 _ rfl)).mono ?_); rintro e w' ⟨rfl, hbl, hacc, hz⟩; obtain ⟨m0, m1, m2, m3, m4, m5, m6, m7⟩ := KS.out _ hacc)
      | (go_at_call 16; (with_reducible refine (G2.out _ (hacc.alloc hacc.size (twoO ⟨2, 0, 2⟩ ⟨5, 0, 1⟩)) _ _ (N2.out w' _ rfl)).mono ?_); rintro e w'' ⟨rfl, hbl2, hacc2, hz2⟩; obtain ⟨n0, n1, n2, n3, n4, n5, n6, n7⟩ := KS.out _ hacc2))
  go_ret
  exact ⟨rfl, B5.out.trans ((TW.out _ hacc2).mono B5.out.size)⟩
  --]
end Go.Proofs.Ytakdpggdjllnpaa
