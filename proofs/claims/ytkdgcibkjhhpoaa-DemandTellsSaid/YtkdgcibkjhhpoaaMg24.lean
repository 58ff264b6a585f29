/-
  Texts of this claim, merged: DmAwake.
-/
import Derived.Test.YtkdgcibkjhhpoaaMg14
import Derived.Test.YtkdgcibkjhhpoaaMg23
/-
  The walk of layer 9's examples: they are as the document says.
-/
namespace Go.Proofs.Ytkdgcibkjhhpoaa
open Go.RowKit

def awD : Pl.Plan := ⟨0, 0, 0, 0, [⟨[80], true, 5000, ⟨-1, 0, -1⟩, ⟨-1, 0, -1⟩, ⟨-1, 0, -1⟩⟩], []⟩
abbrev exD : ByteArray := ⟨#[112, 111, 105, 110, 116, 32, 80, 32, 53, 48, 48, 48, 10, 98, 117, 102, 102, 101, 114, 32, 80, 46, 116, 10, 98, 117, 102, 102, 101, 114, 32, 80, 46, 110, 10, 98, 117, 102, 102, 101, 114, 32, 80, 46, 114, 10]⟩
theorem exD_built : Pl.builtP exD.data.toList = (awD, 0, 0) := by decide +kernel
theorem made_exD : madeP exD.data.toList = some awD := by
  unfold madeP
  rw [exD_built]
  exact if_pos ⟨by decide +kernel, rfl⟩
theorem awD_few : awD.secs.length ≤ 24 := by decide
theorem awD_put1 : Dm.put [] ⟨5, 1⟩ = [⟨5, 1⟩] := by decide
theorem awD_put2 : Dm.put [⟨5, 1⟩] ⟨2, 2⟩ = [⟨2, 2⟩, ⟨5, 1⟩] := by decide
theorem awD_put3 : Dm.put [⟨2, 2⟩, ⟨5, 1⟩] ⟨5, 2⟩ = [⟨2, 2⟩, ⟨5, 1⟩] := by decide
theorem awD_of : Dm.ofSteps awD [⟨0, 2, 0⟩] = [⟨0, 2⟩] := by decide
/-- Demands that a call leaves, their number told. -/
def DemsAre (n : Nat) (L : List Dm.Dem) (w : World) (e : Ending) (w' : World) : Prop := ∃ B d, e = .returned (.slice B n d) ∧ LDem.Row w' B L ∧ n ≤ d ∧ Below w.heap.size w w'
theorem DemsAre.of {n : Nat} {L M : List Dm.Dem} {w : World} {f : FuncId} {xs : Array Value} (h : M = L) (hn : L.length = n) (hc : Calls Try.prog f xs w (DemsYes M w)) : Calls Try.prog f xs w (DemsAre n L w) :=
  hc.mono fun e w' ⟨B, d, he, hr, hd, hb⟩ => by
    subst h hn
    exact ⟨B, d, he, hr, hd, hb⟩
theorem OneIs.to {u v : Value} {w : World} {f : FuncId} {xs : Array Value} (h : u = v) (hc : Calls Try.prog f xs w (OneIs u w)) : Calls Try.prog f xs w (OneIs v w) := by subst h; exact hc
theorem dem_row1 (w : World) (y : Dm.Dem) {g : Nat} (hg : w.heap.size = g) : LDem.Row (w.alloc (.cells #[.int .i64 y.pt, .int .i64 y.pos] 32)) (some ⟨g, 0, none⟩) [y] := hg ▸ Lies.Row.fresh (E := LDem) w [y] 32
theorem dem_row2 (w : World) (y z : Dm.Dem) {g : Nat} (hg : w.heap.size = g) : LDem.Row (w.alloc (.cells #[.int .i64 y.pt, .int .i64 y.pos, .int .i64 z.pt, .int .i64 z.pos] 32)) (some ⟨g, 0, none⟩) [y, z] := hg ▸ Lies.Row.fresh (E := LDem) w [y, z] 32
theorem stp_row1 (w : World) (y : Wk.Stp) {g : Nat} (hg : w.heap.size = g) : LStp.Row (w.alloc (.cells #[.int .i64 y.s, .int .i64 y.f, .int .i64 y.t] 34)) (some ⟨g, 0, none⟩) [y] := hg ▸ Lies.Row.fresh (E := LStp) w [y] 34
set_option maxHeartbeats 8000000 in
set_option maxRecDepth 100000 in
theorem dmAwake_any (w : World) : Calls Try.prog 7 #[] w fun e w' => e = .returned (.bool true) ∧ Below w.heap.size w w' := by
  --[
  have CM := Lib.hid (fun W => made_some made_exD W)
  have C1 := Lib.hid (DemsAre.of (n := 1) awD_put1 rfl (pdPut_any none 0 [] ⟨5, 1⟩ w (.inl rfl) (by decide) (by decide)))
  go_enter Try.func7, Try.ntmps7
  go_wp2_with fail
  refine C1.out.mono ?_; rintro e w1 ⟨B1, d1, rfl, hR1, hd1, hb1⟩
  have Y1 := Lib.hid hb1
  have C2 := Lib.hid (DemsAre.of (n := 2) awD_put2 rfl (pdPut_any B1 d1 [⟨5, 1⟩] ⟨2, 2⟩ w1 hR1 (by decide) hd1))
  clear hR1 hd1 hb1 C1
  go_wp2_with fail
  refine C2.out.mono ?_; rintro e w2 ⟨B2, d2, rfl, hR2, hd2, hb2⟩
  have Y2 := Lib.hid (Y1.out.trans (hb2.mono Y1.out.size))
  have R2 := Lib.hid hR2
  have C3 := Lib.hid (DemsAre.of (n := 2) awD_put3 rfl (pdPut_any B2 d2 [⟨2, 2⟩, ⟨5, 1⟩] ⟨5, 2⟩ w2 hR2 (by decide) hd2))
  clear hR2 hd2 hb2 C2
  go_wp2_with fail
  refine C3.out.mono ?_; rintro e w3 ⟨B3, d3, rfl, hR3, hd3, hb3⟩
  have Y3 := Lib.hid (Y2.out.trans (hb3.mono Y2.out.size))
  have R3 := Lib.hid hR3
  have R23 := Lib.hid (R2.out.below rfl hb3)
  clear hR3 hd3 hb3 C3
  go_wp2_with fail
  refine (CM.out _).mono ?_; rintro e w4 ⟨A, c, A', c', rfl, pin, hb4⟩
  have X4 := (Below.refl w4.heap.size w4).alloc (Nat.le_refl _) (planO awD A c A' c')
  have Z4 := hb4.trans (X4.mono hb4.size)
  have Y5 := Lib.hid (Y3.out.trans (Z4.mono Y3.out.size))
  have I5 := Lib.hid (pin.below X4)
  have R25 := Lib.hid (R23.out.below rfl Z4)
  have R35 := Lib.hid (R3.out.below rfl Z4)
  have RP := Lib.hid (heap_alloc_new w4 (planO awD A c A' c'))
  obtain ⟨⟨p0, p1, p2, p3, p4, p5⟩, -, gx⟩ := row6 RP.out
  clear hb4 pin CM X4 Z4
  go_upto_region 4 with fail
  generalize w4.alloc (planO awD A c A' c') = w5 at Y5 I5 R25 R35 RP p0 p1 p2 p3 p4 p5 gx ⊢
  have XS := (Below.refl w5.heap.size w5).alloc (Nat.le_refl _) (.cells #[.int .i64 0, .int .i64 2, .int .i64 0] 34)
  have C5 := Lib.hid (DemsAre.of (n := 1) awD_of rfl (pdOf_any awD awD_few A c A' c' [⟨0, 2, 0⟩] (some ⟨w5.heap.size, 0, none⟩) 1 _ (I5.out.below XS) (stp_row1 w5 ⟨0, 2, 0⟩ rfl) (by decide)))
  have X5 := Lib.hid XS
  clear XS
  go_wp2_with fail
  refine C5.out.mono ?_; rintro e w6 ⟨B6, d6, rfl, hR6, hd6, hb6⟩
  have Z6 := X5.out.trans (hb6.mono X5.out.size)
  have Y6 := Lib.hid (Y5.out.trans (Z6.mono Y5.out.size))
  have T6 := Lib.hid (Below.refl w6.heap.size w6)
  have R2 := Lib.hid (fun W (hW : Below w6.heap.size w6 W) => (R25.out.below rfl Z6).below rfl hW)
  have R3 := Lib.hid (fun W (hW : Below w6.heap.size w6 W) => (R35.out.below rfl Z6).below rfl hW)
  have R6 := Lib.hid (fun W (hW : Below w6.heap.size w6 W) => hR6.below rfl hW)
  clear p0 p1 p2 p3 p4 p5 gx R23 R25 R35 RP I5 C5 X5 Z6 hR6 hd6 hb6 Y1 Y2 Y3 Y5
  obtain ⟨b2, o2, rfl, g2, on2⟩ := (R2.out _ T6.out).at (k := 0) (by decide)
  obtain ⟨k0, -⟩ := dem_on on2
  rw [show o2 + 0 * LDem.m = o2 by omega] at k0
  have k0' : w6.cell? ⟨b2, o2, none⟩ = some (.int .i64 2) := k0
  clear on2 k0
  have S1 := Lib.hid (fun W (hW : Below w6.heap.size w6 W) => (OneIs.to (v := .bool true) rfl (rdSame_any (some ⟨b2, o2, none⟩) d2 [⟨2, 2⟩, ⟨5, 1⟩] B3 d3 [⟨2, 2⟩, ⟨5, 1⟩] W (R2.out _ hW) (by decide) (R3.out _ hW) (by decide))))
  have P5 := Lib.hid (fun W (hW : Below w6.heap.size w6 W) => (OneIs.to (v := .int .i64 1) rfl (pdPosition_any (some ⟨b2, o2, none⟩) d2 [⟨2, 2⟩, ⟨5, 1⟩] 5 W (R2.out _ hW) (by decide))))
  have P3 := Lib.hid (fun W (hW : Below w6.heap.size w6 W) => (OneIs.to (v := .int .i64 0) rfl (pdPosition_any (some ⟨b2, o2, none⟩) d2 [⟨2, 2⟩, ⟨5, 1⟩] 3 W (R2.out _ hW) (by decide))))
  go_wp2_with fail
  refine (S1.out _ T6.out).mono ?_; rintro e w7 ⟨rfl, hb⟩
  have T7 := Lib.hid hb
  clear hb k0' S1
  go_wp2_with fail
  refine (P5.out _ T7.out).mono ?_; rintro e w8 ⟨rfl, hb⟩
  have T8 := Lib.hid (T7.out.trans (hb.mono T7.out.size))
  clear hb P5
  go_wp2_with fail
  refine (P3.out _ T8.out).mono ?_; rintro e w9 ⟨rfl, hb⟩
  have T9 := Lib.hid (T8.out.trans (hb.mono T8.out.size))
  have G9 := T9.out.size
  have X9 := (Below.refl w9.heap.size w9).alloc (Nat.le_refl _) (.cells #[.int .i64 5, .int .i64 2] 32)
  have T9b := Lib.hid (T9.out.trans (X9.mono G9))
  have O1 := Lib.hid (OneIs.to (v := .bool true) rfl (pdOpposed_any (some ⟨b2, o2, none⟩) d2 [⟨2, 2⟩, ⟨5, 1⟩] (some ⟨w9.heap.size, 0, none⟩) 1 [⟨5, 2⟩] _ (R2.out _ T9b.out) (by decide) (dem_row1 w9 ⟨5, 2⟩ rfl) (by decide)))
  clear hb P3 X9 G9
  go_wp2_with fail
  refine O1.out.mono ?_; rintro e w10 ⟨rfl, hb⟩
  have T10 := Lib.hid (T9b.out.trans (hb.mono T9b.out.size))
  have G10 := T10.out.size
  have X10 := (Below.refl w10.heap.size w10).alloc (Nat.le_refl _) (.cells #[.int .i64 5, .int .i64 1, .int .i64 3, .int .i64 1] 32)
  have T10b := Lib.hid (T10.out.trans (X10.mono G10))
  have O2 := Lib.hid (OneIs.to (v := .bool false) rfl (pdOpposed_any (some ⟨b2, o2, none⟩) d2 [⟨2, 2⟩, ⟨5, 1⟩] (some ⟨w10.heap.size, 0, none⟩) 2 [⟨5, 1⟩, ⟨3, 1⟩] _ (R2.out _ T10b.out) (by decide) (dem_row2 w10 ⟨5, 1⟩ ⟨3, 1⟩ rfl) (by decide)))
  clear hb O1 X10 G10
  go_wp2_with fail
  refine O2.out.mono ?_; rintro e w11 ⟨rfl, hb⟩
  have T11 := Lib.hid (T10b.out.trans (hb.mono T10b.out.size))
  have G11 := T11.out.size
  have X11 := (Below.refl w11.heap.size w11).alloc (Nat.le_refl _) (.cells #[.int .i64 0, .int .i64 2] 32)
  have T11b := Lib.hid (T11.out.trans (X11.mono G11))
  have S2 := Lib.hid (OneIs.to (v := .bool true) rfl (rdSame_any B6 d6 [⟨0, 2⟩] (some ⟨w11.heap.size, 0, none⟩) 1 [⟨0, 2⟩] _ (R6.out _ T11b.out) (by decide) (dem_row1 w11 ⟨0, 2⟩ rfl) (by decide)))
  clear hb O2 X11 G11
  go_wp2_with fail
  refine S2.out.mono ?_; rintro e w12 ⟨rfl, hb⟩
  have YF := Lib.hid (Y6.out.trans ((T11b.out.trans (hb.mono T11b.out.size)).mono Y6.out.size))
  clear hb S2
  go_wp2_with fail
  go_ret
  exact ⟨rfl, YF.out⟩
  --]
end Go.Proofs.Ytkdgcibkjhhpoaa
