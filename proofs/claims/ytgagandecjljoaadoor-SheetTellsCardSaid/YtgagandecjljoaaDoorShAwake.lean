/-
  The walk of layer 4's awake: the document's examples come out as they should.
-/
import Derived.Test.YtgagandecjljoaaDoorShShort
namespace Go.Proofs.YtgagandecjljoaaDoor
open Go.RowKit

/-- What Parse leaves of a text that is parsed: n items. -/
def SheetOk (n : Nat) (L : List It.Itm) (w : World) (e : Ending) (w' : World) : Prop :=
  ∃ A c, n ≤ c ∧ e = .returned (.tuple #[.slice A n c, .agg #[.int .i64 0, .int .i64 0]]) ∧ Its w' A L ∧ Below w.heap.size w w'
/-- What Parse leaves of a text of which line n is of no form. -/
def SheetNo (n : Int) (w : World) (e : Ending) (w' : World) : Prop :=
  ∃ A c, e = .returned (.tuple #[.slice A 0 c, .agg #[.int .i64 2, .int .i64 n]]) ∧ Below w.heap.size w w'
theorem SheetGives.ok {p : List It.Itm × Nat} {n : Nat} {L : List It.Itm} {w w' : World} {e : Ending} (h : SheetGives p w e w') (hp : p = (L, 0)) (hn : L.length = n) : SheetOk n L w e w' := by
  subst hp hn
  exact h
theorem SheetGives.no {p : List It.Itm × Nat} {n : Nat} {w w' : World} {e : Ending} (h : SheetGives p w e w') (hp : p = ([], n)) (hn : n ≠ 0) : SheetNo n w e w' := by
  subst hp
  obtain ⟨A, c, _, he, _, hb⟩ := h
  exact ⟨A, c, by rw [he, faultV, if_neg hn]; rfl, hb⟩
theorem sparse_ok {s : ByteArray} {L : List It.Itm} {n : Nat} (h : Sh.parse s.data.toList = (L, 0)) (hn : L.length = n) (hs : s.size ≤ 1000000) (w : World) (hE : Env w) :
    Calls Tryd.prog 9 #[.string s] w (SheetOk n L w) := (sparse_any s w hE hs).mono fun _ _ g => g.ok h hn
theorem sparse_no {s : ByteArray} {n : Nat} (h : Sh.parse s.data.toList = ([], n)) (hn : n ≠ 0) (hs : s.size ≤ 1000000) (w : World) (hE : Env w) :
    Calls Tryd.prog 9 #[.string s] w (SheetNo n w) := (sparse_any s w hE hs).mono fun _ _ g => g.no h hn
def awL : List It.Itm := [⟨5, [87], 9000, ⟨[], 0⟩, ⟨[], 0⟩⟩, ⟨8, [], 0, ⟨[87], 97⟩, ⟨[], 0⟩⟩, ⟨8, [], 0, ⟨[87], 98⟩, ⟨[], 0⟩⟩]
theorem awL_fits : ∀ y ∈ awL, FitsP y := by
  intro y hy
  simp [awL] at hy
  rcases hy with rfl | rfl | rfl <;> (unfold FitsP; decide)
set_option maxHeartbeats 8000000 in
set_option maxRecDepth 100000 in
theorem sawake_any (w : World) (hE : Env w) :
    Calls Tryd.prog 8 #[] w fun e w' => e = .returned (.bool true) ∧ Below w.heap.size w w' := by
  have C1 := Lib.hid (sparse_ok (s := ⟨#[115, 101, 99, 116, 105, 111, 110, 32, 87, 32, 57, 48, 48, 48, 10, 98, 117, 102, 102, 101, 114, 32, 87, 46, 97, 10, 98, 117, 102, 102, 101, 114, 32, 87, 46, 98, 10]⟩) (L := awL) (n := 3) (by decide +kernel) rfl (by decide))
  have C2 := Lib.hid (sparse_no (s := ⟨#[115, 101, 99, 116, 105, 111, 110, 32, 87, 32, 57, 48, 48, 48, 10, 115, 101, 99, 116, 105, 111, 110, 10]⟩) (n := 2) (by decide +kernel) (by decide) (by decide))
  have C3 := Lib.hid (sparse_no (s := ⟨#[115, 101, 99, 116, 105, 111, 110, 32, 87, 32, 57, 48, 48, 48]⟩) (n := 1) (by decide +kernel) (by decide) (by decide))
  have C4 := Lib.hid (sparse_ok (s := ⟨#[]⟩) (L := []) (n := 0) (by decide +kernel) rfl (by decide))
  have P1 := Lib.hid (fun A c w hE (h : Its w A awL) => show Calls Tryd.prog 12 #[.slice A 3 c] w fun e w' => e = .returned (.string ⟨#[115, 101, 99, 116, 105, 111, 110, 32, 87, 32, 57, 48, 48, 48, 10, 98, 117, 102, 102, 101, 114, 32, 87, 46, 97, 10, 98, 117, 102, 102, 101, 114, 32, 87, 46, 98, 10]⟩) ∧ Below w.heap.size w w' from by
    have := sprint_any A c awL w hE h (by decide) awL_fits (by decide +kernel)
    rwa [show txt (Sh.print awL) = ⟨#[115, 101, 99, 116, 105, 111, 110, 32, 87, 32, 57, 48, 48, 48, 10, 98, 117, 102, 102, 101, 114, 32, 87, 46, 97, 10, 98, 117, 102, 102, 101, 114, 32, 87, 46, 98, 10]⟩ by decide +kernel] at this)
  have Q := fun W => bin_fault W 0 0 0 0
  have Q2 := fun W => bin_fault W 2 2 2 2
  have Q3 := fun W => bin_fault W 2 1 2 1
  have H0 := Lib.hid hE
  clear hE
  go_enter Tryd.func8, Tryd.ntmps8
  go_wp2_with fail
  refine (C1.out _ H0.out).mono ?_; rintro e w1 ⟨A1, c1, hc1, rfl, its1, hb1⟩
  have X1 := Lib.hid ((Below.refl w1.heap.size w1).alloc (Nat.le_refl _) (.cells #[.int .i64 0, .int .i64 0] 27))
  have H1 := Lib.hid ((H0.out.below rfl hb1).below rfl X1.out)
  have I1 := Lib.hid (its1.below rfl X1.out)
  have B1 := Lib.hid (hb1.trans (X1.out.mono hb1.size))
  clear its1 hb1
  go_wp2_with fail
  refine (C2.out _ H1.out).mono ?_; rintro e w2 ⟨A2, c2, rfl, hb2⟩
  have X2 := Lib.hid ((Below.refl w2.heap.size w2).alloc (Nat.le_refl _) (.cells #[.int .i64 2, .int .i64 2] 27))
  have H2 := Lib.hid ((H1.out.below rfl hb2).below rfl X2.out)
  have I2 := Lib.hid ((I1.out.below rfl hb2).below rfl X2.out)
  have B2' := B1.out.trans (hb2.mono B1.out.size)
  have B2 := Lib.hid (B2'.trans (X2.out.mono B2'.size))
  have R12 := Lib.hid (fresh_row hb2)
  clear hb2 B2'
  go_wp2_with fail
  refine (C3.out _ H2.out).mono ?_; rintro e w3 ⟨A3, c3, rfl, hb3⟩
  have X3 := Lib.hid ((Below.refl w3.heap.size w3).alloc (Nat.le_refl _) (.cells #[.int .i64 2, .int .i64 1] 27))
  have H3 := Lib.hid ((H2.out.below rfl hb3).below rfl X3.out)
  have I3 := Lib.hid ((I2.out.below rfl hb3).below rfl X3.out)
  have B3' := B2.out.trans (hb3.mono B2.out.size)
  have B3 := Lib.hid (B3'.trans (X3.out.mono B3'.size))
  have R13 := Lib.hid (keep_row R12.out hb3)
  have R23 := Lib.hid (fresh_row hb3)
  clear hb3 B3'
  go_wp2_with fail
  refine (C4.out _ H3.out).mono ?_; rintro e w4 ⟨A4, c4, hc4, rfl, its4, hb4⟩
  have X4 := Lib.hid ((Below.refl w4.heap.size w4).alloc (Nat.le_refl _) (.cells #[.int .i64 0, .int .i64 0] 27))
  have H4 := Lib.hid ((H3.out.below rfl hb4).below rfl X4.out)
  have I4 := Lib.hid ((I3.out.below rfl hb4).below rfl X4.out)
  have B4' := B3.out.trans (hb4.mono B3.out.size)
  have B4 := Lib.hid (B4'.trans (X4.out.mono B4'.size))
  have R14 := Lib.hid (keep_row R13.out hb4)
  have R24 := Lib.hid (keep_row R23.out hb4)
  have R34 := Lib.hid (fresh_row hb4)
  clear hb4 B4' its4 R12 R13 R23 X1 X2 X3
  obtain ⟨⟨p0, p1⟩, hp⟩ := row2 R14.out
  have np := World.new_ne _ _ p0
  go_wp2_with fail
  refine (P1.out _ _ _ H4.out I4.out).mono ?_; rintro e w5 ⟨rfl, hb5⟩
  have B5 := Lib.hid (B4.out.trans (hb5.mono B4.out.size))
  obtain ⟨⟨q0, q1⟩, _⟩ := row2 (keep_row R24.out hb5)
  obtain ⟨⟨r0, r1⟩, _⟩ := row2 (keep_row R34.out hb5)
  obtain ⟨⟨t0, t1⟩, _⟩ := row2 (fresh_row hb5)
  clear hb5 p0 p1 hp np
  go_wp2_with fail
  go_ret
  exact ⟨rfl, B5.out⟩
end Go.Proofs.YtgagandecjljoaaDoor

