/-
  The walk of layer 2's awake: the document's examples come out as they should.
-/
import Derived.Test.YthkijjlhecpecaaDoorLnRef
namespace Go.Proofs.YthkijjlhecpecaaDoor
open Go.RowKit

def GivesN (n : Nat) (L : List (List UInt8)) (b : Bool) (w : World) (e : Ending) (w' : World) : Prop :=
  ∃ A c, n ≤ c ∧ e = .returned (.tuple #[.slice A n c, .bool b]) ∧ Strs w' A L ∧ Below w.heap.size w w'
theorem GivesList.n {n : Nat} {L L' : List (List UInt8)} {b b' : Bool} {w w' : World} {e : Ending} (h : GivesList L b w e w') (hL : L = L') (hb : b = b') (hn : L'.length = n) : GivesN n L' b' w e w' := by
  subst hn hL hb; exact h

set_option maxHeartbeats 4000000 in
set_option maxRecDepth 100000 in
theorem awake_any (w : World) (hM : MaxOk w) :
    Calls Tryd.prog 8 #[] w fun e w' => e = .returned (.bool true) ∧ Below w.heap.size w w' := by
  have C1 := Lib.hid (fun w h => (split_any ⟨#[111, 110, 101, 10, 116, 119, 111, 10]⟩ w h (by decide)).mono fun _ _ h => GivesList.n (n := 2) h (L' := [[111, 110, 101], [116, 119, 111]]) (b' := true) (by decide) (by decide) rfl)
  have C2 := Lib.hid (fun w h => (split_any ⟨#[111, 110, 101, 10, 116, 119, 111]⟩ w h (by decide)).mono fun _ _ h => GivesList.n (n := 2) h (L' := [[111, 110, 101], [116, 119, 111]]) (b' := false) (by decide) (by decide) rfl)
  have C3 := Lib.hid (fun w h => (split_any ⟨#[]⟩ w h (by decide)).mono fun _ _ h => GivesList.n (n := 0) h (L' := []) (b' := true) (by decide) (by decide) rfl)
  have C4 := Lib.hid (fun w h => (words_any ⟨#[106, 111, 105, 110, 32, 87, 46, 98, 32, 80, 46, 116]⟩ w h (by decide)).mono fun _ _ h => GivesList.n (n := 3) h (L' := [[106, 111, 105, 110], [87, 46, 98], [80, 46, 116]]) (b' := true) (by decide) (by decide) rfl)
  have C5 := Lib.hid (fun w h => (words_any ⟨#[106, 111, 105, 110, 32, 32, 87, 46, 98]⟩ w h (by decide)).mono fun _ _ h => GivesList.n (n := 0) h (L' := []) (b' := false) (by decide) (by decide) rfl)
  have C6 := Lib.hid (fun w h => (words_any ⟨#[]⟩ w h (by decide)).mono fun _ _ h => GivesList.n (n := 0) h (L' := []) (b' := false) (by decide) (by decide) rfl)
  have HM := Lib.hid hM
  clear hM
  go_enter Tryd.func8, Tryd.ntmps8
  go_wp2_with fail
  refine (C1.out _ HM.out).mono ?_; rintro e w1 ⟨A1, c1, _, rfl, hs1, hb1⟩
  have HM1 := Lib.hid (HM.out.below rfl hb1)
  go_wp2_with fail
  refine (C2.out _ HM1.out).mono ?_; rintro e w2 ⟨A2, c2, _, rfl, hs2, hb2⟩
  have HM2 := Lib.hid (HM1.out.below rfl hb2)
  go_wp2_with fail
  refine (C3.out _ HM2.out).mono ?_; rintro e w3 ⟨A3, c3, _, rfl, hs3, hb3⟩
  have HM3 := Lib.hid (HM2.out.below rfl hb3)
  go_wp2_with fail
  refine (C4.out _ HM3.out).mono ?_; rintro e w4 ⟨A4, c4, h4c, rfl, hs4, hb4⟩
  have HM4 := Lib.hid (HM3.out.below rfl hb4)
  go_wp2_with fail
  refine (C5.out _ HM4.out).mono ?_; rintro e w5 ⟨A5, c5, _, rfl, hs5, hb5⟩
  have HM5 := Lib.hid (HM4.out.below rfl hb5)
  go_wp2_with fail
  refine (C6.out _ HM5.out).mono ?_; rintro e w6 ⟨A6, c6, _, rfl, hs6, hb6⟩
  have S1 := Lib.hid (((((hs1.below rfl hb2).below rfl hb3).below rfl hb4).below rfl hb5).below rfl hb6)
  have S4 := Lib.hid ((hs4.below rfl hb5).below rfl hb6)
  obtain ⟨a2, rfl, _, x2⟩ := ((((hs2.below rfl hb3).below rfl hb4).below rfl hb5).below rfl hb6) 1 [116, 119, 111] rfl
  obtain ⟨a4, rfl, _, x4⟩ := S4.out 2 [80, 46, 116] rfl
  have y2 : w6.cell? (a2.add 1) = some (.string ⟨#[116, 119, 111]⟩) := x2
  have y4 : w6.cell? (a4.add 2) = some (.string ⟨#[80, 46, 116]⟩) := x4
  have z2 : w6.cell? { block := a2.block, off := a2.off + 1 } = some (.string ⟨#[116, 119, 111]⟩) := x2
  have z4 : w6.cell? { block := a4.block, off := a4.off + 2 } = some (.string ⟨#[80, 46, 116]⟩) := x4
  have T : Hid (Calls Tryd.prog 14 #[.slice A1 2 c1] w6 fun e w' => e = .returned (.string ⟨#[111, 110, 101, 10, 116, 119, 111, 10]⟩) ∧ Below w6.heap.size w6 w') := Lib.hid (text_any A1 c1 [[111, 110, 101], [116, 119, 111]] w6 S1.out (by decide) (by decide))
  have T4 := Lib.hid (fun w7 (h : Below w6.heap.size w6 w7) => (show Calls Tryd.prog 16 #[.slice (some a4) 3 c4] w7 fun e w' => e = .returned (.string ⟨#[106, 111, 105, 110, 32, 87, 46, 98, 32, 80, 46, 116]⟩) ∧ Below w7.heap.size w7 w' from
    line_any (some a4) c4 [[106, 111, 105, 110], [87, 46, 98], [80, 46, 116]] w7 (S4.out.below rfl h) h4c (by decide) (by decide)))
  have BB := Lib.hid (((((hb1.trans (hb2.mono hb1.size)).trans (hb3.mono (Nat.le_trans hb1.size hb2.size))).trans (hb4.mono (Nat.le_trans (Nat.le_trans hb1.size hb2.size) hb3.size))).trans (hb5.mono (Nat.le_trans (Nat.le_trans (Nat.le_trans hb1.size hb2.size) hb3.size) hb4.size))).trans (hb6.mono (Nat.le_trans (Nat.le_trans (Nat.le_trans (Nat.le_trans hb1.size hb2.size) hb3.size) hb4.size) hb5.size)))
  clear x2 x4 hs1 hs2 hs3 hs4 hs5 hs6 C1 C2 C3 C4 C5 C6 HM HM1 HM2 HM3 HM4 HM5 hb1 hb2 hb3 hb4 hb5 hb6 h4c
  go_wp2_with fail
  refine T.out.mono ?_; rintro e w7 ⟨rfl, hb7⟩
  go_wp2_with fail
  refine (T4.out _ hb7).mono ?_; rintro e w8 ⟨rfl, hb8⟩
  go_wp2
  go_ret
  have hz := BB.out.size
  have hz7 := hb7.size
  exact ⟨rfl, (BB.out.trans (hb7.mono hz)).trans (hb8.mono (by omega))⟩
end Go.Proofs.YthkijjlhecpecaaDoor
