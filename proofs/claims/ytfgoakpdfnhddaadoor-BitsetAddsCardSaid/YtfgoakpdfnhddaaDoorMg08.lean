/-
  Texts of this claim, merged: BsAwake.
-/
import Derived.Test.YtfgoakpdfnhddaaDoorMg07
import Derived.Lib.LaidTab
/-
  The walk of layer 13's examples: they are as the document says.
-/
namespace Go.Proofs.YtfgoakpdfnhddaaDoor
open Go.RowKit

/-- The library's table, by its numbers. -/
def bitTabL : List Int := [0, 1, 28, 2, 29, 14, 24, 3, 30, 22, 20, 15, 25, 17, 4, 8, 31, 27, 13, 23, 21, 19, 16, 7, 26, 12, 18, 6, 11, 5, 10, 9]
theorem bitTab_named : Tryd.prog.globalNamed "math/bits.deBruijn32tab" = some 0 := by kernel_rfl
theorem bitTab_same : ∀ j, j < 32 → bitTabL.getD j 0 = ((Lib.deBruijn32tab.getD j 0 : Nat) : Int) := by decide +kernel
theorem BitTab.of {w : World} (h : Lib.TabIs Tryd.prog w "math/bits.deBruijn32tab" .u8 bitTabL) : BitTab w := fun j hj => by
  have := h.cell bitTab_named j (by simpa [bitTabL] using hj)
  rw [this, ← bitTab_same j hj]
theorem SetOwn.is {n : Nat} {L M : List Nat} {w : World} {f : FuncId} {xs : Array Value} (h : M = L) (hn : L.length = n) (hc : Calls Tryd.prog f xs w (SetOwn M w)) : Calls Tryd.prog f xs w (SetIs n L w) :=
  SetIs.of h hn (hc.mono fun _ _ h => h.yes)
/-- Numbers that a call leaves, their number told. -/
def NumsAre (n : Nat) (L : List Int) (w : World) (e : Ending) (w' : World) : Prop := ∃ B d, e = .returned (.slice B n d) ∧ LNum.Row w' B L ∧ n ≤ d ∧ Below w.heap.size w w'
theorem NumsAre.of {n : Nat} {L M : List Int} {w : World} {f : FuncId} {xs : Array Value} (h : M = L) (hn : L.length = n) (hc : Calls Tryd.prog f xs w (NumsYes M w)) : Calls Tryd.prog f xs w (NumsAre n L w) :=
  hc.mono fun e w' ⟨B, d, he, hr, hd, hb⟩ => by
    subst h hn
    exact ⟨B, d, he, hr, hd, hb⟩
theorem OneIs.to {u v : Value} {w : World} {f : FuncId} {xs : Array Value} (h : u = v) (hc : Calls Tryd.prog f xs w (OneIs u w)) : Calls Tryd.prog f xs w (OneIs v w) := by subst h; exact hc
theorem num_rowL (w : World) (L : List Int) (cs : Array Value) (hcs : cs = (LNum.all L).toArray) {g : Nat} (hg : w.heap.size = g) : LNum.Row (w.alloc (.cells cs 3)) (some ⟨g, 0, none⟩) L := by
  subst hcs
  exact hg ▸ Lies.Row.fresh (E := LNum) w L 3
/-- Has, where what it answers is known. -/
theorem has_is {A : Option Addr} {c n : Nat} {L : List Nat} {k : Int} {z : Bool} {w : World} (hk : -9223372036854775808 ≤ k ∧ k ≤ 9223372036854775807) (h : LWd.Row w A L) (hw : Bs.W32 L) (hn : L.length = n) (hl : n ≤ 1000000) (hz : Bs.has L k = z) :
    Calls Tryd.prog 14 #[.slice A n c, .int .i64 k] w (OneIs (.bool z) w) := by
  subst hn hz
  exact (bpHas_any A c L k w hk h hw (by omega)).mono fun e w' ⟨he, q, hq⟩ => ⟨he, by rw [hq]; exact below_drewN (Below.refl _ _) q⟩
set_option maxHeartbeats 16000000 in
set_option maxRecDepth 100000 in
theorem bsAwake_any (w : World) (hT : BitTab w) : Calls Tryd.prog 7 #[] w fun e w' => e = .returned (.bool true) ∧ Below w.heap.size w w' := by
  --[
  have HT := Lib.hid hT
  have W02 : Bs.W32 [0, 2] := by unfold Bs.W32; decide
  have W42 : Bs.W32 [4, 2] := by unfold Bs.W32; decide
  have W21 : Bs.W32 [2, 1] := by unfold Bs.W32; decide
  have W00 : Bs.W32 [0, 0] := by unfold Bs.W32; decide
  have C1 := Lib.hid (SetOwn.is (n := 2) (show Bs.new 40 = [0, 0] by decide) rfl (bpNew_any 40 w (by omega)))
  clear hT
  go_enter Tryd.func7, Tryd.ntmps7
  go_wp2_with fail
  refine C1.out.mono ?_; rintro e w1 ⟨B1, d1, rfl, hR1, -, hb1⟩
  have Y1 := Lib.hid hb1
  have C2 := Lib.hid (SetOwn.is (n := 2) (show Bs.put [0, 0] 33 = [0, 2] by decide) rfl (bpWith_any B1 d1 [0, 0] 33 w1 (by omega) hR1 W00 (by decide)))
  clear hR1 hb1 C1
  go_wp2_with fail
  refine C2.out.mono ?_; rintro e w2 ⟨B, d, rfl, hR2, -, hb2⟩
  have Y2 := Lib.hid (Y1.out.trans (hb2.mono Y1.out.size))
  have RL2 := Lib.hid hR2
  have X2 := (Below.refl w2.heap.size w2).alloc (Nat.le_refl _) (.cells #[.int .i64 33, .int .i64 2, .int .i64 2, .int .i64 40, .int .i64 (-1)] 3)
  have RL2' := Lib.hid (hR2.below rfl X2)
  have Y2' := Lib.hid (Y2.out.trans (X2.mono Y2.out.size))
  have C3 := Lib.hid (SetOwn.is (n := 2) (show Bs.ofL 40 [33, 2, 2, 40, -1] = [4, 2] by decide) rfl (bpOf_any 40 (some ⟨w2.heap.size, 0, none⟩) 5 [33, 2, 2, 40, -1] (w2.alloc (.cells #[.int .i64 33, .int .i64 2, .int .i64 2, .int .i64 40, .int .i64 (-1)] 3)) (by omega) (num_rowL w2 _ _ rfl rfl) (by decide) (by decide)))
  clear hR2 hb2 C2 X2
  go_wp2_with fail
  refine C3.out.mono ?_; rintro e w3 ⟨M, f, rfl, hR3, -, hb3⟩
  have Y3 := Lib.hid (Y2'.out.trans (hb3.mono Y2'.out.size))
  have RL := Lib.hid (RL2'.out.below rfl hb3)
  have RM := Lib.hid hR3
  obtain ⟨bl, ol, rfl, hbl, hcl⟩ := wd_at RL.out (k := 1) (by decide)
  rw [show ([0, 2] : List Nat).getD 1 0 = 2 from rfl] at hcl
  have H1 := Lib.hid (has_is (c := d) (n := 2) (k := 33) (z := true) (by omega) RL.out W02 rfl (by decide) (by decide))
  clear hb3 hR3 C3 RL2 RL2' Y1 Y2 Y2'
  go_wp2_with fail
  refine H1.out.mono ?_; rintro e w4 ⟨rfl, hb4⟩
  have Y4 := Lib.hid (Y3.out.trans (hb4.mono Y3.out.size))
  have RL4 := Lib.hid (RL.out.below rfl hb4)
  have RM4 := Lib.hid (RM.out.below rfl hb4)
  have H1 := Lib.hid (has_is (c := d) (n := 2) (k := 1) (z := false) (by omega) RL4.out W02 rfl (by decide) (by decide))
  clear hb4 hbl hcl RL RM Y3
  go_wp2_with fail
  refine H1.out.mono ?_; rintro e w5 ⟨rfl, hb5⟩
  have Y5 := Lib.hid (Y4.out.trans (hb5.mono Y4.out.size))
  have RL5 := Lib.hid (RL4.out.below rfl hb5)
  have RM5 := Lib.hid (RM4.out.below rfl hb5)
  have H1 := Lib.hid (has_is (c := d) (n := 2) (k := 64) (z := false) (by omega) RL5.out W02 rfl (by decide) (by decide))
  clear hb5 RL4 RM4 Y4
  go_wp2_with fail
  refine H1.out.mono ?_; rintro e w6 ⟨rfl, hb6⟩
  have Y6 := Lib.hid (Y5.out.trans (hb6.mono Y5.out.size))
  have RL6 := Lib.hid (RL5.out.below rfl hb6)
  have RM6 := Lib.hid (RM5.out.below rfl hb6)
  have H1 := Lib.hid (has_is (c := d) (n := 2) (k := -1) (z := false) (by omega) RL6.out W02 rfl (by decide) (by decide))
  clear hb6 RL5 RM5 Y5
  go_wp2_with fail
  refine H1.out.mono ?_; rintro e w7 ⟨rfl, hb7⟩
  have Y7 := Lib.hid (Y6.out.trans (hb7.mono Y6.out.size))
  have RL7 := Lib.hid (RL6.out.below rfl hb7)
  have RM7 := Lib.hid (RM6.out.below rfl hb7)
  have C8 := Lib.hid (NumsAre.of (n := 2) (show Bs.list [4, 2] = [2, 33] by decide) rfl (bpList_any M f [4, 2] w7 RM7.out W42 (by decide) (HT.out.below rfl Y7.out)))
  clear hb7 RL6 RM6 Y6 H1
  go_wp2_with fail
  refine C8.out.mono ?_; rintro e w8 ⟨B8, d8, rfl, hR8, -, hb8⟩
  have Y8 := Lib.hid (Y7.out.trans (hb8.mono Y7.out.size))
  have RL8 := Lib.hid (RL7.out.below rfl hb8)
  have RM8 := Lib.hid (RM7.out.below rfl hb8)
  have X8 := (Below.refl w8.heap.size w8).alloc (Nat.le_refl _) (.cells #[.int .i64 2, .int .i64 33] 3)
  have RL8' := Lib.hid (RL8.out.below rfl X8)
  have RM8' := Lib.hid (RM8.out.below rfl X8)
  have Y8' := Lib.hid (Y8.out.trans (X8.mono Y8.out.size))
  have C9 := Lib.hid (OneIs.to (v := .bool true) (congrArg Value.bool (by decide)) (rtInts_any B8 d8 2 [2, 33] (some ⟨w8.heap.size, 0, none⟩) 2 2 [2, 33] (w8.alloc (.cells #[.int .i64 2, .int .i64 33] 3)) rfl (hR8.below rfl X8) (by decide) rfl (num_rowL w8 _ _ rfl rfl)))
  clear hb8 hR8 RL7 RM7 Y7 C8 X8 Y8 RL8 RM8
  go_wp2_with fail
  refine C9.out.mono ?_; rintro e w9 ⟨rfl, hb9⟩
  have Y9 := Lib.hid (Y8'.out.trans (hb9.mono Y8'.out.size))
  have RL9 := Lib.hid (RL8'.out.below rfl hb9)
  have RM9 := Lib.hid (RM8'.out.below rfl hb9)
  have CA := Lib.hid (OneIs.to (v := .bool true) (congrArg Value.bool (by decide)) (bpMeet_any (some ⟨bl, ol, none⟩) d [0, 2] M f [4, 2] w9 RL9.out W02 (by decide) RM9.out W42 (by decide)))
  clear hb9 C9 RL8' RM8' Y8'
  go_wp2_with fail
  refine CA.out.mono ?_; rintro e wA ⟨rfl, hbA⟩
  have YA := Lib.hid (Y9.out.trans (hbA.mono Y9.out.size))
  have RLA := Lib.hid (RL9.out.below rfl hbA)
  have XA := (Below.refl wA.heap.size wA).alloc (Nat.le_refl _) (.cells #[.int .i64 1, .int .i64 32] 3)
  have RLA' := Lib.hid (RLA.out.below rfl XA)
  have YA' := Lib.hid (YA.out.trans (XA.mono YA.out.size))
  have CB := Lib.hid (SetOwn.is (n := 2) (show Bs.ofL 40 [1, 32] = [2, 1] by decide) rfl (bpOf_any 40 (some ⟨wA.heap.size, 0, none⟩) 2 [1, 32] (wA.alloc (.cells #[.int .i64 1, .int .i64 32] 3)) (by omega) (num_rowL wA _ _ rfl rfl) (by decide) (by decide)))
  clear hbA CA XA YA RLA RM9
  go_wp2_with fail
  refine CB.out.mono ?_; rintro e wB ⟨N, g, rfl, hRN, -, hbB⟩
  have YB := Lib.hid (YA'.out.trans (hbB.mono YA'.out.size))
  have CC := Lib.hid (OneIs.to (v := .bool false) (congrArg Value.bool (by decide)) (bpMeet_any (some ⟨bl, ol, none⟩) d [0, 2] N g [2, 1] wB (RLA'.out.below rfl hbB) W02 (by decide) hRN W21 (by decide)))
  clear hbB hRN CB YA' RLA'
  go_wp2_with fail
  refine CC.out.mono ?_; rintro e wC ⟨rfl, hbC⟩
  have YC := Lib.hid (YB.out.trans (hbC.mono YB.out.size))
  have CD := Lib.hid (SetOwn.is (n := 0) (show Bs.new 0 = [] by decide) rfl (bpNew_any 0 wC (by omega)))
  clear hbC CC YB
  go_wp2_with fail
  refine CD.out.mono ?_; rintro e wD ⟨BD, dD, rfl, -, -, hbD⟩
  have YD := Lib.hid (YC.out.trans (hbD.mono YC.out.size))
  have CE := Lib.hid (SetOwn.is (n := 1) (show Bs.new 32 = [0] by decide) rfl (bpNew_any 32 wD (by omega)))
  clear hbD CD YC
  go_wp2_with fail
  refine CE.out.mono ?_; rintro e wE ⟨BE, dE, rfl, -, -, hbE⟩
  have YE := Lib.hid (YD.out.trans (hbE.mono YD.out.size))
  clear hbE CE YD
  go_wp2_with fail
  go_ret
  exact ⟨rfl, YE.out⟩
  --]
end Go.Proofs.YtfgoakpdfnhddaaDoor
