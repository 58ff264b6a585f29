/-
  The walk of the law SheetFaults: it returns true.
-/
import Derived.Test.YtgagandecjljoaaDoorShAwake
namespace Go.Proofs.YtgagandecjljoaaDoor
open Go.RowKit

/-- What Parse leaves, as to the fault alone. -/
def FaultGives (b : Option Nat) (w : World) (e : Ending) (w' : World) : Prop :=
  ∃ A m c, ∃ x n : Int, e = .returned (.tuple #[.slice A m c, .agg #[.int .i64 x, .int .i64 n]]) ∧ (∀ k, b = some k → (x == 2 && n == (k : Int) + 1) = true) ∧ (b = none → (x == 0 && n == 0) = true) ∧ Below w.heap.size w w'
theorem sparse_f (s : ByteArray) (w : World) (hE : Env w) (hs : s.size ≤ 1000000) :
    Calls Tryd.prog 9 #[.string s] w (FaultGives (Sh.bad (Ln.whole s.data.toList) (Ln.split s.data.toList)) w) := by
  refine (sparse_any s w hE hs).mono fun e w' h => ?_
  cases hb : Sh.bad (Ln.whole s.data.toList) (Ln.split s.data.toList) with
  | none =>
    rw [Sh.parse_none hb] at h
    obtain ⟨A, c, _, he, _, hbel⟩ := h
    exact ⟨A, _, c, 0, 0, he, (fun k hk => by cases hk), (fun _ => rfl), hbel⟩
  | some k =>
    rw [Sh.parse_some hb] at h
    obtain ⟨A, c, _, he, _, hbel⟩ := h
    refine ⟨A, _, c, 2, (k : Int) + 1, by rw [he, faultV, if_neg (by omega)]; rfl, fun j hj => ?_, (fun h => by cases h), hbel⟩
    cases hj
    simp
set_option maxHeartbeats 4000000 in
set_option maxRecDepth 100000 in
theorem sheetFaults_walk (s : ByteArray) (W : World) (ws : s.size ≤ maxLen) (hE : Env W) :
    Calls Tryd.prog 5 #[.string s] W fun e w' => e = .returned (.bool true) ∧ Below W.heap.size W w' := by
  unfold maxLen at ws
  have AW := Lib.hid sawake_any
  by_cases hlong : 800 < s.size
  · have h1 : decide (800 < (s.size : Int)) = true := dec_t (by omega)
    have HE := Lib.hid hE
    clear hlong hE
    go_enter Tryd.func5, Tryd.ntmps5
    go_wp2_with fail
    refine (AW.out _ HE.out).mono ?_; rintro e w1 ⟨rfl, hb1⟩
    go_wp2
    go_ret
    exact ⟨rfl, hb1⟩
  · have h1 : decide (800 < (s.size : Int)) = false := dec_f (by omega)
    have hsz : s.data.toList.length = s.size := by simp
    obtain ⟨hle, hln⟩ := Sh.split_le s.data.toList
    have hs6 : s.size ≤ 1000000 := by omega
    have C0 := sparse_f s W hE hs6
    have D0 := fun w => rsplit_any s w hs6
    obtain ⟨L, hL⟩ : ∃ L, Ln.split s.data.toList = L := ⟨_, rfl⟩
    obtain ⟨wh, hwh⟩ : ∃ wh, Ln.whole s.data.toList = wh := ⟨_, rfl⟩
    rw [hL, hwh] at C0
    rw [hL, hwh] at D0
    rw [hL] at hle hln
    have LE := Lib.hid (fun x hx => Nat.le_trans (hle x hx) (show s.data.toList.length ≤ 1000000 by omega))
    have hlen : L.length ≤ 1000001 := by omega
    have C := Lib.hid C0
    have D := Lib.hid D0
    have HE := Lib.hid hE
    clear hlong hE hsz hle hln hL hwh hs6 C0 D0
    go_enter Tryd.func5, Tryd.ntmps5
    go_wp2_with fail
    refine C.out.mono ?_; rintro e w1 ⟨A1, m1, c1, x, n, rfl, hx, hn, hb1⟩
    have FQ := Lib.hid hx
    have FN := Lib.hid hn
    have hb1' := (Below.refl w1.heap.size w1).alloc (Nat.le_refl _) (.cells #[.int .i64 x, .int .i64 n] 27)
    have HE1 := Lib.hid ((HE.out.below rfl hb1).below rfl hb1')
    have hbV := Lib.hid (hb1.trans (hb1'.mono hb1.size))
    clear hx hn hb1 hb1'
    go_wp2_with fail
    refine (D.out _).mono ?_; rintro e w2 ⟨A, c, hc, rfl, hs1, hb2⟩
    have HE2 := Lib.hid (HE1.out.below rfl hb2)
    have R2 := Lib.hid (fresh_row hb2)
    have hbW := Lib.hid (hbV.out.trans (hb2.mono hbV.out.size))
    clear hb2
    go_wp2_with fail
    go_loopw [7] (fun i wr => ∃ k : Nat, k ≤ L.length ∧ i = .int .i64 k ∧ (∀ j < k, Sh.good wh L j = true) ∧ Below w2.heap.size w2 wr) (fun i _ => L.length - (intOf i).toNat)
    case atStart => exact ⟨0, Nat.zero_le _, rfl, fun j hj => absurd hj (by omega), Below.refl _ _⟩
    case round =>
      obtain ⟨k, hk, rfl, hg, hbel⟩ := hrel
      have HG := Lib.hid hg
      clear hg
      have hz := hbel.size
      by_cases hlt : k < L.length
      · obtain ⟨a', rfl, hb, hcell⟩ := (hs1.below rfl hbel).cell hlt
        rw [str] at hcell
        have PC := Lib.hid (riparse_any (txt L[k]) wr (by rw [txt_size]; exact LE.out _ (List.getElem_mem hlt)))
        rw [txt_toList] at PC
        go_wp2_with fail
        refine PC.out.mono ?_; rintro e w3 ⟨y, rfl, hyy, hb3⟩
        cases hpk : It.parse L[k] with
        | none =>
          have FX := FQ.out k (Sh.bad_at hlt HG.out (good_n hlt hpk))
          clear hpk hyy
          rw [Option.isSome_none]
          have Q := fun W => (bin_fault W x n 2 ((k : Int) + 1)).trans (by rw [FX])
          have HE3 := Lib.hid (((HE2.out.below rfl hbel).below rfl hb3).below rfl (((Below.refl w3.heap.size w3).alloc (Nat.le_refl _) (.cells (cells7 y).toArray 38))))
          have hbX := Lib.hid (hbW.out.trans (((hbel.trans (hb3.mono hz)).alloc (Nat.le_trans hz hb3.size) (.cells (cells7 y).toArray 38)).mono hbW.out.size))
          have R3 := Lib.hid (show (w3.alloc (.cells (cells7 y).toArray 38)).heap[w1.heap.size]? = some (.cells #[.int .i64 x, .int .i64 n] 27 (0, 0)) from stay_row (stay_row (stay_row R2.out hbel) hb3) ((Below.refl w3.heap.size w3).alloc (Nat.le_refl _) (.cells (cells7 y).toArray 38)))
          clear hs1 hbel hb3 HE2
          go_wp2_with fail
          refine (AW.out _ HE3.out).mono ?_; rintro e w4 ⟨rfl, hb4⟩
          obtain ⟨⟨p0, p1⟩, _⟩ := row2 (stay_row R3.out hb4)
          go_wp2_with fail
          go_ret
          exact ⟨rfl, hbX.out.trans (hb4.mono hbX.out.size)⟩
        | some z =>
          obtain rfl : y = z := by rw [hpk] at hyy; exact hyy
          clear hyy
          rw [Option.isSome_some]
          by_cases hend : wh = true ∨ k + 1 < L.length
          · have HN := Lib.hid (good_next HG.out (good_t hlt hpk hend))
            clear hpk
            by_cases hl : k + 1 < L.length
            · have h2 : ((k : Int) == (L.length : Int) - 1) = false := by rw [beq_eq_false_iff_ne]; omega
              clear hend hl
              have HB := Lib.hid ((hbel.trans (hb3.mono hz)).alloc (Nat.le_trans hz hb3.size) (.cells (cells7 y).toArray 38))
              go_wp2_with fail
              go_roundw
              case rel => exact ⟨k + 1, by omega, by go_num, HN.out, HB.out⟩
              case measure => simp [intOf]; omega
            · have h2 : ((k : Int) == (L.length : Int) - 1) = true := by rw [beq_iff_eq]; omega
              obtain rfl : wh = true := by rcases hend with h | h; exact h; exact absurd h hl
              clear hend hl
              have HB := Lib.hid ((hbel.trans (hb3.mono hz)).alloc (Nat.le_trans hz hb3.size) (.cells (cells7 y).toArray 38))
              go_wp2_with fail
              go_roundw
              case rel => exact ⟨k + 1, by omega, by go_num, HN.out, HB.out⟩
              case measure => simp [intOf]; omega
          · obtain ⟨hw, hl⟩ : wh = false ∧ ¬ k + 1 < L.length := ⟨by cases wh <;> simp_all, fun h => hend (.inr h)⟩
            subst hw
            have FX := FQ.out k (Sh.bad_at hlt HG.out (good_l hlt hl))
            have h2 : ((k : Int) == (L.length : Int) - 1) = true := by rw [beq_iff_eq]; omega
            clear hpk hend hl
            have Q := fun W => (bin_fault W x n 2 ((k : Int) + 1)).trans (by rw [FX])
            have HE3 := Lib.hid (((HE2.out.below rfl hbel).below rfl hb3).below rfl (((Below.refl w3.heap.size w3).alloc (Nat.le_refl _) (.cells (cells7 y).toArray 38))))
            have hbX := Lib.hid (hbW.out.trans (((hbel.trans (hb3.mono hz)).alloc (Nat.le_trans hz hb3.size) (.cells (cells7 y).toArray 38)).mono hbW.out.size))
            have R3 := Lib.hid (show (w3.alloc (.cells (cells7 y).toArray 38)).heap[w1.heap.size]? = some (.cells #[.int .i64 x, .int .i64 n] 27 (0, 0)) from stay_row (stay_row (stay_row R2.out hbel) hb3) ((Below.refl w3.heap.size w3).alloc (Nat.le_refl _) (.cells (cells7 y).toArray 38)))
            clear hs1 hbel hb3 HE2
            go_wp2_with fail
            refine (AW.out _ HE3.out).mono ?_; rintro e w4 ⟨rfl, hb4⟩
            obtain ⟨⟨p0, p1⟩, _⟩ := row2 (stay_row R3.out hb4)
            go_wp2_with fail
            go_ret
            exact ⟨rfl, hbX.out.trans (hb4.mono hbX.out.size)⟩
      · have FX := FN.out (Sh.bad_no fun j hj => HG.out j (by omega))
        have Q := fun W => (bin_fault W x n 0 0).trans (by rw [FX])
        have HE3 := Lib.hid (HE2.out.below rfl hbel)
        have hbX := Lib.hid (hbW.out.trans (hbel.mono hbW.out.size))
        have R3 := Lib.hid (stay_row R2.out hbel)
        clear hs1 hbel HE2
        go_wp2_with fail
        refine (AW.out _ HE3.out).mono ?_; rintro e w4 ⟨rfl, hb4⟩
        obtain ⟨⟨p0, p1⟩, _⟩ := row2 (stay_row R3.out hb4)
        go_wp2_with fail
        go_ret
        exact ⟨rfl, hbX.out.trans (hb4.mono hbX.out.size)⟩
end Go.Proofs.YtgagandecjljoaaDoor

