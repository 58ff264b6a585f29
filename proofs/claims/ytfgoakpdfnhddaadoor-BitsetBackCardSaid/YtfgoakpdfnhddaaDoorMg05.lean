/-
  Texts of this claim, merged: BsPrC.
-/
import Derived.Test.YtfgoakpdfnhddaaDoorMg04
import Derived.Lib.MinMax
/-
  The walks of the program's layer 13: Meet, List.
-/
namespace Go.Proofs.YtfgoakpdfnhddaaDoor
open Go.RowKit

theorem num_row1 (w : World) (y : Int) {g : Nat} (hg : w.heap.size = g) : LNum.Row (w.alloc (.cells #[.int .i64 y] 3)) (some ⟨g, 0, none⟩) [y] := hg ▸ Lies.Row.fresh (E := LNum) w [y] 3
/-- Numbers that a call leaves. -/
def NumsYes (L : List Int) (w : World) (e : Ending) (w' : World) : Prop := ∃ B d, e = .returned (.slice B L.length d) ∧ LNum.Row w' B L ∧ L.length ≤ d ∧ Below w.heap.size w w'
theorem NumsYes.of_own {L : List Int} {w w' : World} {base n : Nat} {v : Value} (h : w'.ownsRow base 3 LNum.m v n (LNum.all L)) (hn : n = L.length) (hb : Below w.heap.size w w') : NumsYes L w (.returned v) w' := by
  subst hn
  obtain ⟨-, B, d, rfl, hc, hR⟩ := Lies.Row.of_own (E := LNum) h
  exact ⟨B, d, rfl, hR, hc, hb⟩
theorem infoNumB : (Tryd.prog.info? 3).map (fun i => (i.zero, i.size, i.bytes)) = some (some (.int .i64 0), 1, 8) := by kernel_rfl
set_option maxHeartbeats 4000000 in
set_option maxRecDepth 100000 in
theorem bpMeet_any (A : Option Addr) (c : Nat) (L : List Nat) (B : Option Addr) (d : Nat) (M : List Nat) (w : World) (h : LWd.Row w A L) (hw : Bs.W32 L) (hl : L.length ≤ 1000000) (h' : LWd.Row w B M) (hw' : Bs.W32 M) (_hl' : M.length ≤ 1000000) :
    Calls Tryd.prog 16 #[.slice A L.length c, .slice B M.length d] w (OneIs (.bool (Bs.meet L M)) w) := by
  --[
  have HR := Lib.hid h
  have HR' := Lib.hid h'
  have HW := Lib.hid hw
  have HW' := Lib.hid hw'
  have B0 := Lib.hid (Below.refl w.heap.size w)
  have HM := Lib.hid (show Bs.meet L M = Bs.meetTo L M (min L.length M.length) from rfl)
  have HMN := Lib.hid (show ((min L.length M.length : Nat) : Int) = min (L.length : Int) (M.length : Int) from by omega)
  have hm1 : min L.length M.length ≤ L.length := Nat.min_le_left _ _
  have hm2 : min L.length M.length ≤ M.length := Nat.min_le_right _ _
  clear h h' hw hw'
  go_enter Tryd.func16, Tryd.ntmps16
  go_wp2_with fail
  rw [← HMN.out]
  generalize min L.length M.length = m at hm1 hm2 HM ⊢
  clear HMN
  go_loopw [5, 11] (fun _ v w' => ∃ k : Nat, k ≤ m ∧ v = .int .i64 k ∧ Bs.meetTo L M k = false ∧ Below w.heap.size w w') (fun _ v _ => m - (intOf v).toNat)
  case atStart => exact ⟨0, Nat.zero_le _, rfl, rfl, B0.out⟩
  case round =>
    obtain ⟨k, hk, rfl, hp, hb⟩ := hrel
    have HB := Lib.hid hb
    have HP := Lib.hid hp
    clear hp
    by_cases hlt : k < m
    · obtain ⟨b, o, rfl, hb1, hc⟩ := wd_at (HR.out.below rfl hb) (show k < L.length by omega)
      obtain ⟨b', o', rfl, hb1', hc'⟩ := wd_at (HR'.out.below rfl hb) (show k < M.length by omega)
      have HS := Lib.hid (Bs.meetTo_succ L M k)
      have HT := Lib.hid (fun h => Bs.meet_of (a := L) (b := M) (i := k) (by omega) (by omega) h)
      have e := u32_and_nat (L.getD k 0) (M.getD k 0) (HW.out.at k) (HW'.out.at k)
      generalize L.getD k 0 = x at hc HS HT e
      generalize M.getD k 0 = y at hc' HS HT e
      generalize x &&& y = z at HS HT e
      have d1 : decide ((k : Int) < (m : Int)) = true := dec_t (by omega)
      have i0 : (0 : Int) ≤ (k : Int) := Int.natCast_nonneg k
      have i1 : (k : Int) < (L.length : Int) := by omega
      have i2 : (k : Int) < (M.length : Int) := by omega
      clear hb
      by_cases hz : z = 0
      · have E : ((z : Int) != 0) = false := by rw [bne_eq_false_iff_eq]; omega
        have HP2 := Lib.hid (show Bs.meetTo L M (k + 1) = false from by rw [HS.out, HP.out, hz]; rfl)
        clear hz HS HT
        go_upto_region 4 with fail
        go_quiet (fail)
        go_wp2_with fail
        go_roundw
        case rel => exact ⟨k + 1, by omega, by go_num, HP2.out, below_drewN HB.out _⟩
        case measure => simp [intOf]; omega
      · have E : ((z : Int) != 0) = true := by rw [bne_iff_ne]; omega
        have HP2 := Lib.hid (HT.out (by rw [bne_iff_ne]; exact hz))
        clear hz HS HT
        go_upto_region 4 with fail
        go_quiet (fail)
        go_wp2_with fail
        go_ret
        exact ⟨by rw [HP2.out] <;> rfl, below_drewN HB.out _⟩
    · obtain rfl : k = m := by omega
      have d1 : decide ((k : Int) < (k : Int)) = false := dec_f (by omega)
      rw [← HM.out] at HP
      clear hb
      go_wp2_with fail
      go_ret
      exact ⟨by rw [HP.out] <;> rfl, HB.out⟩
  --]
set_option maxHeartbeats 8000000 in
set_option maxRecDepth 100000 in
theorem bpList_any (A : Option Addr) (c : Nat) (L : List Nat) (w : World) (h : LWd.Row w A L) (hw : Bs.W32 L) (hl : L.length ≤ 1000000) (hT : BitTab w) :
    Calls Tryd.prog 21 #[.slice A L.length c] w (NumsYes (Bs.list L) w) := by
  --[
  have HR := Lib.hid h
  have HW := Lib.hid hw
  have HT := Lib.hid hT
  have B0 := Lib.hid (Below.refl w.heap.size w)
  have O0 := Lib.hid (show w.ownsRow w.heap.size 3 LNum.m (.slice none 0 0) (Bs.told L (32 * 0)).length (LNum.all (Bs.told L (32 * 0))) from ⟨rfl, .inl ⟨rfl, rfl⟩⟩)
  clear h hw hT
  obtain ⟨i0, hi, hz0, hz1, hz2⟩ := info_parts infoNumB
  go_enter Tryd.func21, Tryd.ntmps21
  go_wp2_with fail
  go_loopw [3, 4, 5, 8] (fun v3 _ _ v8 w' => ∃ k : Nat, k ≤ L.length ∧ v8 = .int .i64 k ∧ w'.ownsRow w.heap.size 3 LNum.m v3 (Bs.told L (32 * k)).length (LNum.all (Bs.told L (32 * k))) ∧ Below w.heap.size w w') (fun _ _ _ v8 _ => L.length - (intOf v8).toNat)
  case atStart => exact ⟨0, Nat.zero_le _, rfl, O0.out, B0.out⟩
  case round =>
    obtain ⟨k, hk, rfl, ho, hb⟩ := hrel
    have HB := Lib.hid hb
    have HO := Lib.hid ho
    clear ho
    by_cases hlt : k < L.length
    · obtain ⟨b, o, rfl, hb1, hc⟩ := wd_at (HR.out.below rfl hb) hlt
      have hx := HW.out.at k
      have HTW := Lib.hid (Bs.told_word L k)
      have HTL := Lib.hid (Bs.told_len L (32 * (k + 1)))
      generalize L.getD k 0 = x at hc hx HTW
      have d1 : decide ((k : Int) < (L.length : Int)) = true := dec_t (by omega)
      have i0' : (0 : Int) ≤ (k : Int) := Int.natCast_nonneg k
      have i1 : (k : Int) < (L.length : Int) := by omega
      clear hb
      go_wp2_with fail
      go_loopw [3, 5] (fun v3 v5 w' => ∃ (y : Nat) (X : List Int), y < 4294967296 ∧ v5 = .int .u32 y ∧ X ++ Bs.bitsOf k y = Bs.told L (32 * (k + 1)) ∧ w'.ownsRow w.heap.size 3 LNum.m v3 X.length (LNum.all X) ∧ Below w.heap.size w w') (fun _ v5 _ => (intOf v5).toNat)
      case atStart => exact ⟨x, Bs.told L (32 * k), hx, rfl, HTW.out.symm, HO.out, HB.out⟩
      case round =>
        clear hx hc hb1 HTW HO HB
        obtain ⟨y, X, hy, rfl, hX, ho, hb⟩ := hrel
        have HB := Lib.hid hb
        have HO := Lib.hid ho
        have HX := Lib.hid hX
        have HS := Lib.hid hb.size
        clear ho hX
        by_cases hz : y = 0
        · subst hz
          have E : (((0 : Nat) : Int) != 0) = false := by decide
          have HX2 := Lib.hid (show X = Bs.told L (32 * (k + 1)) from by have := HX.out; rwa [Bs.bitsOf_zero, List.append_nil] at this)
          clear hb
          go_wp2_with fail
          go_roundw
          case rel => exact ⟨k + 1, by omega, by go_num, by rw [← HX2.out]; exact HO.out, HB.out⟩
          case measure => simp [intOf]; omega
        · have E : ((y : Int) != 0) = true := by rw [bne_iff_ne]; omega
          obtain ⟨hs1, hs2⟩ := Bs.bitsOf_step k y hz hy
          have hle := Bs.and_pred_less hz
          have hpl := Bs.and_pred_lt hy
          have q0 : IntKind.u32.wrap ((y : Int) - 1) = ((y - 1 : Nat) : Int) := by rw [IntKind.wrap_u32']; omega
          have q1 := u32_and_nat y (y - 1) hy (by omega)
          have CZ := Lib.hid (fun W (hW : Below w.heap.size w W) => bpZeros_any y hz hy W (HT.out.below rfl hW))
          have hXl : X.length + 1 ≤ 32 * (k + 1) := by
            have := HTL.out
            rw [← HX.out, hs1, List.length_append, List.length_cons] at this
            omega
          have HX2 := Lib.hid (show (X ++ [((32 * k + Lib.ctz 32 y : Nat) : Int)]) ++ Bs.bitsOf k (y &&& (y - 1)) = Bs.told L (32 * (k + 1)) from by
            rw [List.append_assoc, ← HX.out, hs1]; rfl)
          generalize hcz : Lib.ctz 32 y = z at hs1 hs2 CZ HX2
          generalize hy2 : y &&& (y - 1) = y2 at hs1 hle hpl q1 HX2
          generalize hy1 : y - 1 = y1 at q0 q1 hy2
          have m0 : IntKind.i64.wrap ((k : Int) * 32) = ((32 * k : Nat) : Int) := by rw [IntWalk.i64_in _ (by omega)]; omega
          have m1 : IntKind.i64.wrap (((32 * k : Nat) : Int) + (z : Int)) = ((32 * k + z : Nat) : Int) := by rw [IntWalk.i64_in _ (by omega)]; omega
          generalize hp : 32 * k + z = p at m1 HX2
          generalize hp0 : 32 * k = p0 at m0 m1 hp
          have HLE := Lib.hid hle
          have HPL := Lib.hid hpl
          have HX1 := Lib.hid hXl
          clear hs1 hs2 hz hcz hy2 hy1 hp hp0 hle hpl hXl hb hk
          go_wp2_with fail
          refine (CZ.out _ HB.out).mono ?_; rintro e2 z2 ⟨rfl, rfl⟩
          have HR1 := Lib.hid (num_row1 z2 (p : Int) rfl)
          have HO1 := Lib.hid (HO.out.alloc (.cells #[.int .i64 (p : Int)] 3))
          have HB1 := Lib.hid (HB.out.alloc HS.out (.cells #[.int .i64 (p : Int)] 3))
          go_wp2_with (at_builtin; refine wpList_append_at LNum rfl (.tmp 15) (.tmp 21) 25 rfl w.heap.size 3 i0 _ 8 Tryd.underlying25 hi hz0 hz1 hz2 rfl _ X.length (LNum.all X) rfl HO1.out (some ⟨z2.heap.size, 0, none⟩) 1 1 [(p : Int)] rfl rfl HR1.out (by have := HX1.out; omega) (by have := HX1.out; omega) (by have := HS.out; simp; omega) ?_; intro v4 w4 hown4 hg4)
          have HB4 := Lib.hid (Below.grown HB1.out hg4 HB1.out.size (fun b hb => (HO1.out.lt b hb).1))
          have HO4 := Lib.hid (show w4.ownsRow w.heap.size 3 LNum.m v4 (X ++ [(p : Int)]).length (LNum.all (X ++ [(p : Int)])) from by rw [List.length_append, LNum.all_append]; exact hown4)
          clear hown4 hg4
          go_wp2_with fail
          go_roundw
          case rel => exact ⟨y2, X ++ [(p : Int)], HPL.out, rfl, HX2.out, HO4.out, HB4.out⟩
          case measure => simp [intOf]; exact HLE.out
    · obtain rfl : k = L.length := by omega
      have d1 : decide ((L.length : Int) < (L.length : Int)) = false := dec_f (by omega)
      clear hb
      go_wp2_with fail
      go_ret
      exact NumsYes.of_own HO.out rfl HB.out
  --]
end Go.Proofs.YtfgoakpdfnhddaaDoor
