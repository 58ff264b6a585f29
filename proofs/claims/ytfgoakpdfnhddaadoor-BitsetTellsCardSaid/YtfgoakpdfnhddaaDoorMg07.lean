/-
  Texts of this claim, merged: BsRefB.
-/
import Derived.Test.YtfgoakpdfnhddaaDoorMg06
/-
  The walks of the document's layer 13: Meet, List, Same; layer 12's Ints.
-/
namespace Go.Proofs.YtfgoakpdfnhddaaDoor
open Go.RowKit

set_option maxHeartbeats 4000000 in
set_option maxRecDepth 100000 in
theorem rtInts_any (A : Option Addr) (c n : Nat) (L : List Int) (A' : Option Addr) (c' n' : Nat) (M : List Int) (w : World) (hn : L.length = n) (h : LNum.Row w A L) (hl : n ≤ 1000000) (hn' : M.length = n') (h' : LNum.Row w A' M) :
    Calls Tryd.prog 20 #[.slice A n c, .slice A' n' c'] w (OneIs (.bool (decide (L = M))) w) := by
  --[
  subst hn hn'
  have B0 := Lib.hid (Below.refl w.heap.size w)
  have HR := Lib.hid h
  have HR' := Lib.hid h'
  clear h h'
  by_cases hn : L.length = M.length
  · have E : ((L.length : Int) != (M.length : Int)) = false := by rw [bne_eq_false_iff_eq]; omega
    have HN := Lib.hid hn
    go_enter Tryd.func20, Tryd.ntmps20
    go_wp2_with fail
    go_loopw [5] (fun v w' => ∃ j : Nat, j ≤ L.length ∧ v = .int .i64 j ∧ L.take j = M.take j ∧ Below w.heap.size w w') (fun v _ => L.length - (intOf v).toNat)
    case atStart => exact ⟨0, Nat.zero_le _, rfl, rfl, B0.out⟩
    case round =>
      obtain ⟨j, hj, rfl, hp, hb⟩ := hrel
      by_cases hlt : j < L.length
      · have hy := List.getElem?_eq_getElem hlt
        have hy' := List.getElem?_eq_getElem (show j < M.length by omega)
        have HB := Lib.hid hb
        obtain ⟨b, o, rfl, hbb, on⟩ := (HR.out.below rfl hb).at hlt
        obtain ⟨b', o', rfl, hbb', on'⟩ := (HR'.out.below rfl hb).at (show j < M.length by omega)
        generalize L[j] = x at hy on
        generalize M[j] = y at hy' on'
        have c0 := num_on on
        have c0' := num_on on'
        rw [show j * LNum.m = j from Nat.mul_one j] at c0 c0'
        have d1 : decide ((j : Int) < (L.length : Int)) = true := dec_t (by omega)
        have i0 : (0 : Int) ≤ (j : Int) := Int.natCast_nonneg j
        have i1 : (j : Int) < (L.length : Int) := by omega
        have i1' : (j : Int) < (M.length : Int) := by omega
        have HY := Lib.hid (And.intro hy hy')
        have HP := Lib.hid hp
        clear hb hy hy' on on' hp E hn
        by_cases h1 : x = y
        · have E1 : (x != y) = false := by rw [bne_eq_false_iff_eq]; exact h1
          have HP2 := Lib.hid (show L.take (j + 1) = M.take (j + 1) from by
            rw [List.take_add_one, List.take_add_one, HY.out.1, HY.out.2, HP.out, h1])
          clear h1
          go_upto_region 6 with fail
          go_quiet (fail)
          go_wp2_with fail
          go_roundw
          case rel => exact ⟨j + 1, by omega, by go_num, HP2.out, below_drewN HB.out _⟩
          case measure => simp [intOf]; omega
        · have E1 : (x != y) = true := by rw [bne_iff_ne]; exact h1
          have HF := Lib.hid (show decide (L = M) = false from decide_eq_false fun e => by
            have h3 := HY.out.1
            rw [e, HY.out.2] at h3
            cases h3
            exact h1 rfl)
          clear h1
          go_upto_region 6 with fail
          go_quiet (fail)
          go_wp2_with fail
          go_ret
          exact ⟨by rw [HF.out] <;> rfl, below_drewN HB.out _⟩
      · obtain rfl : j = L.length := by omega
        have d1 : decide ((L.length : Int) < (L.length : Int)) = false := dec_f (by omega)
        have HB := Lib.hid hb
        have HP := Lib.hid (show decide (L = M) = true from decide_eq_true (by
          rw [List.take_length, hn, List.take_length] at hp
          exact hp))
        clear hb hp hn E
        go_wp2_with fail
        go_ret
        exact ⟨by rw [HP.out] <;> rfl, HB.out⟩
  · have E : ((L.length : Int) != (M.length : Int)) = true := by rw [bne_iff_ne]; omega
    have P := Lib.hid (show decide (L = M) = false from decide_eq_false fun h => hn (by rw [h]))
    clear hn
    go_enter Tryd.func20, Tryd.ntmps20
    go_wp2_with fail
    go_ret
    exact ⟨by rw [P.out] <;> rfl, B0.out⟩
  --]
set_option maxHeartbeats 4000000 in
set_option maxRecDepth 100000 in
theorem rbSame_any (A : Option Addr) (c n : Nat) (L : List Nat) (A' : Option Addr) (c' n' : Nat) (M : List Nat) (w : World) (hn : L.length = n) (h : LWd.Row w A L) (hl : n ≤ 1000000) (hn' : M.length = n') (h' : LWd.Row w A' M) :
    Calls Tryd.prog 9 #[.slice A n c, .slice A' n' c'] w (OneIs (.bool (decide (L = M))) w) := by
  --[
  subst hn hn'
  have B0 := Lib.hid (Below.refl w.heap.size w)
  have HR := Lib.hid h
  have HR' := Lib.hid h'
  clear h h'
  by_cases hn : L.length = M.length
  · have E : ((L.length : Int) != (M.length : Int)) = false := by rw [bne_eq_false_iff_eq]; omega
    have HN := Lib.hid hn
    go_enter Tryd.func9, Tryd.ntmps9
    go_wp2_with fail
    go_loopw [5] (fun v w' => ∃ j : Nat, j ≤ L.length ∧ v = .int .i64 j ∧ L.take j = M.take j ∧ Below w.heap.size w w') (fun v _ => L.length - (intOf v).toNat)
    case atStart => exact ⟨0, Nat.zero_le _, rfl, rfl, B0.out⟩
    case round =>
      obtain ⟨j, hj, rfl, hp, hb⟩ := hrel
      by_cases hlt : j < L.length
      · have hy := List.getElem?_eq_getElem hlt
        have hy' := List.getElem?_eq_getElem (show j < M.length by omega)
        have HB := Lib.hid hb
        obtain ⟨b, o, rfl, hbb, on⟩ := (HR.out.below rfl hb).at hlt
        obtain ⟨b', o', rfl, hbb', on'⟩ := (HR'.out.below rfl hb).at (show j < M.length by omega)
        generalize L[j] = x at hy on
        generalize M[j] = y at hy' on'
        have c0 := wd_on on
        have c0' := wd_on on'
        rw [show j * LWd.m = j from Nat.mul_one j] at c0 c0'
        have d1 : decide ((j : Int) < (L.length : Int)) = true := dec_t (by omega)
        have i0 : (0 : Int) ≤ (j : Int) := Int.natCast_nonneg j
        have i1 : (j : Int) < (L.length : Int) := by omega
        have i1' : (j : Int) < (M.length : Int) := by omega
        have HY := Lib.hid (And.intro hy hy')
        have HP := Lib.hid hp
        clear hb hy hy' on on' hp E hn
        by_cases h1 : x = y
        · have E1 : ((x : Int) != (y : Int)) = false := by rw [bne_eq_false_iff_eq, h1]
          have HP2 := Lib.hid (show L.take (j + 1) = M.take (j + 1) from by
            rw [List.take_add_one, List.take_add_one, HY.out.1, HY.out.2, HP.out, h1])
          clear h1
          go_upto_region 6 with fail
          go_quiet (fail)
          go_wp2_with fail
          go_roundw
          case rel => exact ⟨j + 1, by omega, by go_num, HP2.out, below_drewN HB.out _⟩
          case measure => simp [intOf]; omega
        · have E1 : ((x : Int) != (y : Int)) = true := by rw [bne_iff_ne]; omega
          have HF := Lib.hid (show decide (L = M) = false from decide_eq_false fun e => by
            have h3 := HY.out.1
            rw [e, HY.out.2] at h3
            cases h3
            exact h1 rfl)
          clear h1
          go_upto_region 6 with fail
          go_quiet (fail)
          go_wp2_with fail
          go_ret
          exact ⟨by rw [HF.out] <;> rfl, below_drewN HB.out _⟩
      · obtain rfl : j = L.length := by omega
        have d1 : decide ((L.length : Int) < (L.length : Int)) = false := dec_f (by omega)
        have HB := Lib.hid hb
        have HP := Lib.hid (show decide (L = M) = true from decide_eq_true (by
          rw [List.take_length, hn, List.take_length] at hp
          exact hp))
        clear hb hp hn E
        go_wp2_with fail
        go_ret
        exact ⟨by rw [HP.out] <;> rfl, HB.out⟩
  · have E : ((L.length : Int) != (M.length : Int)) = true := by rw [bne_iff_ne]; omega
    have P := Lib.hid (show decide (L = M) = false from decide_eq_false fun h => hn (by rw [h]))
    clear hn
    go_enter Tryd.func9, Tryd.ntmps9
    go_wp2_with fail
    go_ret
    exact ⟨by rw [P.out] <;> rfl, B0.out⟩
  --]
set_option maxHeartbeats 4000000 in
set_option maxRecDepth 100000 in
theorem rbMeet_any (A : Option Addr) (c : Nat) (L : List Nat) (B : Option Addr) (d : Nat) (M : List Nat) (w : World) (h : LWd.Row w A L) (hw : Bs.W32 L) (hl : L.length ≤ 1000000) (h' : LWd.Row w B M) (hw' : Bs.W32 M) (hl' : M.length ≤ 1000000) :
    Calls Tryd.prog 17 #[.slice A L.length c, .slice B M.length d] w (OneIs (.bool (Bs.meet L M)) w) := by
  --[
  have HR := Lib.hid h
  have HR' := Lib.hid h'
  have HW := Lib.hid hw
  have HW' := Lib.hid hw'
  have B0 := Lib.hid (Below.refl w.heap.size w)
  have HM := Lib.hid (show Bs.meet L M = Bs.meetTo L M (min L.length M.length) from rfl)
  have HL := Lib.hid (And.intro hl hl')
  clear h h' hw hw' hl hl'
  go_enter Tryd.func17, Tryd.ntmps17
  go_wp2_with fail
  go_loopw [5] (fun v w' => ∃ k : Nat, k ≤ L.length ∧ k ≤ M.length ∧ v = .int .i64 k ∧ Bs.meetTo L M k = false ∧ Below w.heap.size w w') (fun v _ => L.length - (intOf v).toNat)
  case atStart => exact ⟨0, Nat.zero_le _, Nat.zero_le _, rfl, rfl, B0.out⟩
  case round =>
    obtain ⟨k, hk, hk', rfl, hp, hb⟩ := hrel
    have HB := Lib.hid hb
    have HP := Lib.hid hp
    clear hp
    by_cases hlt : k < L.length
    case pos =>
      by_cases hlt' : k < M.length
      case pos =>
        obtain ⟨b, o, rfl, hb1, hc⟩ := wd_at (HR.out.below rfl hb) hlt
        obtain ⟨b', o', rfl, hb1', hc'⟩ := wd_at (HR'.out.below rfl hb) hlt'
        have HS := Lib.hid (Bs.meetTo_succ L M k)
        have HT := Lib.hid (fun h => Bs.meet_of (a := L) (b := M) (i := k) hlt hlt' h)
        have e := u32_and_nat (L.getD k 0) (M.getD k 0) (HW.out.at k) (HW'.out.at k)
        generalize L.getD k 0 = x at hc HS HT e
        generalize M.getD k 0 = y at hc' HS HT e
        generalize x &&& y = z at HS HT e
        have d1 : decide ((k : Int) < (L.length : Int)) = true := dec_t (by omega)
        have d2 : decide ((k : Int) < (M.length : Int)) = true := dec_t (by omega)
        have i0 : (0 : Int) ≤ (k : Int) := Int.natCast_nonneg k
        have i1 : (k : Int) < (L.length : Int) := by omega
        have i2 : (k : Int) < (M.length : Int) := by omega
        have q1 : IntKind.i64.wrap ((k : Int) + 1) = (k : Int) + 1 := IntWalk.i64_in _ (by have := HL.out; omega)
        clear hb
        by_cases hz : z = 0
        · have E : ((z : Int) != 0) = false := by rw [bne_eq_false_iff_eq]; omega
          have HP2 := Lib.hid (show Bs.meetTo L M (k + 1) = false from by rw [HS.out, HP.out, hz]; rfl)
          clear hz HS HT
          go_upto_region 4 with fail
          go_quiet (fail)
          go_wp2_with fail
          go_roundw
          case rel => exact ⟨k + 1, by omega, by omega, by go_num, HP2.out, below_drewN HB.out _⟩
          case measure => simp [intOf]; omega
        · have E : ((z : Int) != 0) = true := by rw [bne_iff_ne]; omega
          have HP2 := Lib.hid (HT.out (by rw [bne_iff_ne]; exact hz))
          clear hz HS HT
          go_upto_region 4 with fail
          go_quiet (fail)
          go_wp2_with fail
          go_ret
          exact ⟨by rw [HP2.out] <;> rfl, below_drewN HB.out _⟩
      case neg =>
        have hkm : min L.length M.length = k := by omega
        rw [hkm] at HM
        rw [← HM.out] at HP
        have d1 : decide ((k : Int) < (L.length : Int)) = true := dec_t (by omega)
        have d2 : decide ((k : Int) < (M.length : Int)) = false := dec_f (by omega)
        clear hb hkm
        go_wp2_with fail
        go_ret
        exact ⟨by rw [HP.out] <;> rfl, HB.out⟩
    case neg =>
      have hkm : min L.length M.length = k := by omega
      rw [hkm] at HM
      rw [← HM.out] at HP
      have d1 : decide ((k : Int) < (L.length : Int)) = false := dec_f (by omega)
      clear hb hkm
      go_wp2_with fail
      go_ret
      exact ⟨by rw [HP.out] <;> rfl, HB.out⟩
  --]
set_option maxHeartbeats 4000000 in
set_option maxRecDepth 100000 in
theorem rbList_any (A : Option Addr) (c : Nat) (L : List Nat) (w : World) (h : LWd.Row w A L) (hw : Bs.W32 L) (hl : L.length ≤ 1000000) :
    Calls Tryd.prog 8 #[.slice A L.length c] w (NumsYes (Bs.list L) w) := by
  --[
  have HR := Lib.hid h
  have B0 := Lib.hid (Below.refl w.heap.size w)
  have O0 := Lib.hid (show w.ownsRow w.heap.size 3 LNum.m (.slice none 0 0) (Bs.told L 0).length (LNum.all (Bs.told L 0)) from ⟨rfl, .inl ⟨rfl, rfl⟩⟩)
  have C0 := Lib.hid (fun (k : Nat) (hk : k ≤ 32 * L.length) W (hW : Below w.heap.size w W) => rbHas_any A c L (k : Int) W (by omega) (HR.out.below rfl hW) hw (by omega))
  have HF := Lib.hid (show Bs.list L = Bs.told L (32 * L.length) from rfl)
  have q0 : IntKind.i64.wrap (32 * (L.length : Int)) = ((32 * L.length : Nat) : Int) := by rw [IntWalk.i64_in _ (by omega)]; omega
  have hn : 32 * L.length ≤ 32000000 := by omega
  generalize 32 * L.length = n at C0 HF q0 hn
  clear h hw hl
  obtain ⟨i0, hi, hz0, hz1, hz2⟩ := info_parts infoNumB
  go_enter Tryd.func8, Tryd.ntmps8
  go_wp2_with fail
  go_loopw [3, 4] (fun v3 v4 w' => ∃ k : Nat, k ≤ n ∧ v4 = .int .i64 k ∧ w'.ownsRow w.heap.size 3 LNum.m v3 (Bs.told L k).length (LNum.all (Bs.told L k)) ∧ Below w.heap.size w w') (fun _ v4 _ => n - (intOf v4).toNat)
  case atStart => exact ⟨0, Nat.zero_le _, rfl, O0.out, B0.out⟩
  case round =>
    obtain ⟨k, hk, rfl, ho, hb⟩ := hrel
    have HB := Lib.hid hb
    have HO := Lib.hid ho
    have HS := Lib.hid hb.size
    clear ho
    by_cases hlt : k < n
    · have C1 := Lib.hid (C0.out k hk wr hb)
      have HT := Lib.hid (Bs.told_succ L k)
      have HTL := Lib.hid (Bs.told_len L k)
      have d1 : decide ((k : Int) < (n : Int)) = true := dec_t (by omega)
      have q1 : IntKind.i64.wrap ((k : Int) + 1) = (k : Int) + 1 := IntWalk.i64_in _ (by omega)
      have HN := Lib.hid hn
      generalize Bs.has L (k : Int) = z at C1 HT
      clear hb hn
      cases z
      · rw [if_neg Bool.false_ne_true, List.append_nil] at HT
        go_wp2_with fail
        refine C1.out.mono ?_; rintro e2 z2 ⟨rfl, rfl⟩
        go_wp2_with fail
        go_roundw
        case rel => exact ⟨k + 1, by omega, by go_num, by rw [HT.out]; exact HO.out, HB.out⟩
        case measure => simp [intOf]; omega
      · rw [if_pos rfl] at HT
        go_wp2_with fail
        refine C1.out.mono ?_; rintro e2 z2 ⟨rfl, rfl⟩
        have HR1 := Lib.hid (num_row1 z2 (k : Int) rfl)
        have HO1 := Lib.hid (HO.out.alloc (.cells #[.int .i64 (k : Int)] 3))
        have HB1 := Lib.hid (HB.out.alloc HS.out (.cells #[.int .i64 (k : Int)] 3))
        go_wp2_with (at_builtin; refine wpList_append_at LNum rfl (.tmp 15) (.tmp 17) 25 rfl w.heap.size 3 i0 _ 8 Tryd.underlying25 hi hz0 hz1 hz2 rfl _ (Bs.told L k).length (LNum.all (Bs.told L k)) rfl HO1.out (some ⟨z2.heap.size, 0, none⟩) 1 1 [(k : Int)] rfl rfl HR1.out (by have := HTL.out; have := HN.out; omega) (by have := HTL.out; have := HN.out; omega) (by have := HS.out; simp; omega) ?_; intro v4 w4 hown4 hg4)
        have HB4 := Lib.hid (Below.grown HB1.out hg4 HB1.out.size (fun b hb => (HO1.out.lt b hb).1))
        have HO4 := Lib.hid (show w4.ownsRow w.heap.size 3 LNum.m v4 (Bs.told L (k + 1)).length (LNum.all (Bs.told L (k + 1))) from by rw [HT.out, List.length_append, LNum.all_append]; exact hown4)
        clear hown4 hg4
        go_wp2_with fail
        go_roundw
        case rel => exact ⟨k + 1, by omega, by go_num, HO4.out, HB4.out⟩
        case measure => simp [intOf]; omega
    · obtain rfl : k = n := by omega
      have d1 : decide ((k : Int) < (k : Int)) = false := dec_f (by omega)
      clear hb
      go_wp2_with fail
      go_ret
      rw [HF.out]
      exact NumsYes.of_own HO.out rfl HB.out
  --]
end Go.Proofs.YtfgoakpdfnhddaaDoor
