/-
  Texts of this claim, merged: BsRef.
-/
import Derived.Test.YtfgoakpdfnhddaaDoorMg05
/-
  The walks of the document's layer 13: New, Has, With, Of, Meet, List, Same; layer 12's Ints.
-/
namespace Go.Proofs.YtfgoakpdfnhddaaDoor
open Go.RowKit

set_option maxHeartbeats 4000000 in
set_option maxRecDepth 100000 in
theorem rbNew_any (n : Int) (w : World) (h0 : -9223372036854775808 ≤ n ∧ n ≤ 1000000000) : Calls Tryd.prog 11 #[.int .i64 n] w (SetOwn (Bs.new n) w) := by
  --[
  by_cases hn : n < 1
  · have D0 : decide (n ≤ 0) = true := dec_t (by omega)
    have E : Bs.new n = [] := if_pos hn
    rw [E]
    clear hn
    go_enter Tryd.func11, Tryd.ntmps11
    go_wp2_with fail
    go_ret
    exact ⟨_, rfl, ⟨rfl, .inl ⟨rfl, rfl⟩⟩, Below.refl _ _⟩
  have D0 : decide (n ≤ 0) = false := dec_f (by omega)
  have E : Bs.new n = List.replicate ((n - 1).toNat / 32 + 1) 0 := if_neg hn
  rw [E]
  have q1 : IntKind.i64.wrap (n - 1) = n - 1 := IntWalk.i64_in _ (by omega)
  have q2 : IntKind.i64.wrap ((n - 1).tdiv 32) = (((n - 1).toNat / 32 : Nat) : Int) := by
    rw [Int.tdiv_eq_ediv_of_nonneg (by omega), IntWalk.i64_in _ (by omega)]; omega
  have q3 : IntKind.i64.wrap ((((n - 1).toNat / 32 : Nat) : Int) + 1) = (((n - 1).toNat / 32 + 1 : Nat) : Int) := by
    rw [IntWalk.i64_in _ (by omega)]; omega
  have hM : (n - 1).toNat / 32 + 1 ≤ 31250001 := by omega
  generalize hm : (n - 1).toNat / 32 = m at q2 q3 hM ⊢
  generalize m + 1 = M at q3 hM ⊢
  have hmk := run_make_k LWd (P := Tryd.prog) 0 22 37 (.int .u32 0) 4 Tryd.underlying22 infoWd rfl .i64 .i64 M (by omega) (by omega)
  have HB := Lib.hid ((Below.refl w.heap.size w).alloc (Nat.le_refl _) (.cells (LWd.all (List.replicate M 0)).toArray 37))
  have HO := Lib.hid (own_made w (List.replicate M 0) (by rw [List.length_replicate]; omega))
  rw [List.length_replicate] at HO
  clear hn E hm h0
  go_enter Tryd.func11, Tryd.ntmps11
  go_wp2_with fail
  go_ret
  exact ⟨_, rfl, by rw [List.length_replicate]; exact HO.out, HB.out⟩
  --]
set_option maxHeartbeats 4000000 in
set_option maxRecDepth 100000 in
theorem rbHas_any (A : Option Addr) (c : Nat) (L : List Nat) (n : Int) (w : World) (h0 : -9223372036854775808 ≤ n ∧ n ≤ 9223372036854775807) (h : LWd.Row w A L) (hw : Bs.W32 L) (_hl : L.length ≤ 1000000000) :
    Calls Tryd.prog 15 #[.slice A L.length c, .int .i64 n] w fun e w' => e = .returned (.bool (Bs.has L n)) ∧ w' = w := by
  --[
  by_cases hn : 0 ≤ n
  · obtain ⟨k, rfl⟩ : ∃ k : Nat, n = (k : Int) := ⟨n.toNat, by omega⟩
    have d0 : decide ((0 : Int) ≤ (k : Int)) = true := dec_t hn
    have q : IntKind.i64.wrap ((k : Int).tdiv 32) = ((k / 32 : Nat) : Int) := by
      rw [Int.tdiv_eq_ediv_of_nonneg hn, IntWalk.i64_in _ (by omega)]; omega
    have q2 : (k : Int) / 32 = ((k / 32 : Nat) : Int) := by omega
    have q3 : IntKind.i64.wrap ((k : Int) / 32) = ((k / 32 : Nat) : Int) := by rw [IntWalk.i64_in _ (by omega)]; omega
    have q4 : IntKind.i64.wrap ((k / 32 : Nat) : Int) = ((k / 32 : Nat) : Int) := IntWalk.i64_in _ (by omega)
    have E : Bs.has L (k : Int) = (L.getD (k / 32) 0).testBit (k % 32) := by
      unfold Bs.has
      rw [d0, Bool.true_and, Int.toNat_natCast]
    have e0 : (0 : Int) ≤ ((k / 32 : Nat) : Int) := Int.natCast_nonneg _
    by_cases hk : k / 32 < L.length
    · obtain ⟨b, o, rfl, hb, hc⟩ := wd_at h hk
      have hv := hw.at (k / 32)
      have HA := Lib.hid (Bs.and_one_is (L.getD (k / 32) 0) hv (k % 32))
      have HE := Lib.hid E
      have D1 : decide (((k / 32 : Nat) : Int) < (L.length : Int)) = true := dec_t (by omega)
      have e1 : ((k / 32 : Nat) : Int) < (L.length : Int) := by omega
      have r1 : (k : Int).tmod 32 = ((k % 32 : Nat) : Int) := by rw [Int.tmod_eq_emod_of_nonneg hn]; omega
      have r2 : (k : Int) % 32 = ((k % 32 : Nat) : Int) := by omega
      have r3 : IntKind.u64.wrap ((k % 32 : Nat) : Int) = ((k % 32 : Nat) : Int) := by rw [IntKind.wrap_u64]; omega
      have r0 : (0 : Int) ≤ ((k % 32 : Nat) : Int) := Int.natCast_nonneg _
      have rq : min (k % 32) 32 = k % 32 := by omega
      generalize L.getD (k / 32) 0 = v at hc HE HA
      generalize k / 32 = i at q q2 q3 q4 D1 e0 e1 hc
      generalize k % 32 = j at r1 r2 r3 r0 HE HA rq
      clear E hk hn hv h hw
      go_enter Tryd.func15, Tryd.ntmps15
      go_wp2_with fail
      go_ret
      exact ⟨by rw [HE.out, ← HA.out] <;> rfl, rfl⟩
    · have D1 : decide (((k / 32 : Nat) : Int) < (L.length : Int)) = false := dec_f (by omega)
      have HE := Lib.hid (show Bs.has L (k : Int) = false from by rw [E, Bs.testBit_out (by omega)])
      generalize k / 32 = i at q q2 q3 q4 D1 e0 hk
      clear E hn h hw
      go_enter Tryd.func15, Tryd.ntmps15
      go_wp2_with fail
      go_ret
      exact ⟨by rw [HE.out] <;> rfl, rfl⟩
  · have d0 : decide ((0 : Int) ≤ n) = false := dec_f hn
    have HE := Lib.hid (show Bs.has L n = false from by unfold Bs.has; rw [d0]; rfl)
    clear hn
    go_enter Tryd.func15, Tryd.ntmps15
    go_wp2_with fail
    go_ret
    exact ⟨by rw [HE.out] <;> rfl, rfl⟩
  --]
set_option maxHeartbeats 4000000 in
set_option maxRecDepth 100000 in
theorem rbWith_any (A : Option Addr) (c : Nat) (L : List Nat) (n : Int) (w : World) (h0 : -9223372036854775808 ≤ n ∧ n ≤ 9223372036854775807) (h : LWd.Row w A L) (hw : Bs.W32 L) (hl : L.length ≤ 1000000) :
    Calls Tryd.prog 13 #[.slice A L.length c, .int .i64 n] w (SetOwn (Bs.put L n) w) := by
  --[
  have HB := Lib.hid ((Below.refl w.heap.size w).alloc (Nat.le_refl _) (.cells #[] 37))
  have HR := Lib.hid (h.below rfl HB.out)
  have HO := Lib.hid (ownwd_empty w rfl (Nat.le_refl _))
  clear h
  obtain ⟨i0, hi, hz0, hz1, hz2⟩ := info_parts infoWd
  go_enter Tryd.func13, Tryd.ntmps13
  go_upto_region 1 with fail
  go_cut [5] from 6 to 32 (fun v5 w' => w'.ownsRow w.heap.size 37 LWd.m v5 L.length (LWd.all L) ∧ Below w.heap.size w w')
  case first =>
    go_wp2_with (at_builtin; refine wpList_append_at LWd rfl (.tmp 6) (.tmp 7) 22 rfl w.heap.size 37 i0 _ 4 Tryd.underlying22 hi hz0 hz1 hz2 rfl (.slice (some ⟨w.heap.size, 0, none⟩) 0 0) 0 [] rfl HO.out A L.length c L rfl rfl HR.out (by omega) (by omega) (by simp) ?_; intro v1 w1 hown hg)
    have HB1 := Lib.hid (Below.grown HB.out hg (by simp) (fun k hk => by cases hk; exact Nat.le_refl _))
    rw [Nat.zero_add, List.nil_append] at hown
    go_meet
    exact ⟨hown, HB1.out⟩
  case rest =>
    obtain ⟨ho, hb⟩ := hcut
    have HO1 := Lib.hid ho
    have HB1 := Lib.hid hb
    clear hb hi hz0 hz1 hz2
    by_cases hn : 0 ≤ n
    case neg =>
      have d0 : decide ((0 : Int) ≤ n) = false := dec_f hn
      have HP := Lib.hid (show Bs.put L n = L from if_neg (by unfold Bs.fits; rw [d0]; exact Bool.false_ne_true))
      clear hn ho
      go_wp2_with fail
      go_ret
      exact ⟨_, rfl, by rw [HP.out]; exact HO1.out, HB1.out⟩
    case pos =>
      obtain ⟨k, rfl⟩ : ∃ k : Nat, n = (k : Int) := ⟨n.toNat, by omega⟩
      have d0 : decide ((0 : Int) ≤ (k : Int)) = true := dec_t hn
      have q : IntKind.i64.wrap ((k : Int).tdiv 32) = ((k / 32 : Nat) : Int) := by
        rw [Int.tdiv_eq_ediv_of_nonneg hn, IntWalk.i64_in _ (by omega)]; omega
      have q2 : (k : Int) / 32 = ((k / 32 : Nat) : Int) := by omega
      have q3 : IntKind.i64.wrap ((k : Int) / 32) = ((k / 32 : Nat) : Int) := by rw [IntWalk.i64_in _ (by omega)]; omega
      have q4 : IntKind.i64.wrap ((k / 32 : Nat) : Int) = ((k / 32 : Nat) : Int) := IntWalk.i64_in _ (by omega)
      have e0 : (0 : Int) ≤ ((k / 32 : Nat) : Int) := Int.natCast_nonneg _
      by_cases hk : k / 32 < L.length
      · rcases own_cases ho with ⟨-, rfl⟩ | ⟨g, cap, rfl, hg, hg2⟩
        · exact absurd hk (by simp)
        obtain ⟨hc, hfz⟩ := own_at ho hk
        have hv := hw.at (k / 32)
        have HP := Lib.hid (Bs.put_at hk)
        have HG := Lib.hid hg
        have D1 : decide (((k / 32 : Nat) : Int) < (L.length : Int)) = true := dec_t (by omega)
        have e1 : ((k / 32 : Nat) : Int) < (L.length : Int) := by omega
        have r1 : (k : Int).tmod 32 = ((k % 32 : Nat) : Int) := by rw [Int.tmod_eq_emod_of_nonneg hn]; omega
        have r2 : (k : Int) % 32 = ((k % 32 : Nat) : Int) := by omega
        have r3 : IntKind.u64.wrap ((k % 32 : Nat) : Int) = ((k % 32 : Nat) : Int) := by rw [IntKind.wrap_u64]; omega
        have r0 : (0 : Int) ≤ ((k % 32 : Nat) : Int) := Int.natCast_nonneg _
        have rq : min (k % 32) 32 = k % 32 := by omega
        have hp2 : (2 : Nat) ^ (k % 32) < 2 ^ 32 := Nat.pow_lt_pow_right (by decide) (Nat.mod_lt _ (by decide))
        have e := u32_or_nat (L.getD (k / 32) 0) (2 ^ (k % 32)) hv hp2
        rw [← Bs.shl_mod (k % 32) (Nat.mod_lt _ (by decide))] at e
        generalize hy : L.getD (k / 32) 0 ||| 2 ^ (k % 32) = y at e HP
        generalize L.getD (k / 32) 0 = x at hc hv e hy
        have HW := Lib.hid (own_set ho (k / 32) y)
        generalize k / 32 = i at q q2 q3 q4 D1 e0 e1 hc hfz HP HW hk
        generalize k % 32 = j at r1 r2 r3 r0 rq e hy hp2
        clear hy hp2 ho hv hn hw
        go_wp2_with fail
        go_ret
        exact ⟨_, rfl, by rw [HP.out]; exact HW.out, HB1.out.setCell (p := ⟨g, i, none⟩) HG.out _⟩
      · have D1 : decide (((k / 32 : Nat) : Int) < (L.length : Int)) = false := dec_f (by omega)
        have HP := Lib.hid (show Bs.put L (k : Int) = L from if_neg (fun h => hk (by have := (Bs.fits_iff.1 h).2; rwa [Int.toNat_natCast] at this)))
        obtain ⟨-, B, d, rfl, hd, hR⟩ := Lies.Row.of_own (E := LWd) ho
        generalize k / 32 = i at q q2 q3 q4 D1 e0 hk
        clear ho hd hR hn hw
        go_wp2_with fail
        go_ret
        exact ⟨_, rfl, by rw [HP.out]; exact HO1.out, HB1.out⟩
  --]
set_option maxHeartbeats 4000000 in
set_option maxRecDepth 100000 in
theorem rbOf_any (n : Int) (A : Option Addr) (c : Nat) (l : List Int) (w : World) (h0 : -9223372036854775808 ≤ n ∧ n ≤ 1000000) (h : LNum.Row w A l) (hl : l.length ≤ 1000000) (hx : ∀ x ∈ l, -9223372036854775808 ≤ x ∧ x ≤ 9223372036854775807) :
    Calls Tryd.prog 19 #[.int .i64 n, .slice A l.length c] w (SetYes (Bs.ofL n l) w) := by
  --[
  have CN := Lib.hid (rbNew_any n w (by omega))
  have HR := Lib.hid h
  have HX := Lib.hid hx
  have HLN := Lib.hid (Bs.new_len n)
  clear h hx
  go_enter Tryd.func19, Tryd.ntmps19
  go_wp2_with fail
  refine CN.out.mono ?_; rintro e w1 he
  obtain ⟨B, d, rfl, hR, hd, hb⟩ := he.yes
  have HR1 := Lib.hid hR
  have HD1 := Lib.hid hd
  have HB1 := Lib.hid hb
  clear he hR hd hb CN
  go_wp2_with fail
  go_loopw [5, 6] (fun v1 v2 w' => ∃ (k : Nat) (B : Option Addr) (d : Nat), k ≤ l.length ∧ v2 = .int .i64 k ∧ v1 = .slice B (Bs.ofL n (l.take k)).length d ∧ LWd.Row w' B (Bs.ofL n (l.take k)) ∧ (Bs.ofL n (l.take k)).length ≤ d ∧ Below w.heap.size w w') (fun _ v2 _ => l.length - (intOf v2).toNat)
  case atStart => exact ⟨0, B, d, Nat.zero_le _, rfl, rfl, HR1.out, HD1.out, HB1.out⟩
  case round =>
    obtain ⟨k, B, d, hk, rfl, rfl, hR, hd, hb⟩ := hrel
    have HB := Lib.hid hb
    have HR2 := Lib.hid hR
    have HD2 := Lib.hid hd
    by_cases hlt : k < l.length
    · have hy := List.getElem?_eq_getElem hlt
      obtain ⟨hy1, hy2⟩ := HX.out _ (List.getElem_mem hlt)
      obtain ⟨b1, o1, rfl, g1, on⟩ := (HR.out.below rfl hb).at hlt
      have HT := Lib.hid (Bs.ofL_take (n := n) hy)
      generalize l[k] = x at hy hy1 hy2 on HT
      have c0 := num_on on
      rw [show k * LNum.m = k from Nat.mul_one k] at c0
      have d1 : decide ((k : Int) < (l.length : Int)) = true := dec_t (by omega)
      have i0 : (0 : Int) ≤ (k : Int) := Int.natCast_nonneg k
      have i1 : (k : Int) < (l.length : Int) := by omega
      have hW := Bs.W32.ofL n (l.take k)
      have hML := Bs.ofL_len n (l.take k)
      have hM1 : (Bs.ofL n (l.take k)).length ≤ 1000000 := by
        have e := HLN.out
        rw [hML, e]
        split <;> omega
      generalize Bs.ofL n (l.take k) = M at hR hd HR2 HD2 HT hW hML hM1 ⊢
      by_cases hxn : x < n
      · have D2 : decide (x < n) = true := dec_t hxn
        rw [if_pos hxn] at HT
        have CW := Lib.hid (rbWith_any B d M x wr ⟨hy1, hy2⟩ hR hW hM1)
        have HLP := Lib.hid (show (Bs.put M x).length = M.length from Bs.put_len M x)
        clear hy on hb hR hd hxn hW hML hM1 hy1 hy2
        go_wp2_with fail
        refine CW.out.mono ?_; rintro e w4 he
        obtain ⟨B4, d4, rfl, hR4, hd4, hb4⟩ := he.yes
        have HR4 := Lib.hid hR4
        have HD4 := Lib.hid hd4
        have HB4 := Lib.hid (HB.out.trans (hb4.mono HB.out.size))
        rw [← HT.out] at HR4 HD4 ⊢
        clear hR4 hd4 hb4 CW he HLP
        go_wp2_with fail
        go_roundw
        case rel => exact ⟨k + 1, B4, d4, by omega, by go_num, rfl, HR4.out, HD4.out, HB4.out⟩
        case measure => simp [intOf]; omega
      · have D2 : decide (x < n) = false := dec_f hxn
        rw [if_neg hxn] at HT
        clear hy on hb hR hd hxn hW hML hM1 hy1 hy2
        go_wp2_with fail
        go_roundw
        case rel => exact ⟨k + 1, B, d, by omega, by go_num, by rw [HT.out], by rw [HT.out]; exact HR2.out, by rw [HT.out]; exact HD2.out, HB.out⟩
        case measure => simp [intOf]; omega
    · obtain rfl : k = l.length := by omega
      have d1 : decide ((l.length : Int) < (l.length : Int)) = false := dec_f (by omega)
      rw [List.take_length] at HR2 HD2 ⊢
      clear hb hR hd
      go_wp2_with fail
      go_ret
      exact ⟨B, d, rfl, HR2.out, HD2.out, HB.out⟩
  --]
end Go.Proofs.YtfgoakpdfnhddaaDoor
