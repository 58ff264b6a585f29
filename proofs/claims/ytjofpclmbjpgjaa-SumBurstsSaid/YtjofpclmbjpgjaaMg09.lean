/-
  Texts of this claim, merged: SumBurstsWalk.
-/
import Derived.Test.YtjofpclmbjpgjaaMg06
/-
  The walk of the law SumBursts: it returns true.
-/
namespace Go.Proofs.Ytjofpclmbjpgjaa
open Go.RowKit

theorem Sm.bit_is (v : Nat) (h : v < 4294967296) (j : Nat) : (bits .and .u32 ((v : Int) / 2 ^ j) 1 == 1) = v.testBit j := by
  have e : ((v : Int) / 2 ^ j) = ((v / 2 ^ j : Nat) : Int) := by simp
  have := u32_and_nat (v / 2 ^ j) 1 (Nat.lt_of_le_of_lt (Nat.div_le_self _ _) h) (by decide)
  rw [show ((1 : Nat) : Int) = 1 from rfl] at this
  rw [e, this, nat_mask1, Nat.testBit_eq_decide_div_mod_eq]
  rcases Nat.mod_two_eq_zero_or_one (v / 2 ^ j) with e | e <;> rw [e] <;> rfl
theorem Sm.shl_u8 (j : Nat) (h : j < 8) : (2 : Int) ^ j % 256 = ((2 ^ j : Nat) : Int) := by
  have h2 : (2 : Nat) ^ j < 2 ^ 8 := Nat.pow_lt_pow_right (by decide) h
  have e : ((2 : Int) ^ j) = ((2 ^ j : Nat) : Int) := by simp
  rw [e]
  generalize (2 : Nat) ^ j = b at h2 ⊢
  omega
set_option maxHeartbeats 16000000 in
set_option maxRecDepth 100000 in
theorem sumBursts_walk (A : Option Addr) (c n : Nat) (L : List Nat) (a b : Int) (W : World)
    (hn : L.length = n) (hL : LBt.Row W A L) (_hc : n ≤ c) (_hl : n ≤ maxLen) (hb : Sm.Bytes L) (ha : (Lit.int .u16 a).wf = true) (hv : (Lit.int .u32 b).wf = true) :
    Calls Try.prog 5 #[.slice A n c, .int .u16 a, .int .u32 b] W fun e w' => e = .returned (.bool true) ∧ Below W.heap.size W w' := by
  --[
  subst hn
  have ha := wf_u16 ha
  have hv := wf_u32 hv
  obtain ⟨p, rfl⟩ : ∃ p : Nat, a = (p : Int) := ⟨a.toNat, by omega⟩
  obtain ⟨v, rfl⟩ : ∃ v : Nat, b = (v : Int) := ⟨b.toNat, by omega⟩
  have HL := Lib.hid hL
  have AW := Lib.hid (fun W => smAwake_any W)
  by_cases g1 : 300 < L.length
  · have D1 : decide (300 < (L.length : Int)) = true := dec_t (by omega)
    go_enter Try.func5, Try.ntmps5
    go_wp2_with fail
    refine (AW.out _).mono ?_; rintro e w8 ⟨rfl, hb8⟩
    go_wp2_with fail
    go_ret
    exact ⟨rfl, hb8⟩
  have D1 : decide (300 < (L.length : Int)) = false := dec_f (by omega)
  by_cases g2 : v = 0
  · subst g2
    go_enter Try.func5, Try.ntmps5
    go_wp2_with fail
    refine (AW.out _).mono ?_; rintro e w8 ⟨rfl, hb8⟩
    go_wp2_with fail
    go_ret
    exact ⟨rfl, hb8⟩
  have D2 : ((v : Int) == 0) = false := by rw [beq_eq_false_iff_ne]; omega
  have HG := Lib.hid (fun (M : List Nat) f hm he hf hn => Sm.good_turned (l := Sm.sealed L) (m := M) (v := v) (k := f) (Sm.sealed_bytes hb) hm (by rw [Sm.sealed_len]; omega) he (Sm.good_sealed L) (by omega) g2 hf hn)
  have HKB := Lib.hid (Sm.sealed_bytes hb)
  have B0 := Lib.hid ((Below.refl W.heap.size W).alloc (Nat.le_refl _) (.cells #[] 5))
  have C1 := Lib.hid (spSeal_any A c L _ (HL.out.below rfl B0.out) hb (by omega))
  have O0 := Lib.hid (own_bytes0 W rfl (Nat.le_refl _))
  have hk : (Sm.sealed L).length = L.length + 4 := Sm.sealed_len L
  generalize Sm.sealed L = K at C1 hk HG HKB
  have hk4 : 4 ≤ K.length := by omega
  have hk3 : K.length ≤ 304 := by omega
  have HV := Lib.hid hv
  have HP := Lib.hid ha
  clear hL hb hk g1 g2 hv ha
  obtain ⟨i0, hi, hz0, hz1, hz2⟩ := info_parts infoBt
  go_enter Try.func5, Try.ntmps5
  go_wp2_with fail
  refine C1.out.mono ?_; rintro e w1 ⟨v1, rfl, ho, hb1⟩
  obtain ⟨-, B, d, rfl, -, hR⟩ := Lies.Row.of_own (E := LBt) ho
  have B1 := Lib.hid (B0.out.trans (hb1.mono B0.out.size))
  have O1 := Lib.hid (ownsRow_below O0.out hb1)
  have R1 := Lib.hid hR
  have S1 := Lib.hid B1.out.size
  clear ho hb1 hR C1 B0 O0
  have D3 : decide ((K.length : Int) < 4) = false := dec_f (by omega)
  go_upto_region 6 with (
     at_builtin
     refine wpList_append_at LBt rfl (.tmp 20) (.tmp 22) 22 rfl W.heap.size 5 i0 _ 1 Try.underlying22 hi hz0 hz1 hz2 rfl (.slice (some ⟨W.heap.size, 0, none⟩) 0 0) 0 [] rfl O1.out B K.length d K rfl rfl R1.out (by omega) (by omega) S1.out ?_
     intro v2 w2 hown hg
     have B2 := Lib.hid (Below.grown B1.out hg S1.out (fun k hk => (O1.out.lt k hk).1))
     rw [Nat.zero_add, List.nil_append] at hown
     obtain ⟨g, cap, rfl⟩ : ∃ g cap, v2 = .slice (some ⟨g, 0, none⟩) K.length cap := by
       rcases hown.2 with ⟨-, h0⟩ | ⟨g, cap, cur, h0, -⟩
       · omega
       · exact ⟨g, cap, h0⟩
     have O2 := Lib.hid hown
     clear hg hown O1 R1 B1 S1
     have hgW : W.heap.size ≤ g := (O2.out.lt g rfl).1)
  obtain ⟨N, hN⟩ : ∃ N : Nat, 8 * K.length - 31 = N := ⟨_, rfl⟩
  have q1 : IntKind.i64.wrap (8 * (K.length : Int)) = 8 * (K.length : Int) := IntWalk.i64_in _ (by omega)
  have q2 : IntKind.i64.wrap (8 * (K.length : Int) - 31) = (N : Int) := by rw [IntWalk.i64_in _ (by omega)]; omega
  have q2' : 8 * (K.length : Int) - 31 = (N : Int) := by omega
  have q3 : IntKind.i64.wrap (p : Int) = (p : Int) := by have := HP.out; exact IntWalk.i64_in _ (by omega)
  have q4 : (p : Int).tmod (N : Int) = ((p % N : Nat) : Int) := by rw [Int.tmod_eq_emod_of_nonneg (Int.natCast_nonneg p)]; rfl
  have q5 : ((N : Int) == 0) = false := by rw [beq_eq_false_iff_ne]; omega
  have hf : p % N + 31 < 8 * K.length := by
    have := Nat.mod_lt p (show 0 < N by omega)
    omega
  generalize p % N = f at q4 hf
  have HN0 := Lib.hid (show Sm.num K = Sm.num K ^^^ ((v % 2 ^ 0) <<< f) from by rw [Nat.pow_zero, Nat.mod_one, Nat.zero_shiftLeft, Nat.xor_zero])
  clear hN
  go_wp2_with fail
  go_loopw [9] (fun v9 w' => ∃ (k : Nat) (M : List Nat), k ≤ 32 ∧ v9 = .int .i64 k ∧ M.length = K.length ∧ Sm.Bytes M ∧ Sm.num M = Sm.num K ^^^ ((v % 2 ^ k) <<< f) ∧
    w'.ownsRow W.heap.size 5 LBt.m (.slice (some ⟨g, 0, none⟩) M.length cap) M.length (LBt.all M) ∧ Below W.heap.size W w') (fun v9 _ => 32 - (intOf v9).toNat)
  case atStart => exact ⟨0, K, Nat.zero_le _, rfl, rfl, HKB.out, HN0.out, O2.out, B2.out⟩
  case round =>
    obtain ⟨k, M, hk, rfl, hml, hmb, hmn, ho, hbw⟩ := hrel
    have HMB := Lib.hid hmb
    have HMN := Lib.hid hmn
    have HO := Lib.hid ho
    have HB := Lib.hid hbw
    by_cases hlt : k < 32
    · have d1 : decide ((k : Int) < 32) = true := dec_t (by omega)
      have r0 : (0 : Int) ≤ (k : Int) := Int.natCast_nonneg k
      have r3 : IntKind.u64.wrap (k : Int) = (k : Int) := by rw [IntKind.wrap_u64]; omega
      have rq : min k 32 = k := by omega
      have HA := Lib.hid (Sm.bit_is v (by have := HV.out; omega) k)
      cases hbit : v.testBit k with
      | false =>
        have ht : (bits .and .u32 ((v : Int) / 2 ^ k) 1 == 1) = false := by rw [HA.out, hbit]
        have HN2 := Lib.hid (Sm.burst_skip hmn hbit)
        clear hmb hmn ho hbw hbit HA
        go_wp2_with fail
        go_roundw
        case rel => exact ⟨k + 1, M, by omega, by go_num, hml, HMB.out, HN2.out, HO.out, HB.out⟩
        case measure => simp [intOf]; omega
      | true =>
        have ht : (bits .and .u32 ((v : Int) / 2 ^ k) 1 == 1) = true := by rw [HA.out, hbit]
        have HN2 := Lib.hid (Sm.burst_step hmn (by omega) hbit)
        have hi : (f + k) / 8 < M.length := by omega
        obtain ⟨hc, hfz⟩ := bown_at ho hi
        have hx := hmb.at ((f + k) / 8)
        have hj : (f + k) % 8 < 8 := Nat.mod_lt _ (by decide)
        have hp2 : (2 : Nat) ^ ((f + k) % 8) < 256 := (Nat.pow_lt_pow_right (by decide) hj : (2 : Nat) ^ ((f + k) % 8) < 2 ^ 8)
        have HMB2 := Lib.hid (Sm.Bytes.set hmb ((f + k) / 8) ((f + k) % 8) hj)
        have e := u8_xor_nat (M.getD ((f + k) / 8) 0) (2 ^ ((f + k) % 8)) hx hp2
        have s1 := Sm.shl_u8 ((f + k) % 8) hj
        have sq : min ((f + k) % 8) 8 = (f + k) % 8 := by omega
        have a1 : IntKind.i64.wrap ((f : Int) + (k : Int)) = ((f + k : Nat) : Int) := by rw [IntWalk.i64_in _ (by omega)]; omega
        have a2 : ((f + k : Nat) : Int).tdiv 8 = (((f + k) / 8 : Nat) : Int) := by rw [Int.tdiv_eq_ediv_of_nonneg (by omega)]; omega
        have a3 : ((f + k : Nat) : Int).tmod 8 = (((f + k) % 8 : Nat) : Int) := by rw [Int.tmod_eq_emod_of_nonneg (by omega)]; omega
        have a4 : IntKind.i64.wrap (((f + k) / 8 : Nat) : Int) = (((f + k) / 8 : Nat) : Int) := IntWalk.i64_in _ (by omega)
        have a5 : IntKind.u64.wrap (((f + k) % 8 : Nat) : Int) = (((f + k) % 8 : Nat) : Int) := by rw [IntKind.wrap_u64]; omega
        have i0 : (0 : Int) ≤ (((f + k) / 8 : Nat) : Int) := Int.natCast_nonneg _
        have i1 : (((f + k) / 8 : Nat) : Int) < (K.length : Int) := by omega
        have j0 : (0 : Int) ≤ (((f + k) % 8 : Nat) : Int) := Int.natCast_nonneg _
        generalize M.getD ((f + k) / 8) 0 ^^^ 2 ^ ((f + k) % 8) = y at e HN2 HMB2
        have hw := bown_set ho ((f + k) / 8) y
        rw [show M.length = (M.set ((f + k) / 8) y).length from List.length_set.symm] at hw
        have HW := Lib.hid hw
        clear hw
        have HB2 := Lib.hid (hbw.setCell (p := ⟨g, (f + k) / 8, none⟩) hgW (.int .u8 (y : Int)))
        have HL2 := Lib.hid (show (M.set ((f + k) / 8) y).length = K.length from by rw [List.length_set]; exact hml)
        generalize M.getD ((f + k) / 8) 0 = x at hc e hx
        generalize M.set ((f + k) / 8) y = M2 at HN2 HMB2 HW HL2
        generalize (f + k) / 8 = i at a2 a4 i0 i1 hc hfz HW HB2 hi
        generalize (f + k) % 8 = j at a3 a5 j0 s1 sq e hj hp2
        generalize 2 ^ j = u at s1 e hp2
        generalize f + k = t at a1 a2 a3
        clear hmb hmn ho hbw hbit HA
        go_wp2_with fail
        go_roundw
        case rel => exact ⟨k + 1, M2, by omega, by go_num, HL2.out, HMB2.out, HN2.out, HW.out, HB2.out⟩
        case measure => simp [intOf]; omega
    · obtain rfl : k = 32 := by omega
      have d1 : decide (((32 : Nat) : Int) < 32) = false := by decide
      have hgood : Sm.good M = false := HG.out M f hmb hml (by omega) (by
        rw [hmn, Nat.mod_eq_of_lt (show v < 2 ^ 32 by have := HV.out; omega)])
      obtain ⟨-, A', c', hv', hd, hR⟩ := Lies.Row.of_own (E := LBt) ho
      cases hv'
      have CO := Lib.hid (show Calls Try.prog 8 #[.slice (some ⟨g, 0, none⟩) K.length cap] wr (BtOk (Sm.opened M) false wr) from by
        have := spOpen_any (some ⟨g, 0, none⟩) cap M wr hR hmb (by omega) hd
        rwa [hgood, hml] at this)
      clear hmb hmn ho hbw hR hd
      go_wp2_with fail
      refine CO.out.mono ?_; rintro e w4 ⟨B4, d4, rfl, -, -, hb4⟩
      have B4 := Lib.hid (HB.out.trans (hb4.mono HB.out.size))
      clear hb4 CO
      go_wp2_with fail
      refine (AW.out _).mono ?_; rintro e w5 ⟨rfl, hb5⟩
      have B5 := Lib.hid (B4.out.trans (hb5.mono B4.out.size))
      clear hb5
      go_wp2_with fail
      go_ret
      exact ⟨rfl, B5.out⟩
  --]
end Go.Proofs.Ytjofpclmbjpgjaa
