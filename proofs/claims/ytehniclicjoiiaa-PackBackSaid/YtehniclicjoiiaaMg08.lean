/-
  Texts of this claim, merged: PackBackWalk.
-/
import Derived.Test.YtehniclicjoiiaaMg06
/-
  The walk of the law PackBack: it returns true.
-/
namespace Go.Proofs.Ytehniclicjoiiaa
open Go.RowKit

set_option maxHeartbeats 16000000 in
set_option maxRecDepth 100000 in
theorem packBack_walk (A : Option Addr) (c n : Nat) (L : List Nat) (a : Int) (s : ByteArray) (W : World)
    (hn : L.length = n) (hL : LBt.Row W A L) (_hc : n ≤ c) (_hl : n ≤ maxLen) (hb : Sm.Bytes L) (ha : (Lit.int .u64 a).wf = true) (_hs : s.size ≤ maxLen) :
    Calls Try.prog 4 #[.slice A n c, .int .u64 a, .string s] W fun e w' => e = .returned (.bool true) ∧ Below W.heap.size W w' := by
  --[
  subst hn
  have ha := wf_u64 ha
  obtain ⟨N, rfl⟩ : ∃ N : Nat, a = (N : Int) := ⟨a.toNat, by omega⟩
  have HL := Lib.hid hL
  have AW := Lib.hid (fun W => pkAwake_any W)
  by_cases g1 : 50 < L.length
  · have D1 : decide (50 < (L.length : Int)) = true := dec_t (by omega)
    go_enter Try.func4, Try.ntmps4
    go_wp2_with fail
    refine (AW.out _).mono ?_; rintro e w8 ⟨rfl, hb8⟩
    go_wp2_with fail
    go_ret
    exact ⟨rfl, hb8⟩
  have D1 : decide (50 < (L.length : Int)) = false := dec_f (by omega)
  by_cases g2 : 255 < s.size
  · have D2 : decide (255 < (s.size : Int)) = true := dec_t (by omega)
    go_enter Try.func4, Try.ntmps4
    go_wp2_with fail
    refine (AW.out _).mono ?_; rintro e w8 ⟨rfl, hb8⟩
    go_wp2_with fail
    go_ret
    exact ⟨rfl, hb8⟩
  have D2 : decide (255 < (s.size : Int)) = false := dec_f (by omega)
  have hl : L.length ≤ 50 := by omega
  have hs : s.size ≤ 255 := by omega
  have HLB := Lib.hid hb
  have HN := Lib.hid (show N < 18446744073709551616 by omega)
  have B0 := Lib.hid (Below.refl W.heap.size W)
  clear hL g1 g2 hb ha
  obtain ⟨i0, hi, hz0, hz1, hz2⟩ := info_parts infoBt
  go_enter Try.func4, Try.ntmps4
  go_wp2_with fail
  go_loopw [7, 8, 9, 10] (fun v7 _ _ _ w' => ∃ k : Nat, k ≤ 9 ∧ v7 = .int .i64 k ∧ Below W.heap.size W w') (fun v7 _ _ _ _ => 9 - (intOf v7).toNat)
  case atStart => exact ⟨0, by omega, rfl, B0.out⟩
  case round =>
    obtain ⟨k, hk, rfl, hbw⟩ := hrel
    have HB := Lib.hid hbw
    clear hbw
    by_cases hlt : k ≤ 8
    · have d1 : decide ((k : Int) ≤ 8) = true := dec_t (by omega)
      have hk8 : k ≤ 8 := hlt
      have RL := Lib.hid (HL.out.below rfl HB.out)
      have CP := Lib.hid (pkPut_any A c L N k wr RL.out (by omega) hlt)
      have hxl : (Pk.put L N k).length = L.length + k := Pk.put_len L N k
      have HXB := Lib.hid (Pk.put_bytes HLB.out N k)
      have HN1 := Lib.hid (Pk.num_at L ((sbytes s).length :: (sbytes s ++ [7])) N k)
      have HT1 := Lib.hid (Pk.text_at (Pk.put L N k) (sbytes s) [7] (by rw [sbytes_len]; exact hs))
      have HZ := Lib.hid (show Pk.name (Pk.put L N k) (sbytes s) ++ [7] = Pk.put L N k ++ ((sbytes s).length :: (sbytes s ++ [7])) from by
        have e : Pk.low (sbytes s).length 1 = [(sbytes s).length] := by
          show [(sbytes s).length / 256 ^ 0 % 256] = _
          rw [Nat.pow_zero, Nat.div_one, Nat.mod_eq_of_lt (by rw [sbytes_len]; omega)]
        show (Pk.put L N k ++ Pk.low (sbytes s).length 1) ++ sbytes s ++ [7] = _
        rw [e]
        simp only [List.append_assoc, List.cons_append, List.nil_append])
      have hyl : (Pk.name (Pk.put L N k) (sbytes s)).length = L.length + k + 1 + s.size := by rw [Pk.name_len, hxl, sbytes_len]
      have HYB := Lib.hid (Pk.name_bytes HXB.out (sbytes_bytes s))
      rw [← HZ.out] at HN1
      generalize Pk.put L N k = X at CP hxl HN1 HT1 hyl HXB HYB
      have HXL := Lib.hid hxl
      have HYL := Lib.hid hyl
      clear hxl hyl
      by_cases h8 : k < 8
      case' pos =>
        have d2 : decide ((k : Int) < 8) = true := dec_t (by omega)
        have HR := Lib.hid (show N % 256 ^ k = N % 2 ^ (8 * k) from by rw [show (256 : Nat) = 2 ^ 8 from rfl, ← Nat.pow_mul])
        obtain ⟨m1, m2, m3, m4, m5⟩ := Pk.mask N (8 * k) (by omega) HN.out
        have a1 : IntKind.i64.wrap (8 * (k : Int)) = ((8 * k : Nat) : Int) := by rw [IntWalk.i64_in _ (by omega)]; omega
        have a2 : IntKind.u64.wrap ((8 * k : Nat) : Int) = ((8 * k : Nat) : Int) := by rw [IntKind.wrap_u64]; omega
        have a3 : (0 : Int) ≤ ((8 * k : Nat) : Int) := Int.natCast_nonneg _
        have a4 : min (8 * k) 64 = 8 * k := by omega
        generalize 8 * k = t8 at a1 a2 a3 a4 m1 m2 m3 m4 m5 HR
        generalize hP : 2 ^ t8 - 1 = P1 at m3 m4 m5
        generalize N % 2 ^ t8 = R at m5 HR
        generalize 2 ^ t8 = P at m1 m2 m3 m4
        clear hP hlt h8
        have HNV := Lib.hid (HN1.out.1.trans HR.out)
        clear HR
        go_upto_region 9 with fail
      case' neg =>
        have d2 : decide ((k : Int) < 8) = false := dec_f (by omega)
        have HNV := Lib.hid (HN1.out.1.trans (show N % 256 ^ k = N from by rw [show k = 8 by omega]; exact Nat.mod_eq_of_lt HN.out))
        clear hlt h8
        go_upto_region 9 with fail
      all_goals
        go_wp2_with fail
        refine CP.out.mono ?_; rintro e w1 ⟨v1, rfl, ho1, hb1⟩
        obtain ⟨-, B1, d1', rfl, -, hR1⟩ := Lies.Row.of_own (E := LBt) ho1
        have X1 := Lib.hid (HB.out.trans (hb1.mono HB.out.size))
        have CN := Lib.hid (pkPutName_any B1 d1' X s w1 hR1 (by rw [HXL.out]; omega) (by omega))
        clear ho1 hb1 hR1 CP
        generalize Pk.name X (sbytes s) = Y at CN HN1 HNV HT1 HYL HYB
        go_wp2_with fail
        refine CN.out.mono ?_; rintro e w2 ⟨v2, rfl, ho2, hb2⟩
        obtain ⟨-, B2, d2, rfl, -, hR2⟩ := Lies.Row.of_own (E := LBt) ho2
        have X2 := Lib.hid (X1.out.trans (hb2.mono X1.out.size))
        have X3 := Lib.hid (X2.out.alloc X2.out.size (.cells #[] 5))
        have R3 := Lib.hid (hR2.below rfl ((Below.refl w2.heap.size w2).alloc (Nat.le_refl _) (.cells #[] 5)))
        have O3 := Lib.hid (own_low (own_bytes0 w2 rfl (Nat.le_refl _)) X2.out.size)
        have S3 := Lib.hid X3.out.size
        clear ho2 hb2 hR2 CN X1 RL
        have hyl := HYL.out
        have HZB := Lib.hid (show Sm.Bytes (Y ++ [7]) from fun x hx => by
          rcases List.mem_append.1 hx with hx | hx
          · exact HYB.out x hx
          · rw [List.mem_singleton.1 hx]; decide)
        have HZL := Lib.hid (show (Y ++ [7]).length = Y.length + 1 from by rw [List.length_append]; rfl)
        have l1 : Y.length ≤ 400 := by omega
        have HXX := Lib.hid (show X.length ≤ 100 from by rw [HXL.out]; omega)
        clear hyl
        go_wp2_with (first
          | (at_builtin
             refine wpList_append_at LBt rfl (.tmp 40) (.tmp 41) 22 rfl W.heap.size 5 i0 _ 1 Try.underlying22 hi hz0 hz1 hz2 rfl (.slice (some ⟨w2.heap.size, 0, none⟩) 0 0) 0 [] rfl O3.out B2 Y.length d2 Y rfl rfl R3.out (by omega) (by omega) S3.out ?_
             intro v3 w3 hown hg
             have X4 := Lib.hid (Below.grown X3.out hg S3.out (fun k hk => (O3.out.lt k hk).1))
             rw [Nat.zero_add, List.nil_append] at hown
             have O4 := Lib.hid (hown.alloc (.cells #[.int .u8 7] 5))
             have X5 := Lib.hid (X4.out.alloc X4.out.size (.cells #[.int .u8 7] 5))
             have R5 := Lib.hid (show LBt.Row (w3.alloc (.cells #[.int .u8 7] 5)) (some ⟨w3.heap.size, 0, none⟩) [7] from Lies.Row.fresh (E := LBt) w3 [7] 5)
             have S5 := Lib.hid X5.out.size
             clear hg hown)
          | (at_builtin
             refine wpList_append_at LBt rfl (.tmp 42) (.tmp 43) 22 rfl W.heap.size 5 i0 _ 1 Try.underlying22 hi hz0 hz1 hz2 rfl v3 Y.length (LBt.all Y) rfl O4.out (some ⟨w3.heap.size, 0, none⟩) 1 1 [7] rfl rfl R5.out (by omega) (by omega) S5.out ?_
             intro v4 w4 hown4 hg4
             have X6 := Lib.hid (Below.grown X5.out hg4 S5.out (fun b hb => (O4.out.lt b hb).1))
             obtain ⟨g4, c4, rfl⟩ : ∃ g4 c4, v4 = .slice (some ⟨g4, 0, none⟩) (Y.length + 1) c4 := by
               rcases hown4.2 with ⟨-, h0⟩ | ⟨g4, c4, cur, h0, -⟩
               · omega
               · exact ⟨g4, c4, h0⟩
             have hz : w4.ownsRow W.heap.size 5 LBt.m (.slice (some ⟨g4, 0, none⟩) (Y.length + 1) c4) (Y.length + 1) (LBt.all (Y ++ [7])) := by rw [LBt.all_append]; exact hown4
             obtain ⟨-, A7, c7, hv7, hc7, hR7⟩ := Lies.Row.of_own (E := LBt) hz
             cases hv7
             have HC7 := Lib.hid hc7
             have A7 := Lib.hid (fun a ha (_ : Y ++ [7] ≠ []) => Nat.ne_of_lt (row_block hR7 (by rw [HZL.out]; omega) a ha))
             have R7 := Lib.hid (hR7.below rfl ((Below.refl w4.heap.size w4).alloc (Nat.le_refl _) (curO 26 (some ⟨g4, 0, none⟩) (Y.length + 1) c4 L.length false)))
             have X7 := Lib.hid (X6.out.alloc X6.out.size (curO 26 (some ⟨g4, 0, none⟩) (Y.length + 1) c4 L.length false))
             have GW := Lib.hid X6.out.size
             have CT := pkTake_any (some ⟨g4, 0, none⟩) c4 (Y ++ [7]) (w4.alloc (curO 26 (some ⟨g4, 0, none⟩) (Y.length + 1) c4 L.length false)) w4.heap.size L.length false k R7.out HZB.out (by rw [HZL.out]; omega) (by rw [HZL.out]; exact HC7.out) (by omega) hk8 (by rw [HZL.out]; exact cur_new w4 26 (some ⟨g4, 0, none⟩) (Y.length + 1) c4 L.length false)
             rw [HNV.out, HN1.out.2.1, HN1.out.2.2, HZL.out] at CT
             have CT := Lib.hid CT
             clear hown4 hg4 hz hc7 hR7))
        refine CT.out.mono ?_; rintro e w6 ⟨rfl, hg6, hk6⟩
        have R8 := Lib.hid (hk6.row A7.out R7.out)
        have X8 := Lib.hid (hk6.below GW.out X7.out)
        have CM := pkName_any (some ⟨g4, 0, none⟩) c4 (Y ++ [7]) w6 w4.heap.size X.length false R8.out HZB.out (by rw [HZL.out]; omega) (by rw [HZL.out]; exact HC7.out) (by have := HXX.out; omega) (by rw [HZL.out]; exact hg6)
        rw [HT1.out.1, HT1.out.2.1, HT1.out.2.2, HZL.out, sbytes_text] at CM
        have CM := Lib.hid CM
        clear hg6 hk6 CT R7 X7
        go_wp2_with fail
        refine CM.out.mono ?_; rintro e w7 ⟨rfl, hg7, hk7⟩
        have X9 := Lib.hid (hk7.below GW.out X8.out)
        obtain ⟨-, k1, k2⟩ := cur_cells hg7
        clear hg7 hk7 CM
        go_wp2_with fail
        go_roundw
        case rel => exact ⟨k + 1, by omega, by go_num, X9.out⟩
        case measure => simp [intOf]; omega
    · obtain rfl : k = 9 := by omega
      have d1 : decide (((9 : Nat) : Int) ≤ 8) = false := by decide
      go_wp2_with fail
      refine (AW.out _).mono ?_; rintro e w8 ⟨rfl, hb8⟩
      have B8 := Lib.hid (HB.out.trans (hb8.mono HB.out.size))
      clear hb8
      go_wp2_with fail
      go_ret
      exact ⟨rfl, B8.out⟩
  --]
end Go.Proofs.Ytehniclicjoiiaa
