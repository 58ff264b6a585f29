/-
  Texts of this claim, merged: SmRef.
-/
import Derived.Test.YtjofpclmbjpgjaaMg04
/-
  The walks of the document's layer 16: Of, Seal, Open.
-/
namespace Go.Proofs.Ytjofpclmbjpgjaa
open Go.RowKit

set_option maxHeartbeats 4000000 in
set_option maxRecDepth 100000 in
theorem srOf_any (A : Option Addr) (c : Nat) (L : List Nat) (w : World) (h : LBt.Row w A L) (hb : Sm.Bytes L) (hl : L.length ≤ 1000000) :
    Calls Try.prog 11 #[.slice A L.length c] w fun e w' => e = .returned (.int .u32 (Sm.of L : Nat)) ∧ w' = w := by
  --[
  have HR := Lib.hid h
  have HB := Lib.hid hb
  have e := Sm.not_ones (Sm.run_lt hb (n := Sm.ones) (by decide))
  have HF := Lib.hid (show Sm.of L = Sm.run Sm.ones L ^^^ Sm.ones from rfl)
  clear h hb
  go_enter Try.func11, Try.ntmps11
  go_wp2_with fail
  go_loopw [3, 4, 5, 6] (fun v3 v4 _ _ w' => ∃ k : Nat, k ≤ L.length ∧ v4 = .int .i64 k ∧ v3 = .int .u32 (Sm.run Sm.ones (L.take k) : Nat) ∧ w' = w) (fun _ v4 _ _ _ => L.length - (intOf v4).toNat)
  case atStart => exact ⟨0, Nat.zero_le _, rfl, rfl, rfl⟩
  case round =>
    obtain ⟨k, hk, rfl, rfl, rfl⟩ := hrel
    by_cases hlt : k < L.length
    · obtain ⟨b, o, rfl, -, c0⟩ := bt_at HR.out hlt
      have hx := HB.out.at k
      have HM := Lib.hid (Sm.run_lt (HB.out.take k) (n := Sm.ones) (by decide))
      have HS := Lib.hid (Sm.run_take (n := Sm.ones) (show L[k]? = some (L.getD k 0) from by rw [List.getD_eq_getElem?_getD, List.getElem?_eq_getElem hlt]; rfl))
      generalize L.getD k 0 = x at c0 hx HS
      generalize Sm.run Sm.ones (L.take k) = m at HM HS
      have e2 := u32_xor_nat m x HM.out (by omega)
      have HX := Lib.hid (Nat.xor_lt_two_pow (n := 32) HM.out (show x < 4294967296 by omega))
      have HT := Lib.hid (show Sm.byte m x = Sm.halves 8 (m ^^^ x) from rfl)
      generalize m ^^^ x = y at e2 HX HT
      have q1 : IntKind.u32.wrap (x : Int) = (x : Int) := by rw [IntKind.wrap_u32']; omega
      have q2 : (x : Int) % 4294967296 = (x : Int) := by omega
      have d1 : decide ((k : Int) < (L.length : Int)) = true := dec_t (by omega)
      have i0 : (0 : Int) ≤ (k : Int) := Int.natCast_nonneg k
      have i1 : (k : Int) < (L.length : Int) := by omega
      go_wp2_with fail
      go_loopw [3, 5, 6] (fun v3 v5 _ w' => ∃ j : Nat, j ≤ 8 ∧ v5 = .int .i64 j ∧ v3 = .int .u32 (Sm.halves j y : Nat) ∧ w' = wr) (fun _ v5 _ _ => 8 - (intOf v5).toNat)
      case atStart => exact ⟨0, Nat.zero_le _, rfl, rfl, rfl⟩
      case round =>
        clear d1 i0 i1 e2 q1 q2 c0 hk
        obtain ⟨j, hj, rfl, rfl, rfl⟩ := hrel
        have HY := Lib.hid (Sm.halves_lt HX.out j)
        have HH := Lib.hid (show Sm.halves (j + 1) y = Sm.half (Sm.halves j y) from rfl)
        by_cases hjt : j < 8
        · have d1 : decide ((j : Int) < 8) = true := dec_t (by omega)
          generalize Sm.halves j y = u at HY HH
          have q1 : ((u : Int) / 2) = ((u / 2 : Nat) : Int) := by omega
          have e := u32_and_nat u 1 HY.out (by decide)
          rw [nat_mask1, show ((1 : Nat) : Int) = 1 from rfl] at e
          have e2 : bits .xor .u32 ((u / 2 : Nat) : Int) 3988292384 = ((u / 2 ^^^ 3988292384 : Nat) : Int) := u32_xor_nat (u / 2) 3988292384 (by have := HY.out; omega) (by decide)
          by_cases ho : u % 2 = 1
          · rw [ho] at e
            have HH2 := Lib.hid (show Sm.halves (j + 1) y = (u / 2) ^^^ 3988292384 from by rw [HH.out]; exact if_pos ho)
            clear ho
            generalize u / 2 = d at q1 e2 HH2
            go_wp2_with fail
            go_roundw
            case rel => exact ⟨j + 1, by omega, by go_num, by rw [HH2.out], trivial⟩
            case measure => simp [intOf]; omega
          · obtain ho : u % 2 = 0 := by omega
            rw [ho] at e
            have HH2 := Lib.hid (show Sm.halves (j + 1) y = u / 2 from by rw [HH.out]; exact if_neg (by omega))
            clear ho
            generalize u / 2 = d at q1 e2 HH2
            go_wp2_with fail
            go_roundw
            case rel => exact ⟨j + 1, by omega, by go_num, by rw [HH2.out], trivial⟩
            case measure => simp [intOf]; omega
        · obtain rfl : j = 8 := by omega
          have d1 : decide (((8 : Nat) : Int) < 8) = false := by decide
          go_wp2_with fail
          go_roundw
          case rel => exact ⟨k + 1, by omega, by go_num, by rw [HS.out, HT.out], trivial⟩
          case measure => simp [intOf]; omega
    · obtain rfl : k = L.length := by omega
      have d1 : decide ((L.length : Int) < (L.length : Int)) = false := dec_f (by omega)
      rw [List.take_length]
      go_wp2_with fail
      go_ret
      exact ⟨by rw [HF.out] <;> rfl, rfl⟩
  --]
set_option maxHeartbeats 4000000 in
set_option maxRecDepth 100000 in
theorem srSeal_any (A : Option Addr) (c : Nat) (L : List Nat) (w : World) (h : LBt.Row w A L) (hb : Sm.Bytes L) (hl : L.length ≤ 100000) :
    Calls Try.prog 13 #[.slice A L.length c] w (BtOwn (Sm.sealed L) w) := by
  --[
  have CO := Lib.hid (srOf_any A c L w h hb (by omega))
  have HF := Lib.hid (show Sm.sealed L = L ++ Sm.tail (Sm.of L) from rfl)
  obtain ⟨x0, x1, x2, x3, ht, ⟨q0, q1, q2, q3⟩, r0, r1, r2, r3⟩ := Sm.four (Sm.of L)
  rw [ht] at HF
  generalize Sm.of L = n at CO q0 q1 q2 q3 r0 r1 r2 r3
  have HB := Lib.hid ((Below.refl w.heap.size w).alloc (Nat.le_refl _) (.cells #[] 5))
  have HR := Lib.hid (h.below rfl HB.out)
  have HO := Lib.hid (own_bytes0 w rfl (Nat.le_refl _))
  clear h ht
  obtain ⟨i0, hi, hz0, hz1, hz2⟩ := info_parts infoBt
  go_enter Try.func13, Try.ntmps13
  go_wp2_with fail
  refine CO.out.mono ?_; rintro e w0 ⟨rfl, rfl⟩
  go_wp2_with (first
    | (at_builtin
       refine wpList_append_at LBt rfl (.tmp 6) (.tmp 7) 22 rfl w0.heap.size 5 i0 _ 1 Try.underlying22 hi hz0 hz1 hz2 rfl (.slice (some ⟨w0.heap.size, 0, none⟩) 0 0) 0 [] rfl HO.out A L.length c L rfl rfl HR.out (by omega) (by omega) (by simp) ?_
       intro v1 w1 hown hg
       have HB1 := Lib.hid (Below.grown HB.out hg (by simp) (fun k hk => by cases hk; exact Nat.le_refl _))
       rw [Nat.zero_add, List.nil_append] at hown
       have HO1 := Lib.hid (hown.alloc (.cells #[.int .u8 (x0 : Int), .int .u8 (x1 : Int), .int .u8 (x2 : Int), .int .u8 (x3 : Int)] 5))
       have HX := Lib.hid (show LBt.Row (w1.alloc (.cells #[.int .u8 (x0 : Int), .int .u8 (x1 : Int), .int .u8 (x2 : Int), .int .u8 (x3 : Int)] 5)) (some ⟨w1.heap.size, 0, none⟩) [x0, x1, x2, x3] from Lies.Row.fresh (E := LBt) w1 [x0, x1, x2, x3] 5)
       have HS := Lib.hid HB1.out.size
       have HB2 := Lib.hid (HB1.out.alloc HS.out (.cells #[.int .u8 (x0 : Int), .int .u8 (x1 : Int), .int .u8 (x2 : Int), .int .u8 (x3 : Int)] 5))
       have HS2 := Lib.hid HB2.out.size
       clear hg hown)
    | (at_builtin
       refine wpList_append_at LBt rfl (.tmp 8) (.tmp 20) 22 rfl w0.heap.size 5 i0 _ 1 Try.underlying22 hi hz0 hz1 hz2 rfl v1 L.length (LBt.all L) rfl HO1.out (some ⟨w1.heap.size, 0, none⟩) 4 4 [x0, x1, x2, x3] rfl rfl HX.out (by omega) (by omega) HS2.out ?_
       intro v2 w2 hown2 hg2))
  have HB3 := Lib.hid (Below.grown HB2.out hg2 HS2.out (fun b hb => (HO1.out.lt b hb).1))
  have HO2 := Lib.hid (show w2.ownsRow w0.heap.size 5 LBt.m v2 (Sm.sealed L).length (LBt.all (Sm.sealed L)) from by rw [HF.out, List.length_append, LBt.all_append]; exact hown2)
  clear hg2 hown2
  go_ret
  exact ⟨_, rfl, HO2.out, HB3.out⟩
  --]
/-- Four bytes put together by 'or' are a number. -/
theorem Sm.or4 (x0 x1 x2 x3 : Nat) (h0 : x0 < 256) (h1 : x1 < 256) (h2 : x2 < 256) (h3 : x3 < 256) : ∃ y1 y2 : Nat, bits .or .u32 (x0 : Int) ((x1 : Int) * 256) = (y1 : Int) ∧ bits .or .u32 (y1 : Int) ((x2 : Int) * 65536) = (y2 : Int) ∧
    bits .or .u32 (y2 : Int) ((x3 : Int) * 16777216) = ((Sm.num [x0, x1, x2, x3] : Nat) : Int) := by
  have o : ∀ (i a b : Nat), b < 2 ^ i → b ||| a * 2 ^ i = b + a * 2 ^ i := fun i a b hb => by
    have := Nat.two_pow_add_eq_or_of_lt hb a
    rw [Nat.or_comm, Nat.mul_comm, ← this, Nat.add_comm]
  have e1 := u32_or_nat x0 (x1 * 256) (by omega) (by omega)
  have e2 := u32_or_nat (x0 + x1 * 256) (x2 * 65536) (by omega) (by omega)
  have e3 := u32_or_nat (x0 + x1 * 256 + x2 * 65536) (x3 * 16777216) (by omega) (by omega)
  rw [o 8 x1 x0 h0] at e1
  rw [o 16 x2 _ (by omega)] at e2
  rw [o 24 x3 _ (by omega)] at e3
  have en : Sm.num [x0, x1, x2, x3] = x0 + x1 * 256 + x2 * 65536 + x3 * 16777216 := by
    show x0 ^^^ ((x1 ^^^ ((x2 ^^^ ((x3 ^^^ (0 <<< 8)) <<< 8)) <<< 8)) <<< 8) = _
    rw [Sm.byte_or (b := 0) h3, Sm.byte_or h2, Sm.byte_or h1, Sm.byte_or h0]
    omega
  refine ⟨x0 + x1 * 256, x0 + x1 * 256 + x2 * 65536, ?_, ?_, ?_⟩
  · rw [← e1]; congr 1
  · rw [← e2]; congr 1
  · rw [en, ← e3]; congr 1
theorem Sm.drop4 {L : List Nat} {m : Nat} (h : L.length = m + 4) : L.drop m = [L.getD m 0, L.getD (m + 1) 0, L.getD (m + 2) 0, L.getD (m + 3) 0] := by
  apply List.ext_getElem?
  intro i
  rw [List.getElem?_drop]
  simp only [List.getD_eq_getElem?_getD]
  match i with
  | 0 => rw [Nat.add_zero, List.getElem?_eq_getElem (by omega)]; rfl
  | 1 => rw [List.getElem?_eq_getElem (by omega)]; rfl
  | 2 => rw [List.getElem?_eq_getElem (by omega)]; rfl
  | 3 => rw [List.getElem?_eq_getElem (by omega)]; rfl
  | i + 4 => rw [List.getElem?_eq_none (by omega)]; rfl
set_option maxHeartbeats 4000000 in
set_option maxRecDepth 100000 in
theorem srOpen_any (A : Option Addr) (c : Nat) (L : List Nat) (w : World) (h : LBt.Row w A L) (hb : Sm.Bytes L) (hl : L.length ≤ 100000) (hc : L.length ≤ c) :
    Calls Try.prog 9 #[.slice A L.length c] w (BtOk (Sm.opened L) (Sm.good L) w) := by
  --[
  by_cases h4 : L.length < 4
  · have d1 : decide ((L.length : Int) - 4 < 0) = true := dec_t (by omega)
    have q1 : IntKind.i64.wrap ((L.length : Int) - 4) = (L.length : Int) - 4 := IntWalk.i64_in _ (by omega)
    have e1 : Sm.good L = false := by unfold Sm.good; rw [decide_eq_false (by omega)]; rfl
    have e2 : Sm.opened L = [] := by unfold Sm.opened; rw [e1]; rfl
    have HB := Lib.hid (Below.refl w.heap.size w)
    rw [e1, e2]
    clear h
    go_enter Try.func9, Try.ntmps9
    go_wp2_with fail
    go_ret2
    exact ⟨none, 0, rfl, .inl rfl, Nat.le_refl _, HB.out⟩
  · obtain ⟨m, hm⟩ : ∃ m, L.length = m + 4 := ⟨L.length - 4, by omega⟩
    obtain ⟨b, o, rfl, -, c0⟩ := bt_at h (show m < L.length by omega)
    obtain ⟨b', o', hA, -, c1⟩ := bt_at h (show m + 1 < L.length by omega)
    cases hA
    obtain ⟨b', o', hA, -, c2⟩ := bt_at h (show m + 2 < L.length by omega)
    cases hA
    obtain ⟨b', o', hA, -, c3⟩ := bt_at h (show m + 3 < L.length by omega)
    cases hA
    have E1 : Sm.inner L = L.take m := by unfold Sm.inner; rw [hm, Nat.add_sub_cancel]
    have E2 : Sm.last L = L.drop m := by unfold Sm.last; rw [hm, Nat.add_sub_cancel]
    have l1 : (L.take m).length = m := by rw [List.length_take]; omega
    have l2 : (L.drop m).length = 4 := by rw [List.length_drop]; omega
    have b1 := hb.take m
    have b2 := hb.drop m
    have h0 := hb.at m
    have h1 := hb.at (m + 1)
    have h2 := hb.at (m + 2)
    have h3 := hb.at (m + 3)
    have R1 := Lib.hid (fun W (hW : Below w.heap.size w W) => Lies.Row.take (E := LBt) (h.below rfl hW) m)
    have HG := Lib.hid (show ((Sm.num (L.drop m) : Int) != (Sm.of (L.take m) : Int)) = !Sm.good L from by
      unfold Sm.good
      rw [E1, E2, decide_eq_true (by omega), Bool.true_and, Bool.eq_iff_iff, bne_iff_ne, Bool.not_eq_true', decide_eq_false_iff_not, Sm.last_iff b2 l2 (Sm.of_lt b1)]
      omega)
    rw [Sm.drop4 hm] at HG
    have HP := Lib.hid (show Sm.opened L = if Sm.good L = true then L.take m else [] from by unfold Sm.opened; rw [E1])
    have CO := Lib.hid (fun W (hW : Below w.heap.size w W) => show Calls Try.prog 11 #[.slice (some ⟨b, o, none⟩) m c] W (fun e w' => e = .returned (.int .u32 (Sm.of (L.take m) : Nat)) ∧ w' = W) from by
      have := srOf_any (some ⟨b, o, none⟩) c (L.take m) W (R1.out _ hW) b1 (by omega)
      rwa [l1] at this)
    obtain ⟨y1, y2, e1, e2, e3⟩ := Sm.or4 _ _ _ _ h0 h1 h2 h3
    generalize Sm.num [L.getD m 0, L.getD (m + 1) 0, L.getD (m + 2) 0, L.getD (m + 3) 0] = y3 at HG e3
    generalize L.getD m 0 = x0 at c0 e1 h0
    generalize L.getD (m + 1) 0 = x1 at c1 e1 h1
    generalize L.getD (m + 2) 0 = x2 at c2 e2 h2
    generalize L.getD (m + 3) 0 = x3 at c3 e3 h3
    have d1 : decide ((m : Int) < 0) = false := dec_f (by omega)
    have q1 : IntKind.i64.wrap ((L.length : Int) - 4) = (m : Int) := by rw [IntWalk.i64_in _ (by omega)]; omega
    have q2 : (L.length : Int) - 4 = (m : Int) := by omega
    have j0 : (0 : Int) ≤ (m : Int) := Int.natCast_nonneg m
    have j1 : (m : Int) + 3 < (L.length : Int) := by omega
    have HN := Lib.hid (And.intro (show m ≤ 100000 by omega) hm)
    have B0 := Lib.hid (Below.refl w.heap.size w)
    obtain ⟨i0, hi, hz0, hz1, hz2⟩ := info_parts infoBt
    clear h h4 E1 E2 b1 b2 hb l2
    generalize Sm.good L = z at HG HP ⊢
    generalize Sm.opened L = M at HP ⊢
    go_enter Try.func9, Try.ntmps9
    go_upto_region 4 with fail
    go_quiet (fail)
    rename_i nq
    have B1 := Lib.hid (below_drewN B0.out nq)
    have HB := Lib.hid (B1.out.alloc B1.out.size (.cells #[] 5))
    have HR := Lib.hid (R1.out _ HB.out)
    have HO := Lib.hid (own_low (own_bytes0 (w.drewN nq) rfl (Nat.le_refl _)) B1.out.size)
    have CO1 := Lib.hid (CO.out _ B1.out)
    have HS := Lib.hid HB.out.size
    have HL1 := Lib.hid l1
    clear CO R1
    have hg := HG.out
    generalize Sm.of (L.take m) = n at hg CO1
    clear HG
    cases z
    · have hg2 : ((y3 : Int) != (n : Int)) = true := hg
      clear hg
      go_wp2_with fail
      refine CO1.out.mono ?_; rintro e w1 ⟨rfl, rfl⟩
      go_wp2_with fail
      go_ret2
      rw [HP.out]
      exact ⟨none, 0, rfl, .inl rfl, Nat.le_refl _, B1.out⟩
    · have hg2 : ((y3 : Int) != (n : Int)) = false := hg
      clear hg
      go_wp2_with fail
      refine CO1.out.mono ?_; rintro e w1 ⟨rfl, rfl⟩
      go_wp2_with (at_builtin; refine wpList_append_at LBt rfl (.tmp 46) (.tmp 49) 22 rfl w.heap.size 5 i0 _ 1 Try.underlying22 hi hz0 hz1 hz2 rfl (.slice (some ⟨w.heap.size, 0, none⟩) 0 0) 0 [] rfl HO.out (some ⟨b, o, none⟩) m c (L.take m) rfl HL1.out HR.out (by have := HN.out.1; omega) (by have := HN.out.1; omega) HS.out ?_; intro v1 w1 hown hg)
      have HB1 := Lib.hid (Below.grown HB.out hg HS.out (fun k hk => (HO.out.lt k hk).1))
      rw [Nat.zero_add, List.nil_append] at hown
      obtain ⟨-, B2, d2, rfl, hd, hR⟩ := Lies.Row.of_own (E := LBt) hown
      have HR2 := Lib.hid hR
      have HD2 := Lib.hid hd
      clear hg hown hR hd
      go_wp2_with fail
      go_ret2
      rw [HP.out]
      exact ⟨B2, d2, by
        show _ = Ending.returned (.tuple #[.slice B2 (L.take m).length d2, .bool true])
        rw [HL1.out] <;> rfl, HR2.out, (show (L.take m).length ≤ d2 from by rw [HL1.out]; exact HD2.out), HB1.out⟩
  --]
end Go.Proofs.Ytjofpclmbjpgjaa
