/-
  Texts of this claim, merged: SmPr.
-/
import Derived.Test.YtjofpclmbjpgjaaMg03
/-
  The walks of the program's layer 16: a number divided, the sum, its bytes, Seal, Open.
-/
namespace Go.Proofs.Ytjofpclmbjpgjaa
open Go.RowKit

set_option maxHeartbeats 4000000 in
set_option maxRecDepth 100000 in
theorem spDivide_any (n : Nat) (w : World) (hn : n < 4294967296) :
    Calls Try.prog 17 #[.int .u32 n] w fun e w' => e = .returned (.int .u32 (Sm.halves 8 n : Nat)) ∧ w' = w := by
  --[
  have HN := Lib.hid hn
  clear hn
  go_enter Try.func17, Try.ntmps17
  go_wp2_with fail
  go_loopw [0, 3, 4] (fun v0 _ v4 w' => ∃ k : Nat, k ≤ 8 ∧ v4 = .int .i64 k ∧ v0 = .int .u32 (Sm.halves k n : Nat) ∧ w' = w) (fun _ _ v4 _ => 8 - (intOf v4).toNat)
  case atStart => exact ⟨0, Nat.zero_le _, rfl, rfl, rfl⟩
  case round =>
    obtain ⟨k, hk, rfl, rfl, rfl⟩ := hrel
    have HM := Lib.hid (Sm.halves_lt HN.out k)
    have HS := Lib.hid (show Sm.halves (k + 1) n = Sm.half (Sm.halves k n) from rfl)
    by_cases hlt : k < 8
    · have d1 : decide ((k : Int) < 8) = true := dec_t (by omega)
      generalize Sm.halves k n = m at HM HS
      have q1 : ((m : Int) / 2) = ((m / 2 : Nat) : Int) := by omega
      have e := u32_and_nat m 1 HM.out (by decide)
      rw [nat_mask1, show ((1 : Nat) : Int) = 1 from rfl] at e
      have e2 : bits .xor .u32 ((m / 2 : Nat) : Int) 3988292384 = ((m / 2 ^^^ 3988292384 : Nat) : Int) := u32_xor_nat (m / 2) 3988292384 (by have := HM.out; omega) (by decide)
      by_cases ho : m % 2 = 1
      · rw [ho] at e
        have HS2 := Lib.hid (show Sm.halves (k + 1) n = (m / 2) ^^^ 3988292384 from by rw [HS.out]; exact if_pos ho)
        clear ho
        generalize m / 2 = d at q1 e2 HS2
        go_wp2_with fail
        go_roundw
        case rel => exact ⟨k + 1, by omega, by go_num, by rw [HS2.out], trivial⟩
        case measure => simp [intOf]; omega
      · obtain ho : m % 2 = 0 := by omega
        rw [ho] at e
        have HS2 := Lib.hid (show Sm.halves (k + 1) n = m / 2 from by rw [HS.out]; exact if_neg (by omega))
        clear ho
        generalize m / 2 = d at q1 e2 HS2
        go_wp2_with fail
        go_roundw
        case rel => exact ⟨k + 1, by omega, by go_num, by rw [HS2.out], trivial⟩
        case measure => simp [intOf]; omega
    · obtain rfl : k = 8 := by omega
      have d1 : decide (((8 : Nat) : Int) < 8) = false := by decide
      go_wp2_with fail
      go_ret
      exact ⟨rfl, rfl⟩
  --]
set_option maxHeartbeats 4000000 in
set_option maxRecDepth 100000 in
theorem spOf_any (A : Option Addr) (c : Nat) (L : List Nat) (w : World) (h : LBt.Row w A L) (hb : Sm.Bytes L) (hl : L.length ≤ 1000000) :
    Calls Try.prog 10 #[.slice A L.length c] w fun e w' => e = .returned (.int .u32 (Sm.of L : Nat)) ∧ w' = w := by
  --[
  have HR := Lib.hid h
  have HB := Lib.hid hb
  have e := Sm.not_ones (Sm.run_lt hb (n := Sm.ones) (by decide))
  have HF := Lib.hid (show Sm.of L = Sm.run Sm.ones L ^^^ Sm.ones from rfl)
  clear h hb
  go_enter Try.func10, Try.ntmps10
  go_wp2_with fail
  go_loopw [3, 5, 8] (fun v3 _ v8 w' => ∃ k : Nat, k ≤ L.length ∧ v8 = .int .i64 k ∧ v3 = .int .u32 (Sm.run Sm.ones (L.take k) : Nat) ∧ w' = w) (fun _ _ v8 _ => L.length - (intOf v8).toNat)
  case atStart => exact ⟨0, Nat.zero_le _, rfl, rfl, rfl⟩
  case round =>
    obtain ⟨k, hk, rfl, rfl, rfl⟩ := hrel
    by_cases hlt : k < L.length
    · obtain ⟨b, o, rfl, -, c0⟩ := bt_at HR.out hlt
      have hx := HB.out.at k
      have HM := Lib.hid (Sm.run_lt (HB.out.take k) (n := Sm.ones) (by decide))
      have HS := Lib.hid (Sm.run_take (n := Sm.ones) (show L[k]? = some (L.getD k 0) from by rw [List.getD_eq_getElem?_getD, List.getElem?_eq_getElem hlt]; rfl))
      generalize L.getD k 0 = x at c0 hx HS
      generalize Sm.run Sm.ones (L.take k) = m at HM HS
      have CD := Lib.hid (spDivide_any (m ^^^ x) wr (Nat.xor_lt_two_pow (n := 32) HM.out (show x < 4294967296 by omega)))
      have e2 := u32_xor_nat m x HM.out (by omega)
      have q1 : IntKind.u32.wrap (x : Int) = (x : Int) := by rw [IntKind.wrap_u32']; omega
      have q2 : (x : Int) % 4294967296 = (x : Int) := by omega
      have d1 : decide ((k : Int) < (L.length : Int)) = true := dec_t (by omega)
      have i0 : (0 : Int) ≤ (k : Int) := Int.natCast_nonneg k
      have i1 : (k : Int) < (L.length : Int) := by omega
      go_wp2_with fail
      refine CD.out.mono ?_; rintro e w1 ⟨rfl, rfl⟩
      go_wp2_with fail
      go_roundw
      case rel => exact ⟨k + 1, by omega, by go_num, by rw [HS.out]; rfl, trivial⟩
      case measure => simp [intOf]; omega
    · obtain rfl : k = L.length := by omega
      have d1 : decide ((L.length : Int) < (L.length : Int)) = false := dec_f (by omega)
      rw [List.take_length]
      go_wp2_with fail
      go_ret
      exact ⟨by rw [HF.out] <;> rfl, rfl⟩
  --]
theorem own_madeB (w : World) (L : List Nat) (hl : L.length ≤ 1000000) : (w.alloc (.cells (LBt.all L).toArray 5)).ownsRow w.heap.size 5 LBt.m (.slice (some ⟨w.heap.size, 0, none⟩) L.length L.length) L.length (LBt.all L) := by
  have e : (LBt.all L).length = L.length * LBt.m := LBt.all_len L
  refine ⟨e, .inr ⟨w.heap.size, L.length, _, rfl, Nat.le_refl _, heap_alloc_new _ _, Nat.le_refl _, by unfold maxLen; omega, by simpa using e, ?_⟩⟩
  rw [← e]
  simp
/-- A number's four bytes, in the walk's words. -/
theorem Sm.four (n : Nat) : ∃ a b c d : Nat, Sm.tail n = [a, b, c, d] ∧ (IntKind.u8.wrap (n : Int) = (a : Int) ∧ IntKind.u8.wrap ((n : Int) / 256) = (b : Int) ∧ IntKind.u8.wrap ((n : Int) / 65536) = (c : Int) ∧ IntKind.u8.wrap ((n : Int) / 16777216) = (d : Int)) ∧
    (n : Int) % 256 = (a : Int) ∧ (n : Int) / 256 % 256 = (b : Int) ∧ (n : Int) / 65536 % 256 = (c : Int) ∧ (n : Int) / 16777216 % 256 = (d : Int) := by
  refine ⟨n % 256, n / 256 % 256, n / 65536 % 256, n / 16777216 % 256, rfl, ?_, ?_⟩
  · simp only [IntKind.wrap_u8]
    refine ⟨?_, ?_, ?_, ?_⟩ <;> omega
  · refine ⟨?_, ?_, ?_, ?_⟩ <;> omega
set_option maxHeartbeats 4000000 in
set_option maxRecDepth 100000 in
theorem spTail_any (A : Option Addr) (c : Nat) (L : List Nat) (w : World) (h : LBt.Row w A L) (hb : Sm.Bytes L) (hl : L.length ≤ 1000000) :
    Calls Try.prog 15 #[.slice A L.length c] w (BtOwn (Sm.tail (Sm.of L)) w) := by
  --[
  have CO := Lib.hid (spOf_any A c L w h hb hl)
  obtain ⟨x0, x1, x2, x3, ht, ⟨q0, q1, q2, q3⟩, r0, r1, r2, r3⟩ := Sm.four (Sm.of L)
  rw [ht]
  generalize Sm.of L = n at CO q0 q1 q2 q3 r0 r1 r2 r3
  have HO := Lib.hid (own_madeB w [x0, x1, x2, x3] (by show 4 ≤ 1000000; decide))
  have HB := Lib.hid ((Below.refl w.heap.size w).alloc (Nat.le_refl _) (.cells (LBt.all [x0, x1, x2, x3]).toArray 5))
  clear h ht
  go_enter Try.func15, Try.ntmps15
  go_wp2_with fail
  refine CO.out.mono ?_; rintro e w1 ⟨rfl, rfl⟩
  go_wp2_with fail
  go_ret
  exact ⟨_, rfl, HO.out, HB.out⟩
  --]
theorem spConcat2 (A : Option Addr) (c : Nat) (L : List Nat) (B : Option Addr) (d : Nat) (M : List Nat) (g : Nat) (w : World) (hg : g < w.heap.size) (h0 : w.cell? ⟨g, 0, none⟩ = some (.slice A L.length c)) (h1 : w.cell? ⟨g, 1, none⟩ = some (.slice B M.length d))
    (hL : LBt.Row w A L) (hM : LBt.Row w B M) (hp : 0 < (L ++ M).length) (hl : (L ++ M).length ≤ 1000000) : Calls Try.prog 18 #[.slice (some ⟨g, 0, none⟩) 2 2] w (BtOwn (L ++ M) w) := by
  have e : Sm.catTo (fun k => if k = 0 then L else M) 2 = L ++ M := by
    show ([] ++ L) ++ M = _
    rw [List.nil_append]
  have := spConcat_any 2 g (fun k => if k = 0 then A else B) (fun k => if k = 0 then c else d) (fun k => if k = 0 then L else M) w hg (fun k hk => ?_) (fun k hk => ?_) (by decide) (by rw [e]; exact hp) (by rw [e]; exact hl)
  · rwa [e] at this
  · match k, hk with
    | 0, _ => exact h0
    | 1, _ => exact h1
  · match k, hk with
    | 0, _ => exact hL
    | 1, _ => exact hM
set_option maxHeartbeats 4000000 in
set_option maxRecDepth 100000 in
theorem spSeal_any (A : Option Addr) (c : Nat) (L : List Nat) (w : World) (h : LBt.Row w A L) (hb : Sm.Bytes L) (hl : L.length ≤ 100000) :
    Calls Try.prog 12 #[.slice A L.length c] w (BtOwn (Sm.sealed L) w) := by
  --[
  have CT := Lib.hid (spTail_any A c L w h hb (by omega))
  have HR := Lib.hid h
  have HL := Lib.hid (Sm.sealed_len L)
  clear h
  go_enter Try.func12, Try.ntmps12
  go_wp2_with fail
  refine CT.out.mono ?_; rintro e w1 ⟨v, rfl, ho, hb1⟩
  obtain ⟨h4, B, d, rfl, hd, hR⟩ := Lies.Row.of_own (E := LBt) ho
  have HO := Lib.hid (hb1.alloc hb1.size (.cells #[.slice A L.length c, .slice B (Sm.tail (Sm.of L)).length d] 22))
  have H1 := Lib.hid ((Below.refl w1.heap.size w1).alloc (Nat.le_refl _) (.cells #[.slice A L.length c, .slice B (Sm.tail (Sm.of L)).length d] 22))
  have CC := Lib.hid (spConcat2 A c L B d (Sm.tail (Sm.of L)) w1.heap.size (w1.alloc (.cells #[.slice A L.length c, .slice B (Sm.tail (Sm.of L)).length d] 22)) (by simp) (by
    rw [cell_of_row _ _ _ _ _ _ (heap_alloc_new w1 _)]; rfl) (by rw [cell_of_row _ _ _ _ _ _ (heap_alloc_new w1 _)]; rfl) (HR.out.below rfl HO.out) (hR.below rfl H1.out) (by
      rw [List.length_append, Sm.tail_len]; omega) (by rw [List.length_append, Sm.tail_len]; omega))
  clear ho hb1 hR hd CT
  go_wp2_with fail
  refine CC.out.mono ?_; rintro e w2 ⟨v, rfl, ho2, hb2⟩
  have HB2 := Lib.hid (HO.out.trans (hb2.mono HO.out.size))
  have HO2 := Lib.hid (own_low ho2 HO.out.size)
  clear ho2 hb2
  go_wp2_with fail
  go_ret
  exact ⟨v, rfl, HO2.out, HB2.out⟩
  --]
set_option maxHeartbeats 4000000 in
set_option maxRecDepth 100000 in
theorem spOpen_any (A : Option Addr) (c : Nat) (L : List Nat) (w : World) (h : LBt.Row w A L) (hb : Sm.Bytes L) (hl : L.length ≤ 100000) (hc : L.length ≤ c) :
    Calls Try.prog 8 #[.slice A L.length c] w (BtOk (Sm.opened L) (Sm.good L) w) := by
  --[
  by_cases h4 : L.length < 4
  · have d1 : decide ((L.length : Int) < 4) = true := dec_t (by omega)
    have e1 : Sm.good L = false := by unfold Sm.good; rw [decide_eq_false (by omega)]; rfl
    have e2 : Sm.opened L = [] := by unfold Sm.opened; rw [e1]; rfl
    have HB := Lib.hid (Below.refl w.heap.size w)
    rw [e1, e2]
    clear h
    go_enter Try.func8, Try.ntmps8
    go_wp2_with fail
    go_ret2
    exact ⟨none, 0, rfl, .inl rfl, Nat.le_refl _, HB.out⟩
  · obtain ⟨b, o, rfl, -⟩ := h.at (show 0 < L.length by omega)
    obtain ⟨m, hm⟩ : ∃ m, L.length = m + 4 := ⟨L.length - 4, by omega⟩
    have E1 : Sm.inner L = L.take m := by unfold Sm.inner; rw [hm, Nat.add_sub_cancel]
    have E2 : Sm.last L = L.drop m := by unfold Sm.last; rw [hm, Nat.add_sub_cancel]
    have l1 : (L.take m).length = m := by rw [List.length_take]; omega
    have l2 : (L.drop m).length = 4 := by rw [List.length_drop]; omega
    have b1 := hb.take m
    have b2 := hb.drop m
    have R1 := Lib.hid (fun W (hW : Below w.heap.size w W) => Lies.Row.take (E := LBt) (h.below rfl hW) m)
    have R2 := Lib.hid (fun W (hW : Below w.heap.size w W) => Lies.Row.drop (E := LBt) (h.below rfl hW) m)
    have HG := Lib.hid (show Sm.good L = decide (L.drop m = Sm.tail (Sm.of (L.take m))) from by unfold Sm.good; rw [E1, E2, decide_eq_true (by omega), Bool.true_and])
    have HP := Lib.hid (show Sm.opened L = if Sm.good L = true then L.take m else [] from by unfold Sm.opened; rw [E1])
    have d1 : decide ((L.length : Int) < 4) = false := dec_f (by omega)
    have q1 : IntKind.i64.wrap ((L.length : Int) - 4) = (m : Int) := by rw [IntWalk.i64_in _ (by omega)]; omega
    have q2 : (L.length : Int) - 4 = (m : Int) := by omega
    have hcm : ¬ c = m := by omega
    have CT := Lib.hid (fun W (hW : Below w.heap.size w W) => show Calls Try.prog 15 #[.slice (some ⟨b, o, none⟩) m c] W (BtOwn (Sm.tail (Sm.of (L.take m))) W) from by
      have := spTail_any (some ⟨b, o, none⟩) c (L.take m) W (R1.out _ hW) b1 (by omega)
      rwa [l1] at this)
    have BT := Lib.hid (Sm.tail_bytes (Sm.of (L.take m)))
    have B0 := Lib.hid (Below.refl w.heap.size w)
    clear h
    generalize Sm.good L = z at HG HP ⊢
    generalize Sm.opened L = M at HP ⊢
    go_enter Try.func8, Try.ntmps8
    go_upto_region 3 with fail
    go_quiet (fail)
    rename_i nq
    have B1 := Lib.hid (below_drewN B0.out nq)
    go_wp2_with fail
    refine (CT.out _ B1.out).mono ?_; rintro e w1 ⟨v, rfl, ho, hb1⟩
    obtain ⟨-, B, d, rfl, hd, hR⟩ := Lies.Row.of_own (E := LBt) ho
    have HB1 := Lib.hid (B1.out.trans (hb1.mono B1.out.size))
    have CE := Lib.hid (show Calls Try.prog 14 #[.slice (some ⟨b, o + m, none⟩) 4 (c - m), .slice B (Sm.tail (Sm.of (L.take m))).length d] w1 (fun e w' => e = .returned (.bool z) ∧ w' = w1) from by
      have := spEqual_any (some ⟨b, o + m, none⟩) (c - m) (L.drop m) B d (Sm.tail (Sm.of (L.take m))) w1 (by
        have h2 := R2.out _ HB1.out
        rwa [show m * LBt.m = m from Nat.mul_one m] at h2) b2 hR BT.out
      rwa [l2, ← HG.out] at this)
    have CC := Lib.hid (fun W (hW : Below w.heap.size w W) => show Calls Try.prog 16 #[.slice (some ⟨b, o, none⟩) m c] W (BtOwn (L.take m) W) from by
      have := spClone_any (some ⟨b, o, none⟩) c (L.take m) W (R1.out _ hW) (by omega)
      rwa [l1] at this)
    clear ho hb1 hR hd CT b1 b2
    go_wp2_with fail
    refine CE.out.mono ?_; rintro e w2 ⟨rfl, rfl⟩
    cases z
    · go_wp2_with fail
      go_ret2
      rw [HP.out]
      exact ⟨none, 0, rfl, .inl rfl, Nat.le_refl _, HB1.out⟩
    · go_wp2_with fail
      refine (CC.out _ HB1.out).mono ?_; rintro e w2 ⟨v, rfl, ho, hb⟩
      obtain ⟨-, B2, d2, rfl, hd, hR⟩ := Lies.Row.of_own (E := LBt) ho
      have HB2 := Lib.hid (HB1.out.trans (hb.mono HB1.out.size))
      have HR2 := Lib.hid hR
      have HD2 := Lib.hid hd
      clear hb ho hR hd CC
      go_wp2_with fail
      go_ret2
      rw [HP.out]
      exact ⟨B2, d2, by
        show _ = Ending.returned (.tuple #[.slice B2 (L.take m).length d2, .bool true])
        rw [l1] <;> rfl, HR2.out, HD2.out, HB2.out⟩
  --]
end Go.Proofs.Ytjofpclmbjpgjaa
