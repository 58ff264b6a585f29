/-
  Texts of this claim, merged: DemandSidesWalk.
-/
import Derived.Test.YtkdgcibkjhhpoaaMg01
import Derived.Test.YtkdgcibkjhhpoaaMg25
/-
  The walk of the law DemandSides: it returns true.
-/
namespace Go.Proofs.Ytkdgcibkjhhpoaa
open Go.RowKit

theorem posOf_byte {L : List (Int × Int)} (k : Int) : Dm.posOf (Dm.sets L) k = 0 ∨ Dm.posOf (Dm.sets L) k = 1 ∨ Dm.posOf (Dm.sets L) k = 2 := by
  by_cases h : Dm.posOf (Dm.sets L) k = 0
  · exact .inl h
  · exact .inr (Dm.posOf_sets L h)
set_option maxHeartbeats 16000000 in
set_option maxRecDepth 100000 in
theorem demandSides_walk (A : Option Addr) (c n : Nat) (L : List (Int × Int)) (A' : Option Addr) (c' n' : Nat) (M : List (Int × Int)) (pt : Int) (W : World) (hn : L.length = n) (hL : LPr.Row W A L) (_hc : n ≤ c) (_hl : n ≤ maxLen) (hx : ∀ x ∈ L, (0 ≤ x.1 ∧ x.1 < 256) ∧ 0 ≤ x.2 ∧ x.2 < 256) (hn' : M.length = n') (hM : LPr.Row W A' M) (_hc' : n' ≤ c') (_hl' : n' ≤ maxLen) (hx' : ∀ x ∈ M, (0 ≤ x.1 ∧ x.1 < 256) ∧ 0 ≤ x.2 ∧ x.2 < 256) (wp : (Lit.int .u8 pt).wf = true) :
    Calls Try.prog 5 #[.slice A n c, .slice A' n' c', .int .u8 pt] W fun e w' => e = .returned (.bool true) ∧ Below W.heap.size W w' := by
  have hp : 0 ≤ pt ∧ pt < 256 := by have := wf_u8 wp; omega
  clear wp
  subst hn hn'
  have HL0 := Lib.hid hL
  have HM0 := Lib.hid hM
  have HX := Lib.hid hx
  have HX' := Lib.hid hx'
  clear hL hM hx hx'
  have AW := Lib.hid dmAwake_any
  have T0 := Lib.hid (Below.refl W.heap.size W)
  by_cases h1 : 40 < L.length
  · have D1 : decide (40 < (L.length : Int)) = true := dec_t (by omega)
    go_enter Try.func5, Try.ntmps5
    go_wp2_with fail
    refine (AW.out _).mono ?_; rintro e w8 ⟨rfl, hb8⟩
    go_wp2
    go_ret
    exact ⟨rfl, hb8⟩
  have D1 : decide (40 < (L.length : Int)) = false := dec_f (by omega)
  by_cases h2 : 40 < M.length
  · have D2 : decide (40 < (M.length : Int)) = true := dec_t (by omega)
    go_enter Try.func5, Try.ntmps5
    go_wp2_with fail
    refine (AW.out _).mono ?_; rintro e w8 ⟨rfl, hb8⟩
    go_wp2
    go_ret
    exact ⟨rfl, hb8⟩
  have D2 : decide (40 < (M.length : Int)) = false := dec_f (by omega)
  go_enter Try.func5, Try.ntmps5
  go_wp2_with fail
  go_loopw [7, 9] (fun v1 v2 w' => ∃ (k : Nat) (B : Option Addr) (d : Nat), k ≤ L.length ∧ v2 = .int .i64 k ∧ v1 = .slice B (Dm.sets (L.take k)).length d ∧ LDem.Row w' B (Dm.sets (L.take k)) ∧ (Dm.sets (L.take k)).length ≤ d ∧ Below W.heap.size W w') (fun _ v2 _ => L.length - (intOf v2).toNat)
  case atStart => exact ⟨0, none, 0, Nat.zero_le _, rfl, rfl, .inl rfl, Nat.le_refl _, T0.out⟩
  case round =>
    obtain ⟨k, B, d, hk, rfl, rfl, hR, hd, hb⟩ := hrel
    have HB := Lib.hid hb
    have HR := Lib.hid hR
    have HD := Lib.hid hd
    have HS := Lib.hid (Dm.sets_len L k)
    clear hR hd
    by_cases hlt : k < L.length
    · have hy := List.getElem?_eq_getElem hlt
      obtain ⟨hy1, hy2⟩ := HX.out _ (List.getElem_mem hlt)
      obtain ⟨b1, o1, rfl, g1, on⟩ := (HL0.out.below rfl hb).at hlt
      have HN := Lib.hid (Dm.sets_take hy)
      generalize L[k] = y at hy1 hy2 on HN
      obtain ⟨r0, r1⟩ := pr_on on
      rw [show k * LPr.m = k * 2 from rfl] at r0 r1
      obtain ⟨p0, q0⟩ := y
      simp only at r0 r1 hy1 hy2
      have d1 : decide ((k : Int) < (L.length : Int)) = true := dec_t (by omega)
      have j0 : (0 : Int) ≤ (k : Int) := Int.natCast_nonneg k
      have j1 : (k : Int) < (L.length : Int) := by omega
      have KS := Lib.hid (fun W' (hW : Below wr.heap.size wr W') => And.intro ((hW.cell (p := ⟨b1, o1 + k * 2, none⟩) g1).trans r0) ((hW.cell (p := ⟨b1, o1 + k * 2 + 1, none⟩) g1).trans r1))
      have U0 := Lib.hid (Below.refl wr.heap.size wr)
      have q1 : IntKind.i64.wrap p0 = p0 := IntWalk.i64_in _ (by omega)
      have q2 : q0.tmod 2 = q0 % 2 := Int.tmod_eq_emod_of_nonneg hy2.1
      have q3 : IntKind.i64.wrap (q0 % 2) = q0 % 2 := IntWalk.i64_in _ (by omega)
      have q4 : IntKind.i64.wrap (1 + q0 % 2) = 1 + q0 % 2 := IntWalk.i64_in _ (by omega)
      have CU := Lib.hid (fun W' (hW : Below wr.heap.size wr W') => DemMade.of (n := (Dm.sets (L.take (k + 1))).length) (by rw [HN.out]; rfl) hW (pdPut_any B d (Dm.sets (L.take k)) ⟨p0, 1 + q0 % 2⟩ W' (HR.out.below rfl hW) (by have := HS.out; omega) HD.out))
      clear hb hy on
      go_upto_region 7 with fail
      go_region_held3 (fun W' => W'.cell? ⟨b1, o1 + k * 2, none⟩ = some (.int .u8 p0) ∧ W'.cell? ⟨b1, o1 + k * 2 + 1, none⟩ = some (.int .u8 q0))
        (first | with_reducible exact KS.out _ h1 | with_reducible exact KS.out _ U0.out.drew | with_reducible exact KS.out _ U0.out | (go_keep; done))
        (first
          | (go_at_call 11; (with_reducible refine (CU.out _ U0.out.drew).mono ?_); rintro e1 z1 ⟨B1, d1, rfl, hR1, hd1, -, h1⟩))
      all_goals go_wp2_with fail
      all_goals go_roundw
      all_goals first
        | exact ⟨k + 1, B1, d1, by omega, by go_num, rfl, by rw [HN.out]; exact hR1, hd1, HB.out.trans (h1.mono HB.out.size)⟩
        | (simp [intOf]; omega)
    · obtain rfl : k = L.length := by omega
      have d1 : decide ((L.length : Int) < (L.length : Int)) = false := dec_f (by omega)
      rw [List.take_length] at HR HD HS ⊢
      have HG := Lib.hid (Dm.sets_good L)
      generalize Dm.sets L = SA at HR HD HS HG ⊢
      have HDA := HD.out
      have RA := Lib.hid (fun W' (hW : Below wr.heap.size wr W') => HR.out.below rfl hW)
      have HB1 := Lib.hid (fun W' (hW : Below wr.heap.size wr W') => HB.out.trans (hW.mono HB.out.size))
      have T1 := Lib.hid (Below.refl wr.heap.size wr)
      have hsa : SA.length ≤ 40 := by have := HS.out; omega
      generalize hwr : wr = w1 at RA HB1 T1 ⊢
      clear hwr hb
      go_wp2_with fail
      go_loopw [8, 10] (fun v1 v2 w' => ∃ (k : Nat) (B : Option Addr) (d : Nat), k ≤ M.length ∧ v2 = .int .i64 k ∧ v1 = .slice B (Dm.sets (M.take k)).length d ∧ LDem.Row w' B (Dm.sets (M.take k)) ∧ (Dm.sets (M.take k)).length ≤ d ∧ Below w1.heap.size w1 w') (fun _ v2 _ => M.length - (intOf v2).toNat)
      case atStart => exact ⟨0, none, 0, Nat.zero_le _, rfl, rfl, .inl rfl, Nat.le_refl _, T1.out⟩
      case round =>
        obtain ⟨k, B', d', hk, rfl, rfl, hR, hd, hb⟩ := hrel
        have HB := Lib.hid hb
        have HR := Lib.hid hR
        have HD := Lib.hid hd
        have HS := Lib.hid (Dm.sets_len M k)
        clear hR hd
        by_cases hlt : k < M.length
        · have hy := List.getElem?_eq_getElem hlt
          obtain ⟨hy1, hy2⟩ := HX'.out _ (List.getElem_mem hlt)
          obtain ⟨b1, o1, rfl, g1, on⟩ := (HM0.out.below rfl (HB1.out _ hb)).at hlt
          have HN := Lib.hid (Dm.sets_take hy)
          generalize M[k] = y at hy1 hy2 on HN
          obtain ⟨r0, r1⟩ := pr_on on
          rw [show k * LPr.m = k * 2 from rfl] at r0 r1
          obtain ⟨p0, q0⟩ := y
          simp only at r0 r1 hy1 hy2
          have d1 : decide ((k : Int) < (M.length : Int)) = true := dec_t (by omega)
          have j0 : (0 : Int) ≤ (k : Int) := Int.natCast_nonneg k
          have j1 : (k : Int) < (M.length : Int) := by omega
          have KS := Lib.hid (fun W' (hW : Below wr.heap.size wr W') => And.intro ((hW.cell (p := ⟨b1, o1 + k * 2, none⟩) g1).trans r0) ((hW.cell (p := ⟨b1, o1 + k * 2 + 1, none⟩) g1).trans r1))
          have U0 := Lib.hid (Below.refl wr.heap.size wr)
          have q1 : IntKind.i64.wrap p0 = p0 := IntWalk.i64_in _ (by omega)
          have q2 : q0.tmod 2 = q0 % 2 := Int.tmod_eq_emod_of_nonneg hy2.1
          have q3 : IntKind.i64.wrap (q0 % 2) = q0 % 2 := IntWalk.i64_in _ (by omega)
          have q4 : IntKind.i64.wrap (1 + q0 % 2) = 1 + q0 % 2 := IntWalk.i64_in _ (by omega)
          have CU := Lib.hid (fun W' (hW : Below wr.heap.size wr W') => DemMade.of (n := (Dm.sets (M.take (k + 1))).length) (by rw [HN.out]; rfl) hW (pdPut_any B' d' (Dm.sets (M.take k)) ⟨p0, 1 + q0 % 2⟩ W' (HR.out.below rfl hW) (by have := HS.out; omega) HD.out))
          clear hb hy on
          go_upto_region 11 with fail
          go_region_held3 (fun W' => W'.cell? ⟨b1, o1 + k * 2, none⟩ = some (.int .u8 p0) ∧ W'.cell? ⟨b1, o1 + k * 2 + 1, none⟩ = some (.int .u8 q0))
            (first | with_reducible exact KS.out _ h1 | with_reducible exact KS.out _ U0.out.drew | with_reducible exact KS.out _ U0.out | (go_keep; done))
            (first
              | (go_at_call 11; (with_reducible refine (CU.out _ U0.out.drew).mono ?_); rintro e1 z1 ⟨B1, d1, rfl, hR1, hd1, -, h1⟩))
          all_goals go_wp2_with fail
          all_goals go_roundw
          all_goals first
            | exact ⟨k + 1, B1, d1, by omega, by go_num, rfl, by rw [HN.out]; exact hR1, hd1, HB.out.trans (h1.mono HB.out.size)⟩
            | (simp [intOf]; omega)
        · obtain rfl : k = M.length := by omega
          have d1 : decide ((M.length : Int) < (M.length : Int)) = false := dec_f (by omega)
          rw [List.take_length] at HR HD HS ⊢
          have HG' := Lib.hid (Dm.sets_good M)
          have HP := posOf_byte (L := M) pt
          have hpb := fun (k : Int) => Dm.posOf_sets M (k := k)
          generalize Dm.sets M = SB at HR HD HS HG' HP hpb ⊢
          have hsb : SB.length ≤ 40 := by have := HS.out; omega
          have RB := Lib.hid (fun W' (hW : Below wr.heap.size wr W') => HR.out.below rfl hW)
          have RA2 := Lib.hid (fun W' (hW : Below wr.heap.size wr W') => RA.out _ (HB.out.trans (hW.mono HB.out.size)))
          have BL := Lib.hid (fun W' (hW : Below wr.heap.size wr W') => HB1.out _ (HB.out.trans (hW.mono HB.out.size)))
          have T2 := Lib.hid (Below.refl wr.heap.size wr)
          generalize hwr : wr = w2 at RB RA2 BL T2 ⊢
          have O1 := Lib.hid (fun W' (hW : Below w2.heap.size w2 W') => pdOpposed_any B d SA B' d' SB W' (RA2.out _ hW) (by omega) (RB.out _ hW) (by omega))
          have O2 := Lib.hid (fun W' (hW : Below w2.heap.size w2 W') => pdOpposed_any B' d' SB B d SA W' (RB.out _ hW) (by omega) (RA2.out _ hW) (by omega))
          rw [← Dm.opposed_comm HG.out HG'.out] at O2
          have q1 : IntKind.i64.wrap pt = pt := IntWalk.i64_in _ (by omega)
          have P1 := Lib.hid (fun W' (hW : Below w2.heap.size w2 W') => pdPosition_any B' d' SB pt W' (RB.out _ hW) (by omega))
          have P2 := Lib.hid (fun W' (hW : Below w2.heap.size w2 W') => pdPosition_any B d SA pt W' (RA2.out _ hW) (by omega))
          have CU := Lib.hid (fun z W' (hW : Below w2.heap.size w2 W') => DemMade.of (n := (Dm.put SA ⟨pt, z⟩).length) rfl hW (pdPut_any B d SA ⟨pt, z⟩ W' (RA2.out _ hW) (by omega) HDA))
          have HF := Lib.hid (fun h => Dm.opposed_put_free (b := SB) HG.out (x := ⟨pt, 1⟩) (by show (1 : Int) ≠ 0; decide) h)
          generalize Dm.opposed SA SB = ob at O1 O2 HF
          have E0 : (ob != ob) = false := bne_self_eq_false ob
          have E1 : (ob == ob) = true := beq_self_eq_true ob
          clear hwr hb hpb
          rcases HP with hn | hn | hn
          · have HQ := Lib.hid (HF.out hn)
            rw [hn] at P1
            clear hn
            go_wp2_with fail
            refine (O1.out _ T2.out).mono ?_; rintro e w3 ⟨rfl, hb⟩
            have T3 := Lib.hid hb
            clear hb
            go_wp2_with fail
            refine (O2.out _ T3.out).mono ?_; rintro e w4 ⟨rfl, hb⟩
            have T4 := Lib.hid (T3.out.trans (hb.mono T3.out.size))
            clear hb
            go_wp2_with fail
            refine (P1.out _ T4.out).mono ?_; rintro e w5 ⟨rfl, hb⟩
            have T5 := Lib.hid (T4.out.trans (hb.mono T4.out.size))
            clear hb
            go_wp2_with fail
            refine (AW.out _).mono ?_; rintro e w6 ⟨rfl, hb⟩
            have T6 := Lib.hid (T5.out.trans (hb.mono T5.out.size))
            clear hb
            go_wp2_with fail
            refine (CU.out 1 _ T6.out).mono ?_; rintro e w8 ⟨B8, d8, rfl, hR8, -, -, hb⟩
            have T8 := Lib.hid hb
            have C8 := Lib.hid (pdOpposed_any B8 d8 (Dm.put SA ⟨pt, 1⟩) B' d' SB w8 hR8 (by have := Dm.put_len SA ⟨pt, 1⟩; omega) (RB.out _ hb) (by omega))
            rw [HQ.out] at C8
            generalize (Dm.put SA ⟨pt, 1⟩).length = nn at C8 ⊢
            clear hb hR8
            go_wp2_with fail
            refine C8.out.mono ?_; rintro e w9 ⟨rfl, hb⟩
            have T9 := Lib.hid (T8.out.trans (hb.mono T8.out.size))
            clear hb C8
            go_wp2_with fail
            go_ret
            exact ⟨rfl, BL.out _ T9.out⟩
          · rw [hn] at P1
            have hm2 : Dm.posOf SB pt ≠ 0 := by rw [hn]; decide
            have qq : IntKind.i64.wrap (3 - 1) = 2 := by decide
            have q5 : IntKind.i64.wrap (2 : Int) = 2 := by decide
            go_wp2_with fail
            refine (O1.out _ T2.out).mono ?_; rintro e w3 ⟨rfl, hb⟩
            have T3 := Lib.hid hb
            clear hb
            go_wp2_with fail
            refine (O2.out _ T3.out).mono ?_; rintro e w4 ⟨rfl, hb⟩
            have T4 := Lib.hid (T3.out.trans (hb.mono T3.out.size))
            clear hb
            go_wp2_with fail
            refine (P1.out _ T4.out).mono ?_; rintro e w5 ⟨rfl, hb⟩
            have T5 := Lib.hid (T4.out.trans (hb.mono T4.out.size))
            clear hb
            go_wp2_with fail
            refine (AW.out _).mono ?_; rintro e w6 ⟨rfl, hb⟩
            have T6 := Lib.hid (T5.out.trans (hb.mono T5.out.size))
            clear hb
            by_cases hm : Dm.posOf SA pt = 0
            · have HQ := Lib.hid (show Dm.opposed (Dm.put SA ⟨pt, 2⟩) SB = true from Dm.opposed_put_other HG.out (x := ⟨pt, 2⟩) (by show (2 : Int) ≠ 0; decide) hm2 hm (by show Dm.posOf SB pt ≠ 2; rw [hn]; decide))
              rw [hm] at P2
              clear hm hm2 hn
              go_wp2_with fail
              refine (P2.out _ T6.out).mono ?_; rintro e w7 ⟨rfl, hb⟩
              have T7 := Lib.hid (T6.out.trans (hb.mono T6.out.size))
              clear hb
              go_wp2_with fail
              refine (CU.out 2 _ T7.out).mono ?_; rintro e w8 ⟨B8, d8, rfl, hR8, -, -, hb⟩
              have T8 := Lib.hid hb
              have C8 := Lib.hid (pdOpposed_any B8 d8 (Dm.put SA ⟨pt, 2⟩) B' d' SB w8 hR8 (by have := Dm.put_len SA ⟨pt, 2⟩; omega) (RB.out _ hb) (by omega))
              rw [HQ.out] at C8
              generalize (Dm.put SA ⟨pt, 2⟩).length = nn at C8 ⊢
              clear hb hR8
              go_wp2_with fail
              refine C8.out.mono ?_; rintro e w9 ⟨rfl, hb⟩
              have T9 := Lib.hid (T8.out.trans (hb.mono T8.out.size))
              clear hb C8
              go_wp2_with fail
              go_ret
              exact ⟨rfl, BL.out _ T9.out⟩
            · have E9 : (Dm.posOf SA pt != 0) = true := by rw [bne_iff_ne]; exact hm
              generalize Dm.posOf SA pt = m at P2 E9
              clear hm hm2 hn
              go_wp2_with fail
              refine (P2.out _ T6.out).mono ?_; rintro e w7 ⟨rfl, hb⟩
              have T7 := Lib.hid (T6.out.trans (hb.mono T6.out.size))
              clear hb
              go_wp2_with fail
              go_ret
              exact ⟨rfl, BL.out _ T7.out⟩
          · rw [hn] at P1
            have hm2 : Dm.posOf SB pt ≠ 0 := by rw [hn]; decide
            have qq : IntKind.i64.wrap (3 - 2) = 1 := by decide
            have q5 : IntKind.i64.wrap (1 : Int) = 1 := by decide
            go_wp2_with fail
            refine (O1.out _ T2.out).mono ?_; rintro e w3 ⟨rfl, hb⟩
            have T3 := Lib.hid hb
            clear hb
            go_wp2_with fail
            refine (O2.out _ T3.out).mono ?_; rintro e w4 ⟨rfl, hb⟩
            have T4 := Lib.hid (T3.out.trans (hb.mono T3.out.size))
            clear hb
            go_wp2_with fail
            refine (P1.out _ T4.out).mono ?_; rintro e w5 ⟨rfl, hb⟩
            have T5 := Lib.hid (T4.out.trans (hb.mono T4.out.size))
            clear hb
            go_wp2_with fail
            refine (AW.out _).mono ?_; rintro e w6 ⟨rfl, hb⟩
            have T6 := Lib.hid (T5.out.trans (hb.mono T5.out.size))
            clear hb
            by_cases hm : Dm.posOf SA pt = 0
            · have HQ := Lib.hid (show Dm.opposed (Dm.put SA ⟨pt, 1⟩) SB = true from Dm.opposed_put_other HG.out (x := ⟨pt, 1⟩) (by show (1 : Int) ≠ 0; decide) hm2 hm (by show Dm.posOf SB pt ≠ 1; rw [hn]; decide))
              rw [hm] at P2
              clear hm hm2 hn
              go_wp2_with fail
              refine (P2.out _ T6.out).mono ?_; rintro e w7 ⟨rfl, hb⟩
              have T7 := Lib.hid (T6.out.trans (hb.mono T6.out.size))
              clear hb
              go_wp2_with fail
              refine (CU.out 1 _ T7.out).mono ?_; rintro e w8 ⟨B8, d8, rfl, hR8, -, -, hb⟩
              have T8 := Lib.hid hb
              have C8 := Lib.hid (pdOpposed_any B8 d8 (Dm.put SA ⟨pt, 1⟩) B' d' SB w8 hR8 (by have := Dm.put_len SA ⟨pt, 1⟩; omega) (RB.out _ hb) (by omega))
              rw [HQ.out] at C8
              generalize (Dm.put SA ⟨pt, 1⟩).length = nn at C8 ⊢
              clear hb hR8
              go_wp2_with fail
              refine C8.out.mono ?_; rintro e w9 ⟨rfl, hb⟩
              have T9 := Lib.hid (T8.out.trans (hb.mono T8.out.size))
              clear hb C8
              go_wp2_with fail
              go_ret
              exact ⟨rfl, BL.out _ T9.out⟩
            · have E9 : (Dm.posOf SA pt != 0) = true := by rw [bne_iff_ne]; exact hm
              generalize Dm.posOf SA pt = m at P2 E9
              clear hm hm2 hn
              go_wp2_with fail
              refine (P2.out _ T6.out).mono ?_; rintro e w7 ⟨rfl, hb⟩
              have T7 := Lib.hid (T6.out.trans (hb.mono T6.out.size))
              clear hb
              go_wp2_with fail
              go_ret
              exact ⟨rfl, BL.out _ T7.out⟩
end Go.Proofs.Ytkdgcibkjhhpoaa
