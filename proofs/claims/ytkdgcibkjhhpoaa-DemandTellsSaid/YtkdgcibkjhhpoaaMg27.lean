/-
  Texts of this claim, merged: DemandTellsWalk.
-/
import Derived.Test.YtkdgcibkjhhpoaaMg25
/-
  The walk of the law DemandTells: it returns true.
-/
namespace Go.Proofs.Ytkdgcibkjhhpoaa
open Go.RowKit

theorem infoSt9 : (Try.prog.info? 34).map (fun i => (i.zero, i.size, i.bytes)) = some (some (.agg #[.int .i64 0, .int .i64 0, .int .i64 0]), 3, 24) := by kernel_rfl
/-- The step that a demand tells. -/
def Dm.stepOf (x : Dm.Dem) : Wk.Stp := ⟨x.pt, 0, x.pos⟩
theorem Dm.map_take {L : List Dm.Dem} {k : Nat} {y : Dm.Dem} (h : L[k]? = some y) : (L.take (k + 1)).map Dm.stepOf = (L.take k).map Dm.stepOf ++ [Dm.stepOf y] := by
  rw [List.take_add_one, h, List.map_append]; rfl
set_option maxHeartbeats 16000000 in
set_option maxRecDepth 100000 in
theorem demandTells_walk (s : ByteArray) (A : Option Addr) (c n : Nat) (L : List Dm.Dem) (A' : Option Addr) (c' n' : Nat) (M : List Dm.Dem) (W : World) (_ws : s.size ≤ maxLen) (hn : L.length = n) (hL : LDem.Row W A L) (hc : n ≤ c) (_hl : n ≤ maxLen) (hn' : M.length = n') (hM : LDem.Row W A' M) (_hc' : n' ≤ c') (_hl' : n' ≤ maxLen) :
    Calls Try.prog 3 #[.string s, .slice A n c, .slice A' n' c'] W fun e w' => e = .returned (.bool true) ∧ Below W.heap.size W w' := by
  subst hn hn'
  have HL0 := Lib.hid hL
  have HM0 := Lib.hid hM
  clear hL hM
  have AW := Lib.hid dmAwake_any
  cases hm : madeP s.data.toList with
  | none =>
    have CM := Lib.hid (fun W => made_void hm W)
    have E1 : (decide (30 < (L.length : Int)) = true ∧ True) ∨ (decide (30 < (L.length : Int)) = false ∧ decide (30 < (M.length : Int)) = true) ∨ (decide (30 < (L.length : Int)) = false ∧ decide (30 < (M.length : Int)) = false) := by
      by_cases h1 : 30 < (L.length : Int)
      · exact .inl ⟨dec_t h1, trivial⟩
      · by_cases h2 : 30 < (M.length : Int)
        · exact .inr (.inl ⟨dec_f h1, dec_t h2⟩)
        · exact .inr (.inr ⟨dec_f h1, dec_f h2⟩)
    go_enter Try.func3, Try.ntmps3
    go_wp2_with fail
    refine (CM.out _).mono ?_; rintro e w1 ⟨p, S, cS, G, cG, rfl, -, hb1⟩
    have B5 := Lib.hid (hb1.alloc hb1.size (planO p S cS G cG))
    clear hb1
    rcases E1 with ⟨D1, -⟩ | ⟨D1, D2⟩ | ⟨D1, D2⟩
    all_goals go_wp2_with fail
    all_goals (refine (AW.out _).mono ?_; rintro e w8 ⟨rfl, hb8⟩)
    all_goals go_wp2
    all_goals go_ret
    all_goals exact ⟨rfl, B5.out.trans (hb8.mono B5.out.size)⟩
  | some p =>
    obtain ⟨hfit, -⟩ := madeP_some hm
    have CM := Lib.hid (fun W => made_some hm W)
    clear hm
    go_enter Try.func3, Try.ntmps3
    go_wp2_with fail
    refine (CM.out _).mono ?_; rintro e w1 ⟨S, cS, G, cG, rfl, pin, hb1⟩
    have X1 := (Below.refl w1.heap.size w1).alloc (Nat.le_refl _) (planO p S cS G cG)
    have B5 := Lib.hid (hb1.trans (X1.mono hb1.size))
    have I5 := Lib.hid (pin.below X1)
    have RP := Lib.hid (heap_alloc_new w1 (planO p S cS G cG))
    clear hb1 pin CM X1
    by_cases h1 : 30 < L.length
    · have D1 : decide (30 < (L.length : Int)) = true := dec_t (by omega)
      go_wp2_with fail
      refine (AW.out _).mono ?_; rintro e w8 ⟨rfl, hb8⟩
      go_wp2
      go_ret
      exact ⟨rfl, B5.out.trans (hb8.mono B5.out.size)⟩
    have D1 : decide (30 < (L.length : Int)) = false := dec_f (by omega)
    by_cases h2 : 30 < M.length
    · have D2 : decide (30 < (M.length : Int)) = true := dec_t (by omega)
      go_wp2_with fail
      refine (AW.out _).mono ?_; rintro e w8 ⟨rfl, hb8⟩
      go_wp2
      go_ret
      exact ⟨rfl, B5.out.trans (hb8.mono B5.out.size)⟩
    have D2 : decide (30 < (M.length : Int)) = false := dec_f (by omega)
    go_upto_region 4 with fail
    generalize w1.alloc (planO p S cS G cG) = w5 at B5 I5 RP ⊢
    generalize w1.heap.size = gq at RP ⊢
    have gp := (Array.getElem?_eq_some_iff.1 RP.out).1
    have KP := Lib.hid (fun W' (hW : Below w5.heap.size w5 W') => (row6 ((hW.block _ gp).trans RP.out)).1)
    have T5 := Lib.hid (Below.refl w5.heap.size w5)
    have HL := Lib.hid (fun W' (hW : Below w5.heap.size w5 W') => HL0.out.below rfl (B5.out.trans (hW.mono B5.out.size)))
    have HM := Lib.hid (fun W' (hW : Below w5.heap.size w5 W') => HM0.out.below rfl (B5.out.trans (hW.mono B5.out.size)))
    obtain ⟨i0', hi, hz0, hz1, hz2⟩ := info_parts infoSt9
    go_wp2_with fail
    go_loopw [9, 10] (fun v1 v2 w' => ∃ k : Nat, k ≤ L.length ∧ v2 = .int .i64 k ∧ w'.ownsRow w5.heap.size 34 LStp.m v1 k (LStp.all ((L.take k).map Dm.stepOf)) ∧ Below w5.heap.size w5 w') (fun _ v2 _ => L.length - (intOf v2).toNat)
    case atStart => exact ⟨0, Nat.zero_le _, rfl, World.ownsRow_nil _ _ _ _, T5.out⟩
    case round =>
      obtain ⟨k, hk, rfl, hown, hb⟩ := hrel
      have HB := Lib.hid hb
      by_cases hlt : k < L.length
      · have OW := Lib.hid hown
        have hy := List.getElem?_eq_getElem hlt
        obtain ⟨b1, o1, rfl, g1, on⟩ := (HL.out _ T5.out).at hlt
        generalize L[k] = y at hy on
        obtain ⟨r0, r1⟩ := dem_on on
        rw [show k * LDem.m = k * 2 from rfl] at r0 r1
        have d1 : decide ((k : Int) < (L.length : Int)) = true := dec_t (by omega)
        have j0 : (0 : Int) ≤ (k : Int) := Int.natCast_nonneg k
        have j1 : (k : Int) < (L.length : Int) := by omega
        have HN := Lib.hid (Dm.map_take hy)
        have hz := hb.size
        obtain ⟨p0, q0⟩ := y
        simp only at r0 r1
        have KS := Lib.hid (fun W' (hW : Below w5.heap.size w5 W') => And.intro ((hW.cell (p := ⟨b1, o1 + k * 2, none⟩) g1).trans r0) ((hW.cell (p := ⟨b1, o1 + k * 2 + 1, none⟩) g1).trans r1))
        clear r0 r1
        obtain ⟨r0, r1⟩ := KS.out _ HB.out
        have hbs := HB.out.size
        clear hown hb hy on
        go_upto_region 8 with fail
        go_region_held3 (fun W' => W'.cell? ⟨b1, o1 + k * 2, none⟩ = some (.int .i64 p0) ∧ W'.cell? ⟨b1, o1 + k * 2 + 1, none⟩ = some (.int .i64 q0))
          (first | with_reducible exact KS.out _ h9 | with_reducible exact KS.out _ HB.out.drew | with_reducible exact KS.out _ (HB.out.alloc hbs _) | with_reducible exact KS.out _ (HB.out.alloc hbs _).drew | (go_keep; done))
          (first
          | (refine step_append_at LStp (by rfl) (.tmp 36) (.tmp 48) 30 (by rfl) w5.heap.size 34 i0' _ 24 Try.underlying30 hi hz0 hz1 hz2 rfl _ k (LStp.all ((L.take k).map Dm.stepOf)) (by rfl) ((OW.out.alloc _).drew) (some ⟨wr.heap.size, 0, none⟩) 1 1 [⟨p0, 0, q0⟩] (by rfl) rfl (stp_row1 wr ⟨p0, 0, q0⟩ rfl) (by unfold maxLen; omega) (by omega) (by simp; omega) ?_
             intro v1 w3 hown1 hg1
             have h9 : Below w5.heap.size w5 w3 := Below.grown ((HB.out.alloc hbs _).drew) hg1 (by simp; omega) (fun g hg => (OW.out.lt g hg).1)))
        all_goals go_wp2_with fail
        all_goals go_roundw
        case rel => exact ⟨k + 1, by omega, by go_num, by rw [HN.out, LStp.all_append]; exact hown1, h9⟩
        case measure => simp [intOf]; omega
      · obtain rfl : k = L.length := by omega
        have d1 : decide ((L.length : Int) < (L.length : Int)) = false := dec_f (by omega)
        rw [List.take_length] at hown
        have HS := Lib.hid (show w5.heap.size ≤ wr.heap.size from hb.size)
        obtain ⟨hlen, B9, d9, rfl, -, hR9⟩ := Lies.Row.of_own (E := LStp) hown
        have hll : (L.map Dm.stepOf).length = L.length := List.length_map ..
        have HR9 := Lib.hid hR9
        generalize L.map Dm.stepOf = SL at HR9 hll
        have T9 := Lib.hid (fun W' (hW : Below wr.heap.size wr W') => HB.out.trans (hW.mono HS.out))
        have R9 := Lib.hid (fun W' (hW : Below wr.heap.size wr W') => HR9.out.below rfl hW)
        have T0 := Lib.hid (Below.refl wr.heap.size wr)
        clear hown hb hR9 hlen hk i0' hi hz0 hz1 hz2
        generalize hwr : wr = w9 at HB HS HR9 T9 R9 T0 ⊢
        clear hwr
        go_wp2_with fail
        go_loopw [11] (fun v w' => ∃ k : Nat, k ≤ M.length ∧ v = .int .i64 k ∧ Below w9.heap.size w9 w') (fun v _ => M.length - (intOf v).toNat)
        case atStart => exact ⟨0, Nat.zero_le _, rfl, T0.out⟩
        case round =>
          obtain ⟨k, hk, rfl, hb⟩ := hrel
          have HB2 := Lib.hid hb
          clear hb
          by_cases hlt : k < M.length
          · have d1 : decide ((k : Int) < (M.length : Int)) = true := dec_t (by omega)
            have j0 : (0 : Int) ≤ (k : Int) := Int.natCast_nonneg k
            have j1 : (k : Int) < (M.length : Int) := by omega
            obtain ⟨b1, o1, rfl, g1, on⟩ := (HM.out _ (T9.out _ HB2.out)).at hlt
            generalize M[k] = y at on
            obtain ⟨r0, r1⟩ := dem_on on
            rw [show k * LDem.m = k * 2 from rfl] at r0 r1
            obtain ⟨p0, q0⟩ := y
            simp only at r0 r1
            have KS := Lib.hid (fun W' (hW : Below wr.heap.size wr W') => And.intro ((hW.cell (p := ⟨b1, o1 + k * 2, none⟩) g1).trans r0) ((hW.cell (p := ⟨b1, o1 + k * 2 + 1, none⟩) g1).trans r1))
            have U0 := Lib.hid (Below.refl wr.heap.size wr)
            have HA := Lib.hid (fun W' (hW : Below wr.heap.size wr W') => HL.out _ (T9.out _ (HB2.out.trans (hW.mono HB2.out.size))))
            have C1 := Lib.hid (fun W' (hW : Below wr.heap.size wr W') => Made.of (w := wr) hW (pdPosition_any A c L p0 W' (HA.out _ hW) (by omega)))
            have C2 := Lib.hid (fun W' (hW : Below wr.heap.size wr W') => Made.of (w := wr) hW (rdPosition_any A c L p0 W' (HA.out _ hW) (by omega)))
            have hput := Dm.put_len L ⟨p0, q0⟩
            have DN : (Dm.posOf L p0 != Dm.posOf L p0) = false := by rw [bne_eq_false_iff_eq]
            generalize Dm.posOf L p0 = z at C1 C2 DN
            have C3 := Lib.hid (fun W' (hW : Below wr.heap.size wr W') => DemMade.of (n := (Dm.put L ⟨p0, q0⟩).length) rfl hW (pdPut_any A c L ⟨p0, q0⟩ W' (HA.out _ hW) (by omega) hc))
            have C4 := Lib.hid (fun W' (hW : Below wr.heap.size wr W') => DemMade.of (n := (Dm.put L ⟨p0, q0⟩).length) rfl hW (rdPut_any A c L ⟨p0, q0⟩ W' (HA.out _ hW) (by omega) hc))
            have CS := Lib.hid (fun B1 d1 B2 d2 W' (h1 : LDem.Row W' B1 (Dm.put L ⟨p0, q0⟩)) (h2 : LDem.Row W' B2 (Dm.put L ⟨p0, q0⟩)) (hW : Below wr.heap.size wr W') => Made.of (w := wr) hW (same_dems (d1 := d1) (d2 := d2) (n := (Dm.put L ⟨p0, q0⟩).length) rfl h1 h2 (by omega)))
            generalize Dm.put L ⟨p0, q0⟩ = PL at C3 C4 CS hput
            generalize PL.length = pn at C3 C4 CS hput
            clear on hput
            go_upto_region 12 with fail
            go_region_held3 (fun W' => W'.cell? ⟨b1, o1 + k * 2, none⟩ = some (.int .i64 p0) ∧ W'.cell? ⟨b1, o1 + k * 2 + 1, none⟩ = some (.int .i64 q0))
              (first | with_reducible exact KS.out _ h5 | with_reducible exact KS.out _ h4 | with_reducible exact KS.out _ h3 | with_reducible exact KS.out _ h2 | with_reducible exact KS.out _ h1 | with_reducible exact KS.out _ U0.out.drew | with_reducible exact KS.out _ U0.out | (go_keep; done))
              (first
                | (go_at_call 8; (first | (with_reducible refine (C1.out _ h2).mono ?_) | (with_reducible refine (C1.out _ U0.out.drew).mono ?_)); rintro e1 z1 ⟨rfl, hb1, h1, -⟩)
                | (go_at_call 9; (first | (with_reducible refine (C2.out _ h1).mono ?_) | (with_reducible refine (C2.out _ U0.out.drew).mono ?_)); rintro e2 z2 ⟨rfl, hb2, h2, -⟩)
                | (go_at_call 11; (first | (with_reducible refine (C3.out _ h4).mono ?_) | (with_reducible refine (C3.out _ h2).mono ?_) | (with_reducible refine (C3.out _ h1).mono ?_)); rintro e3 z3 ⟨B3, d3, rfl, hR3, -, hb3, h3⟩)
                | (go_at_call 12; (first | (with_reducible refine (C4.out _ h3).mono ?_) | (with_reducible refine (C4.out _ h2).mono ?_) | (with_reducible refine (C4.out _ h1).mono ?_)); rintro e4 z4 ⟨B4, d4, rfl, hR4, -, hb4, h4⟩)
                | (go_at_call 10; (first | (with_reducible refine (CS.out _ _ _ _ _ (hR3.below rfl hb4) hR4 h4).mono ?_) | (with_reducible refine (CS.out _ _ _ _ _ hR3 (hR4.below rfl hb3) h3).mono ?_)); rintro e5 z5 ⟨rfl, hb5, h5, -⟩))
            all_goals go_wp2_with fail
            all_goals go_roundw
            all_goals first
              | exact ⟨k + 1, by omega, by go_num, HB2.out.trans (h5.mono HB2.out.size)⟩
              | (simp [intOf]; omega)
          · obtain rfl : k = M.length := by omega
            have d1 : decide ((M.length : Int) < (M.length : Int)) = false := dec_f (by omega)
            have U0 := Lib.hid (Below.refl wr.heap.size wr)
            have T5r := Lib.hid (fun W' (hW : Below wr.heap.size wr W') => T9.out _ (HB2.out.trans (hW.mono HB2.out.size)))
            have KS := Lib.hid (fun W' (hW : Below wr.heap.size wr W') => KP.out _ (T5r.out _ hW))
            have CA := Lib.hid (fun W' (hW : Below wr.heap.size wr W') => Made.of (w := wr) hW (AW.out W'))
            have O1 := Lib.hid (fun W' (hW : Below wr.heap.size wr W') => Made.of (w := wr) hW (pdOpposed_any A c L A' c' M W' (HL.out _ (T5r.out _ hW)) (by omega) (HM.out _ (T5r.out _ hW)) (by omega)))
            have O2 := Lib.hid (fun W' (hW : Below wr.heap.size wr W') => Made.of (w := wr) hW (rdOpposed_any A c L A' c' M W' (HL.out _ (T5r.out _ hW)) (by omega) (HM.out _ (T5r.out _ hW)) (by omega)))
            generalize Dm.opposed L M = ob at O1 O2
            have OE : (ob == ob) = true := beq_self_eq_true ob
            have hof : (Dm.ofSteps p SL).length ≤ 30 := by
              have := Dm.ofSteps_len p SL SL.length
              rw [List.take_length] at this
              omega
            have F1 := Lib.hid (fun W' (hW : Below wr.heap.size wr W') => DemMade.of (n := (Dm.ofSteps p SL).length) rfl hW (pdOf_any p hfit.few S cS G cG SL B9 d9 W' (I5.out.below (T5r.out _ hW)) (R9.out _ (HB2.out.trans (hW.mono HB2.out.size))) (by omega)))
            have F2 := Lib.hid (fun W' (hW : Below wr.heap.size wr W') => DemMade.of (n := (Dm.ofSteps p SL).length) rfl hW (rdOf_any p S cS G cG SL B9 d9 W' (I5.out.below (T5r.out _ hW)) (R9.out _ (HB2.out.trans (hW.mono HB2.out.size))) (by omega)))
            rw [hll] at F1 F2
            have CS := Lib.hid (fun B1 d1 B2 d2 W' (h1 : LDem.Row W' B1 (Dm.ofSteps p SL)) (h2 : LDem.Row W' B2 (Dm.ofSteps p SL)) (hW : Below wr.heap.size wr W') => Made.of (w := wr) hW (same_dems (d1 := d1) (d2 := d2) (n := (Dm.ofSteps p SL).length) rfl h1 h2 (by omega)))
            generalize Dm.ofSteps p SL = PL at F1 F2 CS
            generalize PL.length = pn at F1 F2 CS
            clear hof
            have BL := Lib.hid (fun W' (hW : Below wr.heap.size wr W') => B5.out.trans ((T5r.out _ hW).mono B5.out.size))
            go_upto_region 14 with fail
            obtain ⟨p0, p1, p2, p3, p4, p5⟩ := KS.out _ U0.out
            go_region_held3 (fun W' => W'.cell? ⟨gq, 0, none⟩ = some (.int .i64 p.ov) ∧ W'.cell? ⟨gq, 1, none⟩ = some (.int .i64 p.ap) ∧ W'.cell? ⟨gq, 2, none⟩ = some (.int .i64 p.se) ∧ W'.cell? ⟨gq, 3, none⟩ = some (.int .i64 p.ho) ∧ W'.cell? ⟨gq, 4, none⟩ = some (.slice S p.secs.length cS) ∧ W'.cell? ⟨gq, 5, none⟩ = some (.slice G p.sigs.length cG))
              (first | with_reducible exact KS.out _ h6 | with_reducible exact KS.out _ h5 | with_reducible exact KS.out _ h4 | with_reducible exact KS.out _ h3 | with_reducible exact KS.out _ h2 | with_reducible exact KS.out _ h1 | with_reducible exact KS.out _ U0.out.drew | with_reducible exact KS.out _ U0.out | (go_keep; done))
              (first
                | (go_at_call 7; (with_reducible refine (CA.out _ U0.out.drew).mono ?_); rintro e1 z1 ⟨rfl, hb1, h1, -⟩)
                | (go_at_call 13; (first | (with_reducible refine (O1.out _ h3).mono ?_) | (with_reducible refine (O1.out _ h1).mono ?_)); rintro e2 z2 ⟨rfl, hb2, h2, -⟩)
                | (go_at_call 14; (first | (with_reducible refine (O2.out _ h2).mono ?_) | (with_reducible refine (O2.out _ h1).mono ?_)); rintro e3 z3 ⟨rfl, hb3, h3, -⟩)
                | (go_at_call 15; (first | (with_reducible refine (F1.out _ h5).mono ?_) | (with_reducible refine (F1.out _ h3).mono ?_) | (with_reducible refine (F1.out _ h2).mono ?_)); rintro e4 z4 ⟨B3, d3, rfl, hR3, -, hb4, h4⟩)
                | (go_at_call 16; (first | (with_reducible refine (F2.out _ h4).mono ?_) | (with_reducible refine (F2.out _ h3).mono ?_) | (with_reducible refine (F2.out _ h2).mono ?_)); rintro e5 z5 ⟨B4, d4, rfl, hR4, -, hb5, h5⟩)
                | (go_at_call 10; (first | (with_reducible refine (CS.out _ _ _ _ _ (hR3.below rfl hb5) hR4 h5).mono ?_) | (with_reducible refine (CS.out _ _ _ _ _ hR3 (hR4.below rfl hb4) h4).mono ?_)); rintro e6 z6 ⟨rfl, hb6, h6, -⟩))
            all_goals go_wp2_with fail
            all_goals go_ret
            all_goals exact ⟨rfl, BL.out _ h6⟩
end Go.Proofs.Ytkdgcibkjhhpoaa
