/-
  Texts of this claim, merged: DemandPutsWalk.
-/
import Derived.Test.YtkdgcibkjhhpoaaMg25
import Derived.Deep.WholeRow
/-
  The walk of the law DemandPuts: it returns true.
-/
namespace Go.Proofs.Ytkdgcibkjhhpoaa
open Go.RowKit

theorem info256 : (Try.prog.info? 41).map (fun i => (i.zero, i.size)) = some (some (.agg (Dm.table []).toArray), 256) := by kernel_rfl
theorem table_one : (Dm.table []).toArray.all (·.oneCell') = true := by decide +kernel
theorem tab_cell {w : World} {g : Nat} {l : List Dm.Dem} {t : TypeId} (h : w.heap[g]? = some (.cells (Dm.table l).toArray t (0, 0))) {j : Nat} (hj : j < 256) : w.cell? ⟨g, j, none⟩ = some (.int .i64 (Dm.posOf l (j : Int))) := by
  rw [cell_of_row w g j _ t _ h, List.getElem?_toArray, Dm.table_at l hj]
theorem Lies.Row.setCell {α : Type} {E : Lies α} {w : World} {A : Option Addr} {L : List α} (h : E.Row w A L) {p : Addr} (hp : ∀ a, A = some a → a.block ≠ p.block) (v : Value) : E.Row (w.setCell p v) A L := by
  rcases h with h | ⟨b, o, rfl, hlt, h⟩
  · exact .inl h
  · refine .inr ⟨b, o, rfl, by rw [World.size_setCell]; exact hlt, fun k y hk j u hu => ?_⟩
    rw [World.cell?_setCell_other w p _ v (fun e => hp _ rfl (by rw [e]))]
    exact h k y hk j u hu
theorem tab_set {l : List Dm.Dem} (hg : Dm.Good l) {j : Nat} {z : Int} (hj : j < 256) (h : Dm.posOf l (j : Int) = 0) : (Dm.table l).toArray.setIfInBounds j (.int .i64 z) = (Dm.table (Dm.put l ⟨(j : Int), z⟩)).toArray := by
  rw [← Dm.table_put_new hg (x := ⟨(j : Int), z⟩) rfl hj h]
  simp
set_option maxHeartbeats 16000000 in
set_option maxRecDepth 100000 in
theorem demandPuts_walk (A : Option Addr) (c n : Nat) (L : List (Int × Int)) (W : World) (hn : L.length = n) (hL : LPr.Row W A L) (_hc : n ≤ c) (_hl : n ≤ maxLen) (hx : ∀ x ∈ L, (0 ≤ x.1 ∧ x.1 < 256) ∧ 0 ≤ x.2 ∧ x.2 < 256) :
    Calls Try.prog 4 #[.slice A n c] W fun e w' => e = .returned (.bool true) ∧ Below W.heap.size W w' := by
  subst hn
  have HL0 := Lib.hid hL
  have HX := Lib.hid hx
  clear hL hx
  have AW := Lib.hid dmAwake_any
  have T0 := Lib.hid (Below.refl W.heap.size W)
  by_cases h1 : 40 < L.length
  · have D1 : decide (40 < (L.length : Int)) = true := dec_t (by omega)
    go_enter Try.func4, Try.ntmps4
    go_wp2_with fail
    refine (AW.out _).mono ?_; rintro e w8 ⟨rfl, hb8⟩
    go_wp2
    go_ret
    exact ⟨rfl, hb8⟩
  have D1 : decide (40 < (L.length : Int)) = false := dec_f (by omega)
  go_enter Try.func4, Try.ntmps4
  have R1 := Lib.hid (heap_alloc_new W (.cells (Dm.table (Dm.sets (L.take 0))).toArray 41))
  have B1 := Lib.hid ((Below.refl W.heap.size W).alloc (Nat.le_refl _) (.cells (Dm.table (Dm.sets (L.take 0))).toArray 41))
  have hZ : (Dm.table (Dm.sets (L.take 0))).toArray = (Dm.table []).toArray := by rw [List.take_zero]; rfl
  rw [hZ] at R1 B1
  obtain ⟨hz, hsz⟩ := zero_of_info info256
  have hsz2 : (Dm.table []).toArray.size = 256 := by rw [List.size_toArray, Dm.table_len]
  have hst := fun w => run_storeAt_new (P := Try.prog) w 41 (Dm.table []).toArray (Dm.table []).toArray (by rw [hsz, hsz2]) rfl table_one
  have hst2 := fun w => run_storeCells_new (P := Try.prog) w 41 (Dm.table []).toArray (Dm.table []).toArray (by rw [hsz, hsz2]) rfl table_one
  generalize (Dm.table []).toArray = Z at R1 B1 hz hsz2 hst hst2 hZ
  have HZ := Lib.hid hZ
  clear hZ hsz
  go_upto_region 5 with fail
  generalize W.alloc (.cells Z 41) = w1 at R1 B1 ⊢
  rw [← HZ.out] at R1
  clear hz hst hst2 hsz2
  generalize hgq : W.heap.size = gq at R1 ⊢
  have HGQ := Lib.hid hgq
  clear hgq
  go_wp2_with fail
  go_loopw [3, 5] (fun v1 v2 w' => ∃ (k : Nat) (B : Option Addr) (d : Nat), k ≤ L.length ∧ v2 = .int .i64 k ∧ v1 = .slice B (Dm.sets (L.take k)).length d ∧ LDem.Row w' B (Dm.sets (L.take k)) ∧ (Dm.sets (L.take k)).length ≤ d ∧ (∀ a, B = some a → gq < a.block) ∧ w'.heap[gq]? = some (.cells (Dm.table (Dm.sets (L.take k))).toArray 41 (0, 0)) ∧ Below W.heap.size W w') (fun _ v2 _ => L.length - (intOf v2).toNat)
  case atStart => exact ⟨0, none, 0, Nat.zero_le _, rfl, rfl, .inl rfl, Nat.le_refl _, (fun a ha => by cases ha), R1.out, B1.out⟩
  case round =>
    obtain ⟨k, B, d, hk, rfl, rfl, hR, hd, hB, hT, hb⟩ := hrel
    have HB := Lib.hid hb
    have HR := Lib.hid hR
    have HD := Lib.hid hd
    have HA := Lib.hid hB
    have HT := Lib.hid hT
    have HS := Lib.hid (Dm.sets_len L k)
    have gq1 := (Array.getElem?_eq_some_iff.1 hT).1
    clear hR hd hB hT
    by_cases hlt : k < L.length
    · have hy := List.getElem?_eq_getElem hlt
      obtain ⟨hy1, hy2⟩ := HX.out _ (List.getElem_mem hlt)
      obtain ⟨b1, o1, rfl, g1, on⟩ := (HL0.out.below rfl hb).at hlt
      have HN := Lib.hid (Dm.sets_take hy)
      generalize L[k] = y at hy1 hy2 on HN
      obtain ⟨r0, r1⟩ := pr_on on
      rw [show k * LPr.m = k * 2 from rfl] at r0 r1
      obtain ⟨p0, q0⟩ := y
      simp only at r0 r1 hy1 hy2
      have d1 : decide ((k : Int) < (L.length : Int)) = true := dec_t (by omega)
      have j0 : (0 : Int) ≤ (k : Int) := Int.natCast_nonneg k
      have j1 : (k : Int) < (L.length : Int) := by omega
      have KS := Lib.hid (fun W' (hW : Below wr.heap.size wr W') => And.intro ((hW.cell (p := ⟨b1, o1 + k * 2, none⟩) g1).trans r0) ((hW.cell (p := ⟨b1, o1 + k * 2 + 1, none⟩) g1).trans r1))
      have U0 := Lib.hid (Below.refl wr.heap.size wr)
      have q1 : IntKind.i64.wrap p0 = p0 := IntWalk.i64_in _ (by omega)
      have q2 : q0.tmod 2 = q0 % 2 := Int.tmod_eq_emod_of_nonneg hy2.1
      have q3 : IntKind.i64.wrap (q0 % 2) = q0 % 2 := IntWalk.i64_in _ (by omega)
      have q4 : IntKind.i64.wrap (1 + q0 % 2) = 1 + q0 % 2 := IntWalk.i64_in _ (by omega)
      clear hb hy on
      go_upto_region 8 with fail
      go_region_held3 (fun W' => W'.cell? ⟨b1, o1 + k * 2, none⟩ = some (.int .u8 p0) ∧ W'.cell? ⟨b1, o1 + k * 2 + 1, none⟩ = some (.int .u8 q0))
        (first | with_reducible exact KS.out _ U0.out.drew | with_reducible exact KS.out _ U0.out | (go_keep; done))
        (fail)
      all_goals go_upto_region 9 with fail
      have XA := (Below.refl wr.heap.size wr).alloc (Nat.le_refl _) (.cells #[.int .i64 p0, .int .i64 (1 + q0 % 2)] 32)
      have RX := Lib.hid (heap_alloc_new wr (.cells #[.int .i64 p0, .int .i64 (1 + q0 % 2)] 32))
      have RX2 := Lib.hid (show ((wr.alloc (.cells #[.int .i64 p0, .int .i64 (1 + q0 % 2)] 32)).drew).heap[wr.heap.size]? = some (.cells #[.int .i64 p0, .int .i64 (1 + q0 % 2)] 32) from RX.out)
      have XB := Lib.hid (show Below wr.heap.size wr (wr.alloc (.cells #[.int .i64 p0, .int .i64 (1 + q0 % 2)] 32)).drew from XA.drew)
      clear r0 r1 XA RX KS
      generalize (wr.alloc (.cells #[.int .i64 p0, .int .i64 (1 + q0 % 2)] 32)).drew = w2 at RX2 XB ⊢
      generalize hgx : wr.heap.size = gx at RX2 ⊢
      have HGX := Lib.hid hgx
      have hne : gx ≠ gq := by omega
      clear hgx
      obtain ⟨t0, t1⟩ := cell_posn RX2.out
      have gx2 := (Array.getElem?_eq_some_iff.1 RX2.out).1
      have HT2 := Lib.hid ((XB.out.block _ gq1).trans HT.out)
      have gq2 := (Array.getElem?_eq_some_iff.1 HT2.out).1
      have HR2 := Lib.hid (HR.out.below rfl XB.out)
      have HB2 := Lib.hid (HB.out.trans (XB.out.mono HB.out.size))
      obtain ⟨j, rfl⟩ : ∃ j : Nat, p0 = (j : Int) := ⟨p0.toNat, by omega⟩
      have hj : j < 256 := by omega
      have tj := tab_cell HT2.out hj
      have fj := frozen_of_row w2 gq j _ _ HT2.out
      have i0 : (0 : Int) ≤ (j : Int) := Int.natCast_nonneg j
      have i1 : (j : Int) < 256 := by omega
      have HG := Lib.hid (Dm.sets_good (L.take k))
      generalize hSA : Dm.sets (L.take k) = SA at HR2 HD HS HG HN HT2 tj ⊢
      have HN2 := Lib.hid (show Dm.sets (L.take (k + 1)) = Dm.put SA ⟨(j : Int), 1 + q0 % 2⟩ from HN.out)
      have hlen : SA.length ≤ 40 := by have := HS.out; omega
      clear hSA HN
      by_cases h0 : Dm.posOf SA (j : Int) = 0
      · have HT3 := Lib.hid (heap_setCell_same w2 gq j _ _ (.int .i64 (1 + q0 % 2)) HT2.out)
        rw [tab_set HG.out hj h0] at HT3
        rw [h0] at tj
        have RX3 := Lib.hid ((heap_setCell_other w2 ⟨gq, j, none⟩ gx (.int .i64 (1 + q0 % 2)) hne).trans RX2.out)
        have HR3 := Lib.hid (HR2.out.setCell (p := ⟨gq, j, none⟩) (fun a ha => Nat.ne_of_gt (HA.out a ha)) (.int .i64 (1 + q0 % 2)))
        have HB3 := Lib.hid (HB2.out.setCell (p := ⟨gq, j, none⟩) (Nat.le_of_eq HGQ.out) (.int .i64 (1 + q0 % 2)))
        have gq3 : gq < (w2.setCell ⟨gq, j, none⟩ (.int .i64 (1 + q0 % 2))).heap.size := by rw [World.size_setCell]; exact gq2
        clear h0
        go_upto_region 11 with fail
        generalize w2.setCell ⟨gq, j, none⟩ (.int .i64 (1 + q0 % 2)) = w3 at HT3 RX3 HR3 HB3 gq3 ⊢
        clear t0 t1 tj fj
        obtain ⟨t0, t1⟩ := cell_posn RX3.out
        have CU := Lib.hid (pdPut_new B d SA ⟨(j : Int), 1 + q0 % 2⟩ w3 HR3.out (by omega) HD.out)
        go_upto_region 11 with fail
        go_wp2_with fail
        refine CU.out.mono ?_; rintro e w4 ⟨B4, d4, rfl, hR4, hd4, hb4, hn4⟩
        rw [← HN2.out] at hR4 hd4 ⊢
        have HR4 := Lib.hid hR4
        have HD4 := Lib.hid hd4
        have HA4 := Lib.hid (fun a ha => Nat.lt_of_lt_of_le gq3 (hn4 a ha))
        have HB4 := Lib.hid (HB3.out.trans (hb4.mono HB3.out.size))
        have HT4 := Lib.hid ((hb4.block _ gq3).trans HT3.out)
        generalize hq : (Dm.sets (List.take (k + 1) L)).length = N4 at hd4 ⊢
        have HQ := Lib.hid hq
        clear hR4 hd4 hb4 hn4 CU hq
        go_wp2_with fail
        go_roundw
        case rel => exact ⟨k + 1, B4, d4, by omega, by go_num, by rw [HQ.out], HR4.out, HD4.out, HA4.out, by rw [HN2.out]; exact HT4.out, HB4.out⟩
        case measure => simp [intOf]; omega
      · have HT3 := HT2
        rw [← Dm.table_put_had (x := ⟨(j : Int), 1 + q0 % 2⟩) h0] at HT3
        have E : (Dm.posOf SA (j : Int) == 0) = false := by rw [beq_eq_false_iff_ne]; exact h0
        have HB3 := HB2
        have gq3 := gq2
        have CU := Lib.hid (pdPut_new B d SA ⟨(j : Int), 1 + q0 % 2⟩ w2 HR2.out (by omega) HD.out)
        generalize Dm.posOf SA (j : Int) = z at tj E h0
        clear h0
        go_upto_region 11 with fail
        go_wp2_with fail
        refine CU.out.mono ?_; rintro e w4 ⟨B4, d4, rfl, hR4, hd4, hb4, hn4⟩
        rw [← HN2.out] at hR4 hd4 ⊢
        have HR4 := Lib.hid hR4
        have HD4 := Lib.hid hd4
        have HA4 := Lib.hid (fun a ha => Nat.lt_of_lt_of_le gq3 (hn4 a ha))
        have HB4 := Lib.hid (HB3.out.trans (hb4.mono HB3.out.size))
        have HT4 := Lib.hid ((hb4.block _ gq3).trans HT3.out)
        generalize hq : (Dm.sets (List.take (k + 1) L)).length = N4 at hd4 ⊢
        have HQ := Lib.hid hq
        clear hR4 hd4 hb4 hn4 CU hq
        go_wp2_with fail
        go_roundw
        case rel => exact ⟨k + 1, B4, d4, by omega, by go_num, by rw [HQ.out], HR4.out, HD4.out, HA4.out, by rw [HN2.out]; exact HT4.out, HB4.out⟩
        case measure => simp [intOf]; omega
    · obtain rfl : k = L.length := by omega
      have d1 : decide ((L.length : Int) < (L.length : Int)) = false := dec_f (by omega)
      rw [List.take_length] at HR HD HT HS ⊢
      have HG := Lib.hid (Dm.sets_good L)
      have HPT := Lib.hid (Dm.sets_pts (fun x hx => (HX.out x hx).1))
      generalize Dm.sets L = SA at HR HD HT HS HG HPT ⊢
      have hlen : SA.length ≤ 40 := by have := HS.out; omega
      have HC := Lib.hid (Dm.count_all HG.out HPT.out)
      have T1 := Lib.hid (Below.refl wr.heap.size wr)
      generalize hwr : wr = w1 at HB HR HT T1 gq1 ⊢
      clear hwr hb
      go_wp2_with fail
      go_loopw [7, 8] (fun v1 v2 w' => ∃ k : Nat, k ≤ 256 ∧ v2 = .int .i64 k ∧ v1 = .int .i64 (Dm.count SA k : Nat) ∧ Below w1.heap.size w1 w') (fun _ v2 _ => 256 - (intOf v2).toNat)
      case atStart => exact ⟨0, Nat.zero_le _, rfl, rfl, T1.out⟩
      case round =>
        obtain ⟨k, hk, rfl, rfl, hb⟩ := hrel
        have HB2 := Lib.hid hb
        by_cases hlt : k < 256
        · have d1 : decide ((k : Int) < 256) = true := dec_t (by omega)
          have i0 : (0 : Int) ≤ (k : Int) := Int.natCast_nonneg k
          have i1 : (k : Int) < 256 := by omega
          have HT2 := Lib.hid ((hb.block _ gq1).trans HT.out)
          have tk := tab_cell HT2.out hlt
          have gq2 := (Array.getElem?_eq_some_iff.1 HT2.out).1
          have KS := Lib.hid (fun W' (hW : Below wr.heap.size wr W') => tab_cell ((hW.block _ gq2).trans HT2.out) hlt)
          have U0 := Lib.hid (Below.refl wr.heap.size wr)
          have CP := Lib.hid (fun W' (hW : Below wr.heap.size wr W') => Made.of (w := wr) hW (pdPosition_any B d SA (k : Int) W' (HR.out.below rfl (HB2.out.trans (hW.mono HB2.out.size))) (by omega)))
          have hcl := Dm.count_le SA k
          have HCK := Lib.hid (show Dm.count SA (k + 1) = Dm.count SA k + (if Dm.posOf SA (k : Int) ≠ 0 then 1 else 0) from rfl)
          generalize Dm.posOf SA (k : Int) = z at tk KS CP HCK
          have DN : (z != z) = false := bne_self_eq_false z
          clear hb
          by_cases hz : z = 0
          · have E : (z != 0) = false := by rw [bne_eq_false_iff_eq]; exact hz
            have HK2 := Lib.hid (show Dm.count SA (k + 1) = Dm.count SA k from by rw [HCK.out, if_neg (fun h => h hz)]; rfl)
            clear hz
            go_upto_region 18 with fail
            go_region_held3 (fun W' => W'.cell? ⟨gq, k, none⟩ = some (.int .i64 z))
              (first | with_reducible exact KS.out _ h2 | with_reducible exact KS.out _ U0.out.drew | (go_keep; done))
              (first
                | (go_at_call 8; (with_reducible refine (CP.out _ U0.out.drew).mono ?_); rintro e2 z2 ⟨rfl, -, h2, -⟩))
            all_goals go_wp2_with fail
            all_goals go_roundw
            all_goals first
              | exact ⟨k + 1, by omega, by go_num, by rw [HK2.out], HB2.out.trans (h2.mono HB2.out.size)⟩
              | (simp [intOf]; omega)
          · have E : (z != 0) = true := by rw [bne_iff_ne]; exact hz
            have HK2 := Lib.hid (show ((Dm.count SA (k + 1) : Nat) : Int) = (Dm.count SA k : Int) + 1 from by rw [HCK.out, if_pos hz]; rfl)
            have qw : IntKind.i64.wrap ((Dm.count SA k : Int) + 1) = (Dm.count SA k : Int) + 1 := IntWalk.i64_in _ (by omega)
            clear hz
            go_upto_region 18 with fail
            go_region_held3 (fun W' => W'.cell? ⟨gq, k, none⟩ = some (.int .i64 z))
              (first | with_reducible exact KS.out _ h2 | with_reducible exact KS.out _ U0.out.drew | (go_keep; done))
              (first
                | (go_at_call 8; (with_reducible refine (CP.out _ U0.out.drew).mono ?_); rintro e2 z2 ⟨rfl, -, h2, -⟩))
            all_goals go_wp2_with fail
            all_goals go_roundw
            all_goals first
              | exact ⟨k + 1, by omega, by go_num, by rw [HK2.out], HB2.out.trans (h2.mono HB2.out.size)⟩
              | (simp [intOf]; omega)
        · obtain rfl : k = 256 := by omega
          have d1 : decide (((256 : Nat) : Int) < 256) = false := by decide
          rw [HC.out]
          have HR2 := Lib.hid (fun W' (hW : Below wr.heap.size wr W') => HR.out.below rfl (HB2.out.trans (hW.mono HB2.out.size)))
          have HB3 := Lib.hid (fun W' (hW : Below wr.heap.size wr W') => HB.out.trans ((HB2.out.trans (hW.mono HB2.out.size)).mono HB.out.size))
          have T2 := Lib.hid (Below.refl wr.heap.size wr)
          generalize hwr : wr = w2 at HR2 HB3 T2 ⊢
          clear hwr hb
          go_wp2_with fail
          go_loopw [9] (fun v w' => ∃ k : Nat, k + 1 ≤ SA.length + 1 ∧ v = .int .i64 ((k + 1 : Nat) : Int) ∧ Below w2.heap.size w2 w') (fun v _ => SA.length + 1 - (intOf v).toNat)
          case atStart => exact ⟨0, by omega, rfl, T2.out⟩
          case round =>
            obtain ⟨k, hk, rfl, hb⟩ := hrel
            have HB4 := Lib.hid hb
            by_cases hlt : k + 1 < SA.length
            · have d1 : decide (((k + 1 : Nat) : Int) < (SA.length : Int)) = true := dec_t (by omega)
              have hrow := HR2.out _ hb
              obtain ⟨b1, o1, rfl, g1, on⟩ := hrow.at hlt
              obtain ⟨b2, o2, he, g2, on2⟩ := hrow.at (show k < SA.length by omega)
              cases he
              have hris := List.pairwise_iff_getElem.1 HG.out.rise k (k + 1) (by omega) hlt (by omega)
              generalize SA[k + 1] = y at on hris
              generalize SA[k] = y' at on2 hris
              obtain ⟨r0, -⟩ := dem_on on
              obtain ⟨s0, -⟩ := dem_on on2
              rw [show (k + 1) * LDem.m = (k + 1) * 2 from rfl] at r0
              rw [show k * LDem.m = k * 2 from rfl] at s0
              have D : decide (y.pt ≤ y'.pt) = false := dec_f (by omega)
              have q1 : IntKind.i64.wrap (((k + 1 : Nat) : Int) - 1) = (k : Int) := by rw [IntWalk.i64_in _ (by omega)]; omega
              have i0 : (0 : Int) ≤ (k : Int) := Int.natCast_nonneg k
              have i1 : (k : Int) < (SA.length : Int) := by omega
              have i2 : (0 : Int) ≤ ((k + 1 : Nat) : Int) := Int.natCast_nonneg _
              have i3 : ((k + 1 : Nat) : Int) < (SA.length : Int) := by omega
              have HLT := Lib.hid hlt
              clear on on2 hris hb hrow hlt
              generalize hkk : k + 1 = k1 at d1 q1 i2 i3 r0 ⊢
              have HKK := Lib.hid hkk
              clear hkk
              go_upto_region 23 with fail
              go_quiet (fail)
              go_wp2_with fail
              go_roundw
              case rel => exact ⟨k1, by have := HLT.out; have := HKK.out; omega, by go_num, below_drewN HB4.out _⟩
              case measure => simp [intOf]; have := HLT.out; have := HKK.out; omega
            · have d1 : decide (((k + 1 : Nat) : Int) < (SA.length : Int)) = false := dec_f (by omega)
              have E1 : ((SA.length : Int) == (SA.length : Int)) = true := beq_self_eq_true _
              have O1 := Lib.hid (pdOpposed_any B d SA B d SA)
              have HOS := Lib.hid (Dm.opposed_self HG.out)
              clear hb
              go_wp2_with fail
              refine (AW.out _).mono ?_; rintro e w8 ⟨rfl, hb8⟩
              have HB8 := Lib.hid (HB4.out.trans (hb8.mono HB4.out.size))
              have C8 := Lib.hid (O1.out w8 (HR2.out _ HB8.out) (by omega) (HR2.out _ HB8.out) (by omega))
              rw [HOS.out] at C8
              clear hb8 O1
              go_wp2_with fail
              refine C8.out.mono ?_; rintro e w9 ⟨rfl, hb9⟩
              have HB9 := Lib.hid (HB8.out.trans (hb9.mono HB8.out.size))
              clear hb9 C8
              go_wp2_with fail
              go_ret
              exact ⟨rfl, HB3.out _ HB9.out⟩
end Go.Proofs.Ytkdgcibkjhhpoaa
