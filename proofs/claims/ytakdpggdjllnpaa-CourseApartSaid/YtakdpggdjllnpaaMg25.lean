/-
  Texts of this claim, merged: CourseApartWalk.
-/
import Derived.Test.YtakdpggdjllnpaaMg22
/-
  The walk of the law CourseApart: it returns true.
-/
namespace Go.Proofs.Ytakdpggdjllnpaa
open Go.RowKit

set_option maxHeartbeats 8000000 in
set_option maxRecDepth 100000 in
theorem courseApart_walk (s : ByteArray) (i : Int) (W : World) (_ws : s.size ≤ maxLen) (wi : (Lit.int .u8 i).wf = true) :
    Calls Try.prog 5 #[.string s, .int .u8 i] W fun e w' => e = .returned (.bool true) ∧ Below W.heap.size W w' := by
  have AW := Lib.hid crAwake_any
  have bi := wf_u8 wi
  cases hm : madeP s.data.toList with
  | none =>
    have CM := Lib.hid (fun W => made_none hm W)
    clear hm bi wi
    go_enter Try.func5, Try.ntmps5
    go_wp2_with fail
    refine (CM.out _).mono ?_; rintro e w1 ⟨p, S, cS, G, cG, rfl, hb1⟩
    have B1 := Lib.hid (hb1.alloc hb1.size (planO p S cS G cG))
    clear hb1
    go_wp2_with fail
    refine (AW.out _).mono ?_; rintro e w2 ⟨rfl, hb2⟩
    go_wp2
    go_ret
    exact ⟨rfl, B1.out.trans (hb2.mono B1.out.size)⟩
  | some p =>
    have CM := Lib.hid (fun W => made_some hm W)
    obtain ⟨hfit, -⟩ := madeP_some hm
    have hfew := hfit.few
    have hgfew := hfit.gfew
    clear hm hfit wi
    by_cases hz : p.sigs.length = 0
    · have DZ : ((p.sigs.length : Int) == 0) = true := by rw [beq_iff_eq]; omega
      clear hz bi
      go_enter Try.func5, Try.ntmps5
      go_wp2_with fail
      refine (CM.out _).mono ?_; rintro e w1 ⟨S, cS, G, cG, rfl, pin, hb1⟩
      have B1 := Lib.hid (hb1.alloc hb1.size (planO p S cS G cG))
      obtain ⟨⟨p0, p1, p2, p3, p4, p5⟩, -, gp⟩ := row6 (heap_alloc_new w1 (planO p S cS G cG))
      clear hb1 pin
      go_wp2_with fail
      refine (AW.out _).mono ?_; rintro e w2 ⟨rfl, hb2⟩
      go_wp2
      go_ret
      exact ⟨rfl, B1.out.trans (hb2.mono B1.out.size)⟩
    have DZ : ((p.sigs.length : Int) == 0) = false := by rw [beq_eq_false_iff_ne]; omega
    obtain ⟨q1, hj⟩ := rem_len bi.1 hz
    have q0 : IntKind.i64.wrap i = i := IntWalk.i64_in _ (by omega)
    have q2 : IntKind.i64.wrap ((i.toNat % p.sigs.length : Nat) : Int) = ((i.toNat % p.sigs.length : Nat) : Int) := IntWalk.i64_in _ (by omega)
    generalize i.toNat % p.sigs.length = j at q1 q2 hj
    have hlen := Cr.of_len p j
    have HP := Lib.hid (fun (k : Nat) a b (ha : (Cr.of p j).1[k]? = some a) (hb : (Cr.of p j).1[k + 1]? = some b) => Cr.part_at (Cr.of_part_at ha hb))
    have HST := Lib.hid (fun y (hy : y ∈ (Cr.of p j).1) => Cr.of_steps hy)
    go_enter Try.func5, Try.ntmps5
    go_wp2_with fail
    refine (CM.out _).mono ?_; rintro e w1 ⟨S, cS, G, cG, rfl, pin, hb1⟩
    have X1 := (Below.refl w1.heap.size w1).alloc (Nat.le_refl _) (planO p S cS G cG)
    have B5 := Lib.hid (hb1.trans (X1.mono hb1.size))
    have I5 := Lib.hid (pin.below X1)
    have RP := Lib.hid (heap_alloc_new w1 (planO p S cS G cG))
    have gx := (Array.getElem?_eq_some_iff.1 RP.out).1
    clear hb1 X1 pin CM
    generalize hw5 : w1.alloc (planO p S cS G cG) = w5 at B5 I5 RP gx
    have KP := Lib.hid (fun W' (hW : Below w5.heap.size w5 W') => (row6 ((hW.block _ gx).trans RP.out)).1)
    have T0 := Lib.hid (Below.refl w5.heap.size w5)
    have C1 := Lib.hid (fun W' (hW : Below w5.heap.size w5 W') => WaysMade.of (W0 := w5) hW (pcOf_any p S cS G cG j W' (I5.out.below hW) hfew hgfew))
    generalize Cr.of p j = x at C1 hlen HP HST
    obtain ⟨L, er⟩ := x
    have hlen' : L.length ≤ 65536 := hlen
    obtain ⟨p0, p1, p2, p3, p4, p5⟩ := KP.out _ T0.out
    subst hw5
    clear hlen
    go_upto_region 4 with fail
    generalize w1.alloc (planO p S cS G cG) = w5 at B5 I5 KP T0 C1 p0 p1 p2 p3 p4 p5 gx RP ⊢
    go_cut [7, 8] from 13 (fun s7 s8 w' => ∃ A c, s7 = .slice A L.length c ∧ s8 = .int .i64 er ∧ WaysIn w' A L ∧ Below w5.heap.size w5 w')
    case first =>
      --[
      go_region_held3 (fun W' => W'.cell? ⟨w1.heap.size, 0, none⟩ = some (.int .i64 p.ov) ∧ W'.cell? ⟨w1.heap.size, 1, none⟩ = some (.int .i64 p.ap) ∧ W'.cell? ⟨w1.heap.size, 2, none⟩ = some (.int .i64 p.se) ∧ W'.cell? ⟨w1.heap.size, 3, none⟩ = some (.int .i64 p.ho) ∧ W'.cell? ⟨w1.heap.size, 4, none⟩ = some (.slice S p.secs.length cS) ∧ W'.cell? ⟨w1.heap.size, 5, none⟩ = some (.slice G p.sigs.length cG))
        (first | with_reducible exact KP.out _ T0.out.drew | with_reducible exact KP.out _ hacc)
        (first | (go_at_call 9; (with_reducible refine (C1.out _ T0.out.drew).mono ?_); rintro e w' ⟨A1, c1, rfl, hW1, hbl, hacc, hz⟩))
      all_goals go_wp2_with fail
      all_goals go_meet
      all_goals exact ⟨A1, c1, rfl, rfl, hW1, hacc⟩
      --]
    case rest =>
      obtain ⟨A1, c1, rfl, rfl, hW1, hb6⟩ := hcut
      have Q1 := Lib.hid hW1
      have B6 := Lib.hid (B5.out.trans (hb6.mono B5.out.size))
      clear hW1 hb6 p0 p1 p2 p3 p4 p5 C1 KP RP gx I5 T0 q0 q1 q2 hj bi DZ hz
      generalize wc = w6 at Q1 B6 ⊢
      go_wp2_with fail
      go_loopw [9] (fun v wr => ∃ m : Nat, v = .int .i64 ((m + 1 : Nat) : Int) ∧ Below w6.heap.size w6 wr) (fun v _ => L.length - (intOf v).toNat)
      case atStart => exact ⟨0, rfl, Below.refl _ _⟩
      case round =>
        obtain ⟨m, rfl, hB⟩ := hrel
        have HB := Lib.hid hB
        clear hB
        by_cases hlt : m + 1 < L.length
        · have ha := List.getElem?_eq_getElem (show m < L.length by omega)
          have hb := List.getElem?_eq_getElem hlt
          have QW := Q1.out.below HB.out
          obtain ⟨bA, oA, S1, u1, hA1, gA, a0, -, R1, -⟩ := QW.at ha
          obtain ⟨bB, oB, S2, u2, hA2, gB, b0, -, R2, -⟩ := QW.at hb
          obtain ⟨k0, x, y, hpre, hx, hy, hne, e1, e2, e3, e4, e5⟩ := HP.out m _ _ ha hb
          have hv := HST.out _ (List.mem_of_getElem? ha)
          have hk0 := (List.getElem?_eq_some_iff.1 hx).1
          subst hA1
          cases hA2
          generalize L[m] = va at ha a0 R1 hpre hx hv hk0
          generalize L[m + 1] = vb at hb b0 R2 hpre hy
          obtain ⟨xs, xf, xt⟩ := x
          obtain ⟨ys, yf, yt⟩ := y
          simp only at e1 e2 e3 e4 e5
          subst e1 e2 e3 e4 e5
          have D1 : decide (((m + 1 : Nat) : Int) < (L.length : Int)) = true := dec_t (by omega)
          have qs : IntKind.i64.wrap (((m + 1 : Nat) : Int) - 1) = (m : Int) := by rw [show ((m + 1 : Nat) : Int) - 1 = (m : Int) by omega]; exact IntWalk.i64_in _ (by omega)
          have qs' : IntKind.i64.wrap ((m : Int) + 1 - 1) = (m : Int) := by rw [show (m : Int) + 1 - 1 = (m : Int) by omega]; exact IntWalk.i64_in _ (by omega)
          have m1 : m < L.length := by omega
          have m2 : (m : Int) < (L.length : Int) := by omega
          have HPRE := Lib.hid hpre
          have HX := Lib.hid hx
          have HY := Lib.hid hy
          have HR1 := Lib.hid R1
          have HR2 := Lib.hid R2
          have W0 := Lib.hid (Below.refl wr.heap.size wr)
          clear ha hb QW hpre hx hy hne R1 R2
          go_upto_region 8 with fail
          go_quiet (fail)
          go_wp2_with fail
          go_loopw [12] (fun v2 w2 => ∃ k : Nat, k ≤ k0 ∧ v2 = .int .i64 k ∧ Below wr.heap.size wr w2) (fun v2 _ => k0 - (intOf v2).toNat)
          case atStart => exact ⟨0, Nat.zero_le _, rfl, below_drewN W0.out _⟩
          case round =>
            obtain ⟨k, hk, rfl, hB2⟩ := hrel
            have HB2 := Lib.hid hB2
            clear hB2
            by_cases hkk : k < k0
            · obtain ⟨z, z1, z2⟩ := HPRE.out k hkk
              obtain ⟨l1, l1'⟩ := List.getElem?_eq_some_iff.1 z1
              obtain ⟨l2, l2'⟩ := List.getElem?_eq_some_iff.1 z2
              obtain ⟨b1, o1, rfl, g1, on1⟩ := (HR1.out.below rfl HB2.out).at l1
              obtain ⟨b2, o2, rfl, g2, on2⟩ := (HR2.out.below rfl HB2.out).at l2
              rw [l1'] at on1
              rw [l2'] at on2
              obtain ⟨r0, r1, r2⟩ := stp_on on1
              obtain ⟨t0, t1, t2⟩ := stp_on on2
              rw [show k * LStp.m = k * 3 from rfl] at r0 r1 r2 t0 t1 t2
              have D2 : decide ((k : Int) < (va.steps.length : Int)) = true := dec_t (by omega)
              have D3 : decide ((k : Int) < (vb.steps.length : Int)) = true := dec_t (by omega)
              have Q := fun W => (bin_stps W z z).trans (by rw [decide_eq_true rfl])
              clear z1 z2 l1' l2' on1 on2
              go_upto_region 10 with fail
              go_quiet (fail)
              go_wp2_with fail
              go_roundw
              case rel => exact ⟨k + 1, by omega, by go_num, below_drewN HB2.out _⟩
              case measure => simp [intOf]; omega
            · obtain rfl : k = k0 := by omega
              obtain ⟨l1, l1'⟩ := List.getElem?_eq_some_iff.1 HX.out
              obtain ⟨l2, l2'⟩ := List.getElem?_eq_some_iff.1 HY.out
              obtain ⟨b1, o1, rfl, g1, on1⟩ := (HR1.out.below rfl HB2.out).at l1
              obtain ⟨b2, o2, rfl, g2, on2⟩ := (HR2.out.below rfl HB2.out).at l2
              rw [l1'] at on1
              rw [l2'] at on2
              obtain ⟨r0, r1, r2⟩ := stp_on on1
              obtain ⟨t0, t1, t2⟩ := stp_on on2
              rw [show k * LStp.m = k * 3 from rfl] at r0 r1 r2 t0 t1 t2
              simp only at r0 r1 r2 t0 t1 t2
              have D2 : decide ((k : Int) < (va.steps.length : Int)) = true := dec_t (by omega)
              have D3 : decide ((k : Int) < (vb.steps.length : Int)) = true := dec_t (by omega)
              have D4 : decide ((va.steps.length : Int) ≤ (k : Int)) = false := dec_f (by omega)
              have D5 : decide ((vb.steps.length : Int) ≤ (k : Int)) = false := dec_f (by omega)
              have E : (xs != xs) = false := by simp
              have Q : ∀ W, Sem.run Try.prog (binOp .eql 43 (.agg #[.int .i64 xs, .int .i64 0, .int .i64 1]) (.agg #[.int .i64 xs, .int .i64 0, .int .i64 2])) W = .ok (.bool false) W := fun W => (bin_stps W ⟨xs, 0, 1⟩ ⟨xs, 0, 2⟩).trans (by rw [decide_eq_false (by intro h; cases h)])
              clear l1' l2' on1 on2
              go_upto_region 10 with fail
              go_quiet (fail)
              go_upto_region 12 with fail
              go_quiet (fail)
              go_wp2_with fail
              go_roundw
              case rel => exact ⟨m + 1, by go_num, HB.out.trans ((below_drewN HB2.out _).mono HB.out.size)⟩
              case measure => simp [intOf]; omega
        · have d1 : decide (((m + 1 : Nat) : Int) < (L.length : Int)) = false := dec_f (by omega)
          go_wp2_with fail
          refine (AW.out _).mono ?_; rintro e w7 ⟨rfl, hb7⟩
          go_wp2
          go_ret
          exact ⟨rfl, (B6.out.trans (HB.out.mono B6.out.size)).trans (hb7.mono (B6.out.trans (HB.out.mono B6.out.size)).size)⟩
end Go.Proofs.Ytakdpggdjllnpaa
