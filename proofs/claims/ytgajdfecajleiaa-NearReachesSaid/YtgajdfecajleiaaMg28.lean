/-
  Texts of this claim, merged: NearReachesWalk.
-/
import Derived.Test.YtgajdfecajleiaaMg25
/-
  The walk of the law NearReaches: it returns true.
-/
namespace Go.Proofs.Ytgajdfecajleiaa
open Go.RowKit

/-- Does one come by one of the first ends of a section to one of some? -/
def Nr.goes (p : Pl.Plan) (l : List Nat) (s k : Nat) : Bool := (List.range k).any fun (e : Nat) => (Wk.next p s e).2.2 && (ints l).any fun x => decide (x = (Wk.next p s e).1)
theorem Nr.goes_next (p : Pl.Plan) (l : List Nat) (s k : Nat) : Nr.goes p l s (k + 1) = (Nr.goes p l s k || ((Wk.next p s k).2.2 && (ints l).any fun x => decide (x = (Wk.next p s k).1))) := by
  unfold Nr.goes
  rw [List.range_succ, List.any_append, List.any_cons, List.any_nil, Bool.or_false]
theorem Nr.goes_all {p : Pl.Plan} {l : List Nat} {s : Nat} (h : ∃ (e : Nat) (b : Nat × Nat), e < 3 ∧ Wk.next p s e = ((b.1 : Int), (b.2 : Int), true) ∧ b.1 ∈ l) : Nr.goes p l s 3 = true := by
  obtain ⟨e, b, he, hn, hb⟩ := h
  refine List.any_eq_true.2 ⟨e, List.mem_range.2 he, ?_⟩
  rw [hn, Bool.true_and]
  exact List.any_eq_true.2 ⟨(b.1 : Int), List.mem_map.2 ⟨b.1, hb, rfl⟩, decide_eq_true rfl⟩
theorem any_take {L : List Int} {j : Nat} {x : Int} (h : L[j]? = some x) (t : Int) : (L.take (j + 1)).any (fun y => decide (y = t)) = ((L.take j).any (fun y => decide (y = t)) || decide (x = t)) := by
  rw [List.take_add_one, h, List.any_append]
  simp
set_option maxHeartbeats 16000000 in
set_option maxRecDepth 100000 in
theorem nearReaches_walk (s : ByteArray) (x : Int) (W : World) (_ws : s.size ≤ maxLen) (wx : (Lit.int .u8 x).wf = true) :
    Calls Try.prog 5 #[.string s, .int .u8 x] W fun e w' => e = .returned (.bool true) ∧ Below W.heap.size W w' := by
  have AW := Lib.hid nrAwake_any
  have bx := wf_u8 wx
  clear wx
  cases hm : madeP s.data.toList with
  | none =>
    have CM := Lib.hid (fun W => made_void hm W)
    go_enter Try.func5, Try.ntmps5
    go_wp2_with fail
    refine (CM.out _).mono ?_; rintro e w1 ⟨p, S, cS, G, cG, rfl, -, hb1⟩
    have B5 := Lib.hid (hb1.alloc hb1.size (planO p S cS G cG))
    clear hb1
    go_wp2_with fail
    refine (AW.out _).mono ?_; rintro e w8 ⟨rfl, hb8⟩
    go_wp2
    go_ret
    exact ⟨rfl, B5.out.trans (hb8.mono B5.out.size)⟩
  | some p =>
    obtain ⟨hfit, hmeas, hap, hback⟩ := madeP_near hm
    have hap2 : 0 ≤ p.ap ∧ p.ap ≤ 1125899906842624 := by omega
    have CM := Lib.hid (fun W => made_some hm W)
    clear hm hap
    go_enter Try.func5, Try.ntmps5
    go_wp2_with fail
    refine (CM.out _).mono ?_; rintro e w1 ⟨S, cS, G, cG, rfl, pin, hb1⟩
    have X1 := (Below.refl w1.heap.size w1).alloc (Nat.le_refl _) (planO p S cS G cG)
    have B5 := Lib.hid (hb1.trans (X1.mono hb1.size))
    have I5 := Lib.hid (pin.below X1)
    have RP := Lib.hid (heap_alloc_new w1 (planO p S cS G cG))
    obtain ⟨⟨p0, p1, p2, p3, p4, p5⟩, -, gx⟩ := row6 RP.out
    clear hb1 pin CM X1
    by_cases hz : p.sigs.length = 0
    · have E0 : ((p.sigs.length : Int) == 0) = true := by rw [beq_iff_eq]; omega
      clear hz
      go_wp2_with fail
      refine (AW.out _).mono ?_; rintro e w8 ⟨rfl, hb8⟩
      go_wp2
      go_ret
      exact ⟨rfl, B5.out.trans (hb8.mono B5.out.size)⟩
    have E0 : ((p.sigs.length : Int) == 0) = false := by rw [beq_eq_false_iff_ne]; omega
    have hgf := hfit.gfew
    obtain ⟨k, hk, hkl⟩ : ∃ k : Nat, x % (p.sigs.length : Int) = (k : Int) ∧ k < p.sigs.length := by
      have h1 := Int.emod_nonneg x (show (p.sigs.length : Int) ≠ 0 by omega)
      have h2 := Int.emod_lt_of_pos x (show (0 : Int) < (p.sigs.length : Int) by omega)
      exact ⟨(x % (p.sigs.length : Int)).toNat, by omega, by omega⟩
    have q1 : IntKind.i64.wrap x = x := IntWalk.i64_in _ (by omega)
    have q2 : x.tmod (p.sigs.length : Int) = (k : Int) := by rw [Int.tmod_eq_emod_of_nonneg bx.1]; exact hk
    have q3 : IntKind.i64.wrap (k : Int) = (k : Int) := IntWalk.i64_in _ (by omega)
    have hsg := List.getElem?_eq_getElem hkl
    have hof := Nr.of_at hmeas hsg
    obtain ⟨hs0, hs1, he0, he1⟩ := hfit.sigs k _ hsg
    go_upto_region 5 with fail
    generalize w1.alloc (planO p S cS G cG) = w5 at B5 I5 RP p0 p1 p2 p3 p4 p5 gx ⊢
    generalize w1.heap.size = g at RP p0 p1 p2 p3 p4 p5 gx ⊢
    have CP := Lib.hid (pnOf_any p hfit hmeas hap2 S cS G cG k w5 I5.out)
    have hon := fun s (h : s ∈ (Nr.of p (k : Int)).1) (hne : s ≠ (p.sigs[k]).sec.toNat) => Nr.sects_on hmeas hback (ap := p.ap) (st := ((p.sigs[k]).sec.toNat, (p.sigs[k]).en.toNat)) (s := s) (by rw [hof] at h; exact h) hne
    rw [show Nr.sects p p.ap ((p.sigs[k]).sec.toNat, (p.sigs[k]).en.toNat) = (Nr.of p (k : Int)).1 by rw [hof]] at hon
    have hfl : (Nr.of p (k : Int)).1.length ≤ 24 := Nr.of_len hfit
    generalize hxx : Nr.of p (k : Int) = xx at CP hfl hon
    obtain ⟨l, m⟩ := xx
    simp only at hfl hon
    have hsec : (p.sigs[k]).sec = ((p.sigs[k]).sec.toNat : Int) := by omega
    obtain ⟨bg, og, rfl, gg, on⟩ := (I5.out.2).at hkl
    obtain ⟨-, s1, -⟩ := sig_on on
    rw [show k * LSig.m = k * 3 from rfl, hsec] at s1
    generalize (p.sigs[k]).sec.toNat = z at s1 hon
    have HON := Lib.hid hon
    have k0 : (0 : Int) ≤ (k : Int) := Int.natCast_nonneg k
    have k1 : (k : Int) < (p.sigs.length : Int) := by omega
    have KP := Lib.hid (fun W' (hW : Below w5.heap.size w5 W') => And.intro (row6 ((hW.block _ gx).trans RP.out)).1 ((hW.cell (p := ⟨bg, og + k * 3 + 1, none⟩) gg).trans s1))
    clear hof hxx hsg hs0 hs1 he0 he1 on hsec s1 hon hk q1 q2 q3
    go_wp2_with fail
    refine CP.out.mono ?_; rintro e w6 ⟨B1, d1, rfl, hR1, hb6, -⟩
    have T6 := Lib.hid hb6
    have R1 := Lib.hid hR1
    have hil := ints_len l
    clear p0 p1 p2 p3 p4 p5 hR1 hb6 CP
    go_wp2_with fail
    go_loopw [10, 11, 12, 13, 14, 15, 16] (fun v10 _ _ _ _ _ _ w' => ∃ j : Nat, j ≤ l.length ∧ v10 = .int .i64 j ∧ Below w6.heap.size w6 w') (fun v10 _ _ _ _ _ _ _ => l.length - (intOf v10).toNat)
    case atStart => exact ⟨0, Nat.zero_le _, rfl, Below.refl _ _⟩
    case round =>
      obtain ⟨j, hj, rfl, hb⟩ := hrel
      have HB := Lib.hid hb
      by_cases hlt : j < l.length
      · obtain ⟨b1, o1, rfl, g1, on⟩ := (R1.out.below rfl hb).at (show j < (ints l).length by rw [hil]; exact hlt)
        rw [show (ints l)[j]'(by rw [hil]; exact hlt) = ((l[j] : Nat) : Int) by unfold ints; rw [List.getElem_map]] at on
        have c0 := num_on on
        rw [show j * LNum.m = j from Nat.mul_one j] at c0
        have hmem := List.getElem_mem hlt
        generalize l[j] = a at c0 hmem
        have d1 : decide ((j : Int) < (l.length : Int)) = true := dec_t (by omega)
        have j0 : (0 : Int) ≤ (j : Int) := Int.natCast_nonneg j
        have j1 : (j : Int) < (l.length : Int) := by omega
        have T5 := Lib.hid (T6.out.trans (hb.mono T6.out.size))
        obtain ⟨⟨p0, p1, p2, p3, p4, p5⟩, s1⟩ := KP.out _ T5.out
        clear hb on
        by_cases hne : a = z
        · subst hne
          have E : ((a : Int) == (a : Int)) = true := beq_self_eq_true _
          go_upto_region 9 with fail
          go_quiet (fail)
          go_wp2_with fail
          go_roundw
          case rel => exact ⟨j + 1, by omega, by go_num, below_drewN HB.out _⟩
          case measure => simp [intOf]; omega
        · have E : ((a : Int) == (z : Int)) = false := by rw [beq_eq_false_iff_ne]; omega
          have HGO := Lib.hid (Nr.goes_all (HON.out a hmem hne))
          go_upto_region 9 with fail
          go_quiet (fail)
          have HB2 := Lib.hid (show Below w6.heap.size w6 (wr.drewN nq) from below_drewN HB.out _)
          have T52 := Lib.hid (show Below w5.heap.size w5 (wr.drewN nq) from below_drewN T5.out _)
          have c0' : (wr.drewN nq).cell? ⟨b1, o1 + j, none⟩ = some (.int .i64 (a : Int)) := c0
          have g1' : b1 < (wr.drewN nq).heap.size := g1
          clear p0 p1 p2 p3 p4 p5 s1 c0 E hne hmem
          generalize wr.drewN nq = w7 at HB2 T52 c0' g1' ⊢
          have KA := Lib.hid (fun W' (hW : Below w7.heap.size w7 W') => (hW.cell (p := ⟨b1, o1 + j, none⟩) g1').trans c0')
          have K7 := Lib.hid (fun W' (hW : Below w7.heap.size w7 W') => (KP.out _ (T52.out.trans (hW.mono T52.out.size))).1)
          have I7 := Lib.hid (fun W' (hW : Below w7.heap.size w7 W') => I5.out.below (T52.out.trans (hW.mono T52.out.size)))
          have R7 := Lib.hid (fun W' (hW : Below w7.heap.size w7 W') => R1.out.below rfl (HB2.out.trans (hW.mono HB2.out.size)))
          have T7 := Lib.hid (Below.refl w7.heap.size w7)
          clear c0' g1'
          go_wp2_with fail
          go_loopw [11, 12, 13, 14, 15, 16] (fun v11 v12 _ _ _ _ w' => ∃ e : Nat, e ≤ 3 ∧ v11 = .bool (Nr.goes p l a e) ∧ v12 = .int .i64 e ∧ Below w7.heap.size w7 w') (fun _ v12 _ _ _ _ _ => 3 - (intOf v12).toNat)
          case atStart => exact ⟨0, Nat.zero_le _, rfl, rfl, T7.out⟩
          case round =>
            obtain ⟨e, he, rfl, rfl, hb8⟩ := hrel
            have HB8 := Lib.hid hb8
            clear hb8
            by_cases hel : e < 3
            · have d2 : decide ((e : Int) < 3) = true := dec_t (by omega)
              have c0 := KA.out _ HB8.out
              obtain ⟨p0, p1, p2, p3, p4, p5⟩ := K7.out _ HB8.out
              have KS := Lib.hid (fun W' (hW : Below wr.heap.size wr W') => And.intro (K7.out _ (HB8.out.trans (hW.mono HB8.out.size))) (KA.out _ (HB8.out.trans (hW.mono HB8.out.size))))
              have U0 := Lib.hid (Below.refl wr.heap.size wr)
              have CN := Lib.hid (fun W' (hW : Below wr.heap.size wr W') => Made.of (w := wr) hW (rwNext_any p S cS (some ⟨bg, og, none⟩) cG a e W' (I7.out _ (HB8.out.trans (hW.mono HB8.out.size)))))
              have HGN := Lib.hid (Nr.goes_next p l a e)
              generalize Wk.next p a e = nx at CN HGN
              obtain ⟨tq, tf, on_⟩ := nx
              go_upto_region 14 with fail
              go_region_held3 (fun W' => (W'.cell? ⟨g, 0, none⟩ = some (.int .i64 p.ov) ∧ W'.cell? ⟨g, 1, none⟩ = some (.int .i64 p.ap) ∧ W'.cell? ⟨g, 2, none⟩ = some (.int .i64 p.se) ∧ W'.cell? ⟨g, 3, none⟩ = some (.int .i64 p.ho) ∧ W'.cell? ⟨g, 4, none⟩ = some (.slice S p.secs.length cS) ∧ W'.cell? ⟨g, 5, none⟩ = some (.slice (some ⟨bg, og, none⟩) p.sigs.length cG)) ∧ W'.cell? ⟨b1, o1 + j, none⟩ = some (.int .i64 (a : Int)))
                (first | with_reducible exact KS.out _ h2 | with_reducible exact KS.out _ U0.out.drew | (go_keep; done))
                (first
                  | (go_at_call 12; (with_reducible refine (CN.out _ U0.out.drew).mono ?_); rintro e2 z2 ⟨rfl, -, h2, -⟩))
              have HB9 := Lib.hid (HB8.out.trans (h2.mono HB8.out.size))
              clear p0 p1 p2 p3 p4 p5 c0 KS CN h2
              generalize hg0 : Nr.goes p l a e = g0 at HGN ⊢
              clear hg0
              have T9 := Lib.hid (Below.refl z2.heap.size z2)
              go_wp2_with fail
              go_loopw [11, 16] (fun v11 v16 w' => ∃ i : Nat, i ≤ l.length ∧ v11 = .bool (g0 || (on_ && ((ints l).take i).any fun y => decide (y = tq))) ∧ v16 = .int .i64 i ∧ Below z2.heap.size z2 w') (fun _ v16 _ => l.length - (intOf v16).toNat)
              case atStart => exact ⟨0, Nat.zero_le _, by rw [List.take_zero, List.any_nil, Bool.and_false, Bool.or_false], rfl, T9.out⟩
              case round =>
                obtain ⟨i, hi, rfl, rfl, hb10⟩ := hrel
                have HB10 := Lib.hid hb10
                have HB11 := Lib.hid (HB9.out.trans (hb10.mono HB9.out.size))
                clear hb10
                by_cases hil2 : i < l.length
                · have d3 : decide ((i : Int) < (l.length : Int)) = true := dec_t (by omega)
                  have i0 : (0 : Int) ≤ (i : Int) := Int.natCast_nonneg i
                  have i1 : (i : Int) < (l.length : Int) := by omega
                  obtain ⟨b3, o3, he3, g3, on3⟩ := (R7.out _ HB11.out).at (show i < (ints l).length by rw [hil]; exact hil2)
                  cases he3
                  have c3 := num_on on3
                  rw [show i * LNum.m = i from Nat.mul_one i] at c3
                  have HAT := Lib.hid (any_take (List.getElem?_eq_getElem (show i < (ints l).length by rw [hil]; exact hil2)) tq)
                  generalize (ints l)[i]'(by rw [hil]; exact hil2) = y at c3 HAT
                  generalize ((ints l).take i).any (fun y => decide (y = tq)) = an at HAT ⊢
                  clear on3
                  cases g0 with
                  | true =>
                    rw [Bool.true_or]
                    go_wp2_with fail
                    go_roundw
                    case rel => exact ⟨i + 1, by omega, by rw [Bool.true_or], by go_num, HB10.out⟩
                    case measure => simp [intOf]; omega
                  | false =>
                    rw [Bool.false_or]
                    cases on_ with
                    | false =>
                      rw [Bool.false_and]
                      go_wp2_with fail
                      go_roundw
                      case rel => exact ⟨i + 1, by omega, by rw [Bool.false_and, Bool.false_or], by go_num, HB10.out⟩
                      case measure => simp [intOf]; omega
                    | true =>
                      rw [Bool.true_and]
                      cases an with
                      | true =>
                        go_wp2_with fail
                        go_roundw
                        case rel => exact ⟨i + 1, by omega, by rw [HAT.out, Bool.true_or, Bool.true_and, Bool.false_or], by go_num, HB10.out⟩
                        case measure => simp [intOf]; omega
                      | false =>
                        by_cases hy : y = tq
                        · have E3 : (y == tq) = true := by rw [beq_iff_eq]; exact hy
                          have HV := Lib.hid (show (((ints l).take (i + 1)).any fun y => decide (y = tq)) = true from by rw [HAT.out, decide_eq_true hy, Bool.or_true])
                          clear hy
                          go_wp2_with fail
                          go_roundw
                          case rel => exact ⟨i + 1, by omega, by rw [HV.out, Bool.true_and, Bool.false_or], by go_num, HB10.out⟩
                          case measure => simp [intOf]; omega
                        · have E3 : (y == tq) = false := by rw [beq_eq_false_iff_ne]; exact hy
                          have HV := Lib.hid (show (((ints l).take (i + 1)).any fun y => decide (y = tq)) = false from by rw [HAT.out, decide_eq_false hy, Bool.or_false])
                          clear hy
                          go_wp2_with fail
                          go_roundw
                          case rel => exact ⟨i + 1, by omega, by rw [HV.out, Bool.and_false, Bool.false_or], by go_num, HB10.out⟩
                          case measure => simp [intOf]; omega
                · obtain rfl : i = l.length := by omega
                  have d3 : decide ((l.length : Int) < (l.length : Int)) = false := dec_f (by omega)
                  have HGV := Lib.hid (show (g0 || (on_ && ((ints l).take l.length).any fun y => decide (y = tq))) = Nr.goes p l a (e + 1) from by rw [HGN.out, ← hil, List.take_length])
                  rw [HGV.out]
                  go_wp2_with fail
                  go_roundw
                  case rel => exact ⟨e + 1, by omega, rfl, by go_num, HB11.out⟩
                  case measure => simp [intOf]; omega
            · obtain rfl : e = 3 := by omega
              have d2 : decide (((3 : Nat) : Int) < 3) = false := by decide
              rw [HGO.out]
              have HB12 := Lib.hid (HB2.out.trans (HB8.out.mono HB2.out.size))
              go_wp2_with fail
              go_roundw
              case rel => exact ⟨j + 1, by omega, by go_num, HB12.out⟩
              case measure => simp [intOf]; omega
      · obtain rfl : j = l.length := by omega
        have d1 : decide ((l.length : Int) < (l.length : Int)) = false := dec_f (by omega)
        have YF := Lib.hid (B5.out.trans ((T6.out.trans (HB.out.mono T6.out.size)).mono B5.out.size))
        clear hb
        go_wp2_with fail
        refine (AW.out _).mono ?_; rintro e w8 ⟨rfl, hb8⟩
        go_wp2_with fail
        go_ret
        exact ⟨rfl, YF.out.trans (hb8.mono YF.out.size)⟩
end Go.Proofs.Ytgajdfecajleiaa
