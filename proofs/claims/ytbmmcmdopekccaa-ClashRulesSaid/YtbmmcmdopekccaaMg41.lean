/-
  Texts of this claim, merged: ClashRulesWalk.
-/
import Derived.Test.YtbmmcmdopekccaaMg15
import Derived.Test.YtbmmcmdopekccaaMg21
import Derived.Test.YtbmmcmdopekccaaMg39
/-
  The walk of the law ClashRules: it returns true.
-/
namespace Go.Proofs.Ytbmmcmdopekccaa
open Go.RowKit

theorem Cl.two_drew (w : World) (a b : Obj) : (((w.alloc a).alloc b).drew).heap[w.heap.size]? = some a ∧ (((w.alloc a).alloc b).drew).heap[w.heap.size + 1]? = some b ∧ Below w.heap.size w (((w.alloc a).alloc b).drew) :=
  ⟨(two_puts w a b).1, (two_puts w a b).2.1, (two_puts w a b).2.2.drew⟩
/-- Two routes in boxes of the round's own. -/
def Cl.TwoIn (wr : World) (m1 m2 : RouteM) (s6 s7 : Value) (w' : World) : Prop := ∃ g6 g7 : Nat, s6 = .pointer (some ⟨g6, 0, none⟩) ∧ s7 = .pointer (some ⟨g7, 0, none⟩) ∧ w'.heap[g6]? = some (rtO m1) ∧ w'.heap[g7]? = some (rtO m2) ∧ Below wr.heap.size wr w'
theorem Cl.any_take {α : Type} {l : List α} {j : Nat} {x : α} (h : l[j]? = some x) (f : α → Bool) : (l.take (j + 1)).any f = ((l.take j).any f || f x) := by
  rw [List.take_add_one, h, List.any_append]
  simp
theorem Cl.within_same (A : Option Addr) (c : Nat) (L : List Wk.Stp) (s : Int) (w : World) (h : LStp.Row w A L) (hl : L.length ≤ 1000000) :
    Calls Try.prog 11 #[.slice A L.length c, .int .i64 s] w fun e w' => e = .returned (.bool (Wk.within L s)) ∧ w' = w := (rwWithin_any A c L s w h hl).mono fun _ _ h => ⟨h.1, h.2.symm⟩
set_option maxHeartbeats 16000000 in
set_option maxRecDepth 100000 in
theorem clashRules_walk (s : ByteArray) (W : World) (_ws : s.size ≤ maxLen) :
    Calls Try.prog 4 #[.string s] W fun e w' => e = .returned (.bool true) ∧ Below W.heap.size W w' := by
  --[
  have AW := Lib.hid clAwake_any
  cases hm : routesP s.data.toList with
  | none =>
    have CR := Lib.hid (fun W => routes_none hm W)
    clear hm
    go_enter Try.func4, Try.ntmps4
    go_wp2_with fail
    refine (CR.out _).mono ?_; rintro e w1 ⟨A, n, c, rfl, hb1⟩
    have B1 := Lib.hid hb1
    clear hb1 CR
    go_wp2_with fail
    refine (AW.out _).mono ?_; rintro e w8 ⟨rfl, hb8⟩
    go_wp2
    go_ret
    exact ⟨rfl, B1.out.trans (hb8.mono B1.out.size)⟩
  | some L =>
    obtain ⟨hln, hT⟩ := routesP_few hm
    have CR := Lib.hid (fun W => routes_some hm W)
    have HTY := Lib.hid hT
    clear hm
    go_enter Try.func4, Try.ntmps4
    go_wp2_with fail
    refine (CR.out _).mono ?_; rintro e w1 ⟨A, c, rfl, -, hR1, hb1⟩
    have B1 := Lib.hid hb1
    have R1 := Lib.hid hR1
    have T0 := Lib.hid (Below.refl w1.heap.size w1)
    clear hR1 hb1 CR hT
    go_wp2_with fail
    go_loopw [5, 6, 7, 8, 9, 10, 11, 12, 13] (fun v5 _ _ _ _ _ _ _ _ w' => ∃ i : Nat, i ≤ L.length ∧ v5 = .int .i64 i ∧ Below w1.heap.size w1 w') (fun v5 _ _ _ _ _ _ _ _ _ => L.length - (intOf v5).toNat)
    case atStart => exact ⟨0, Nat.zero_le _, rfl, T0.out⟩
    case round =>
      obtain ⟨i, hi, rfl, hB⟩ := hrel
      have HBi := Lib.hid hB
      clear hB
      by_cases hlt : i < L.length
      · have d1 : decide ((i : Int) < (L.length : Int)) = true := dec_t (by omega)
        have i0 : (0 : Int) ≤ (i : Int) := Int.natCast_nonneg i
        have i1 : (i : Int) < (L.length : Int) := by omega
        go_wp2_with fail
        go_loopw [6, 7, 8, 9, 10, 11, 12, 13] (fun v6 _ _ _ _ _ _ _ w' => ∃ k : Nat, k ≤ L.length ∧ v6 = .int .i64 k ∧ Below w1.heap.size w1 w') (fun v6 _ _ _ _ _ _ _ _ => L.length - (intOf v6).toNat)
        case atStart => exact ⟨0, Nat.zero_le _, rfl, HBi.out⟩
        case round =>
          clear HBi
          obtain ⟨k, hk, rfl, hB3⟩ := hrel
          have HBk := Lib.hid hB3
          clear hB3
          by_cases hkl : k < L.length
          · have d2 : decide ((k : Int) < (L.length : Int)) = true := dec_t (by omega)
            have k0 : (0 : Int) ≤ (k : Int) := Int.natCast_nonneg k
            have k1 : (k : Int) < (L.length : Int) := by omega
            obtain ⟨b, o, m1, m2, rfl, hbb, e1, e2, on1, on2, P1, P2⟩ := (R1.out.below HBk.out).pair hlt hkl
            have t1 := Cl.tiny_at HTY.out hlt e1
            have t2 := Cl.tiny_at HTY.out hkl e2
            obtain ⟨x0, x1, x2, x3, x4, x5, x6, x7, x8⟩ := rt_on on1
            obtain ⟨y0, y1, y2, y3, y4, y5, y6, y7, y8⟩ := rt_on on2
            have HP := Lib.hid (And.intro P1 P2)
            have HTT := Lib.hid (And.intro t1 t2)
            clear e1 e2 on1 on2 P1 P2 t1 t2
            go_upto_region 10 with fail
            go_cut [7, 8] from 34 to 122 (fun s7 s8 w' => Cl.TwoIn wr m1 m2 s7 s8 w')
            case first =>
              go_region_with (fail)
              all_goals go_wp2_with fail
              all_goals go_meet
              all_goals refine ⟨_, _, rfl, rfl, ?_, ?_, ?_⟩
              all_goals first
                | with_reducible exact (two_puts wr _ _).1
                | with_reducible exact (two_puts wr _ _).2.1
                | with_reducible exact (two_puts wr _ _).2.2
                | with_reducible exact (Cl.two_drew wr _ _).1
                | with_reducible exact (Cl.two_drew wr _ _).2.1
                | with_reducible exact (Cl.two_drew wr _ _).2.2
            case rest =>
              obtain ⟨g1, g2, rfl, rfl, h1, h2, hb⟩ := hcut
              have BW := Lib.hid (HBk.out.trans (hb.mono HBk.out.size))
              have P1 := Lib.hid (HP.out.1.below hb)
              have P2 := Lib.hid (HP.out.2.below hb)
              obtain ⟨⟨hs1, hl1, hp1⟩, hs2, hl2, hp2⟩ := HTT.out
              have U0 := Lib.hid (Below.refl wc.heap.size wc)
              have gl1 := (Array.getElem?_eq_some_iff.1 h1).1
              have gl2 := (Array.getElem?_eq_some_iff.1 h2).1
              have KS := Lib.hid (fun W (hW : Below wc.heap.size wc W) => And.intro (row9 ((hW.block _ gl1).trans h1)).1 (row9 ((hW.block _ gl2).trans h2)).1)
              have HMU := Lib.hid (show Cl.must m1.r m2.r = ((m1.r.entry == m2.r.entry) || Cl.share m1.r.steps m2.r.steps || Dm.opposed m1.r.pts m2.r.pts || (Cl.over m1.r m2.r && (m1.r.exit != m2.r.entry))) from rfl)
              have HMB := Lib.hid (fun (h : Cl.must m1.r m2.r = true) => Cl.must_bars h)
              clear x0 x1 x2 x3 x4 x5 x6 x7 x8 y0 y1 y2 y3 y4 y5 y6 y7 y8 h1 h2 gl1 gl2 hb HP
              go_wp2_with fail
              go_loopw [9, 11] (fun v9 v11 w' => ∃ j : Nat, j ≤ m1.r.steps.length ∧ v11 = .int .i64 j ∧ v9 = .bool ((m1.r.steps.take j).any fun x => Wk.within m2.r.steps x.s) ∧ Below wc.heap.size wc w') (fun _ v11 _ => m1.r.steps.length - (intOf v11).toNat)
              case atStart => exact ⟨0, Nat.zero_le _, rfl, rfl, U0.out⟩
              case round =>
                obtain ⟨j, hj, rfl, rfl, hb⟩ := hrel
                have HB := Lib.hid hb
                obtain ⟨⟨a0, a1, a2, a3, a4, a5, a6, a7, a8⟩, c0, c1, c2, c3, c4, c5, c6, c7, c8⟩ := KS.out _ hb
                by_cases hjl : j < m1.r.steps.length
                · have d3 : decide ((j : Int) < (m1.r.steps.length : Int)) = true := dec_t (by omega)
                  have j0 : (0 : Int) ≤ (j : Int) := Int.natCast_nonneg j
                  have j1 : (j : Int) < (m1.r.steps.length : Int) := by omega
                  have hx := List.getElem?_eq_getElem hjl
                  obtain ⟨ba, oa, hA1, hba, on⟩ := (P1.out.p1.below rfl hb).at hjl
                  have HT := Lib.hid (Cl.any_take hx fun x => Wk.within m2.r.steps x.s)
                  generalize m1.r.steps[j] = x at on HT
                  obtain ⟨f0, f1, f2⟩ := stp_on on
                  rw [show j * LStp.m = j * 3 from rfl] at f0 f1 f2
                  rw [hA1] at a2
                  have V0 := Lib.hid (Below.refl wr.heap.size wr)
                  have CW := Lib.hid (fun W (hW : Below wr.heap.size wr W) => Cl.within_same m2.A1 m2.c1 m2.r.steps x.s W ((P2.out.p1.below rfl hb).below rfl hW) hs2)
                  generalize (m1.r.steps.take j).any (fun x => Wk.within m2.r.steps x.s) = t at HT
                  generalize Wk.within m2.r.steps x.s = z at CW HT
                  clear hx on hb hba
                  cases t with
                  | true =>
                    go_upto_region 15 with fail
                    go_quiet (fail)
                    go_wp2_with fail
                    go_roundw
                    case rel => exact ⟨j + 1, by omega, by go_num, by rw [HT.out] <;> rfl, below_drewN HB.out _⟩
                    case measure => simp [intOf]; omega
                  | false =>
                    go_upto_region 15 with fail
                    go_quiet (first | (go_at_call 11; with_reducible exact Calls.quiet_of_same (CW.out _ (below_drewN V0.out _))))
                    go_wp2_with fail
                    go_roundw
                    case rel => exact ⟨j + 1, by omega, by go_num, by rw [HT.out, Bool.false_or], below_drewN HB.out _⟩
                    case measure => simp [intOf]; omega
                · obtain rfl : j = m1.r.steps.length := by omega
                  have d3 : decide ((m1.r.steps.length : Int) < (m1.r.steps.length : Int)) = false := dec_f (by omega)
                  rw [List.take_length]
                  have F3 := Lib.hid (show (m1.r.steps.any fun x => Wk.within m2.r.steps x.s) = Cl.share m1.r.steps m2.r.steps from rfl)
                  rw [F3.out]
                  clear a0 a1 a3 a4 a5 a6 a7 a8 c0 c1 c2 c3 c4 c5 c6 c7 c8 hb
                  go_wp2_with fail
                  clear a2
                  go_loopw [10, 12] (fun v10 v12 w' => ∃ j : Nat, j ≤ m1.r.lap.length ∧ v12 = .int .i64 j ∧ v10 = .bool ((m1.r.lap.take j).any fun x => Wk.within m2.r.steps x.s || Wk.within m2.r.lap x.s) ∧ Below wc.heap.size wc w') (fun _ v12 _ => m1.r.lap.length - (intOf v12).toNat)
                  case atStart => exact ⟨0, Nat.zero_le _, rfl, rfl, HB.out⟩
                  case round =>
                    clear HB
                    obtain ⟨j, hj, rfl, rfl, hb⟩ := hrel
                    have HB := Lib.hid hb
                    obtain ⟨⟨a0, a1, a2, a3, a4, a5, a6, a7, a8⟩, c0, c1, c2, c3, c4, c5, c6, c7, c8⟩ := KS.out _ hb
                    by_cases hjl : j < m1.r.lap.length
                    · have d4 : decide ((j : Int) < (m1.r.lap.length : Int)) = true := dec_t (by omega)
                      have j0 : (0 : Int) ≤ (j : Int) := Int.natCast_nonneg j
                      have j1 : (j : Int) < (m1.r.lap.length : Int) := by omega
                      have hx := List.getElem?_eq_getElem hjl
                      obtain ⟨ba, oa, hA1, hba, on⟩ := (P1.out.p2.below rfl hb).at hjl
                      have HT := Lib.hid (Cl.any_take hx fun x => Wk.within m2.r.steps x.s || Wk.within m2.r.lap x.s)
                      generalize m1.r.lap[j] = x at on HT
                      obtain ⟨f0, f1, f2⟩ := stp_on on
                      rw [show j * LStp.m = j * 3 from rfl] at f0 f1 f2
                      rw [hA1] at a3
                      have V0 := Lib.hid (Below.refl wr.heap.size wr)
                      have CW := Lib.hid (fun W (hW : Below wr.heap.size wr W) => Cl.within_same m2.A1 m2.c1 m2.r.steps x.s W ((P2.out.p1.below rfl hb).below rfl hW) hs2)
                      have CV := Lib.hid (fun W (hW : Below wr.heap.size wr W) => Cl.within_same m2.A2 m2.c2 m2.r.lap x.s W ((P2.out.p2.below rfl hb).below rfl hW) hl2)
                      generalize (m1.r.lap.take j).any (fun x => Wk.within m2.r.steps x.s || Wk.within m2.r.lap x.s) = t at HT
                      generalize Wk.within m2.r.steps x.s = z at CW HT
                      generalize Wk.within m2.r.lap x.s = z2 at CV HT
                      clear hx on hb hba
                      cases t with
                      | true =>
                        go_upto_region 19 with fail
                        go_quiet (fail)
                        go_wp2_with fail
                        go_roundw
                        case rel => exact ⟨j + 1, by omega, by go_num, by rw [HT.out] <;> rfl, below_drewN HB.out _⟩
                        case measure => simp [intOf]; omega
                      | false =>
                        cases z with
                        | true =>
                          go_upto_region 19 with fail
                          go_quiet (first | (go_at_call 11; with_reducible exact Calls.quiet_of_same (CW.out _ (below_drewN V0.out _))))
                          go_wp2_with fail
                          go_roundw
                          case rel => exact ⟨j + 1, by omega, by go_num, by rw [HT.out] <;> rfl, below_drewN HB.out _⟩
                          case measure => simp [intOf]; omega
                        | false =>
                          go_upto_region 19 with fail
                          go_quiet (first
                            | (go_at_call 11; with_reducible exact Calls.quiet_of_same (CW.out _ (below_drewN V0.out _)))
                            | (go_at_call 11; with_reducible exact Calls.quiet_of_same (CV.out _ (below_drewN V0.out _))))
                          go_wp2_with fail
                          go_roundw
                          case rel => exact ⟨j + 1, by omega, by go_num, by rw [HT.out, Bool.false_or, Bool.false_or], below_drewN HB.out _⟩
                          case measure => simp [intOf]; omega
                    · obtain rfl : j = m1.r.lap.length := by omega
                      have d4 : decide ((m1.r.lap.length : Int) < (m1.r.lap.length : Int)) = false := dec_f (by omega)
                      rw [List.take_length]
                      have F4 := Lib.hid (show (m1.r.lap.any fun x => Wk.within m2.r.steps x.s || Wk.within m2.r.lap x.s) = Cl.over m1.r m2.r from rfl)
                      rw [F4.out]
                      have V0 := Lib.hid (Below.refl wr.heap.size wr)
                      have CO := Lib.hid (rdOpposed_any m1.A3 m1.c3 m1.r.pts m2.A3 m2.c3 m2.r.pts wr (P1.out.p3.below rfl hb) hp1 (P2.out.p3.below rfl hb) hp2)
                      generalize Cl.share m1.r.steps m2.r.steps = z1 at HMU
                      generalize Dm.opposed m1.r.pts m2.r.pts = z2 at HMU CO
                      generalize Cl.over m1.r m2.r = z3 at HMU
                      generalize hz0 : (m1.r.entry == m2.r.entry) = z0 at HMU
                      generalize hz4 : (m1.r.exit != m2.r.entry) = z4 at HMU
                      have KR := Lib.hid (fun W (hW : Below wr.heap.size wr W) => KS.out W (hb.trans (hW.mono hb.size)))
                      clear hb F3 F4
                      go_upto_region 20 with fail
                      go_cut [13] from 91 to 122 (fun s13 w' => s13 = .bool (Cl.must m1.r m2.r) ∧ Below wr.heap.size wr w')
                      case first =>
                        cases z0 with
                        | true =>
                          have E := Lib.hid (show Cl.must m1.r m2.r = true from by rw [HMU.out]; rfl)
                          go_wp2_with fail
                          go_meet
                          exact ⟨by rw [E.out], V0.out⟩
                        | false =>
                          cases z1 with
                          | true =>
                            have E := Lib.hid (show Cl.must m1.r m2.r = true from by rw [HMU.out]; rfl)
                            go_wp2_with fail
                            go_meet
                            exact ⟨by rw [E.out], V0.out⟩
                          | false =>
                            go_wp2_with fail
                            refine CO.out.mono ?_; rintro e w4 ⟨rfl, hb4⟩
                            have B4 := Lib.hid hb4
                            clear a0 a1 a2 a3 a4 a5 a6 a7 a8 c0 c1 c2 c3 c4 c5 c6 c7 c8 CO
                            obtain ⟨⟨a0, a1, a2, a3, a4, a5, a6, a7, a8⟩, c0, c1, c2, c3, c4, c5, c6, c7, c8⟩ := KR.out _ hb4
                            clear hb4
                            cases z2 with
                            | true =>
                              have E := Lib.hid (show Cl.must m1.r m2.r = true from by rw [HMU.out]; rfl)
                              go_wp2_with fail
                              go_meet
                              exact ⟨by rw [E.out], B4.out⟩
                            | false =>
                              cases z3 with
                              | true =>
                                have E := Lib.hid (show Cl.must m1.r m2.r = z4 from by rw [HMU.out]; rfl)
                                go_wp2_with fail
                                go_meet
                                exact ⟨by rw [E.out], B4.out⟩
                              | false =>
                                have E := Lib.hid (show Cl.must m1.r m2.r = false from by rw [HMU.out]; rfl)
                                go_wp2_with fail
                                go_meet
                                exact ⟨by rw [E.out], B4.out⟩
                      case rest =>
                        obtain ⟨rfl, hb5⟩ := hcut
                        have BX := Lib.hid (BW.out.trans ((HB.out.trans (hb5.mono HB.out.size)).mono BW.out.size))
                        clear a0 a1 a2 a3 a4 a5 a6 a7 a8 c0 c1 c2 c3 c4 c5 c6 c7 c8
                        obtain ⟨⟨a0, a1, a2, a3, a4, a5, a6, a7, a8⟩, c0, c1, c2, c3, c4, c5, c6, c7, c8⟩ := KR.out _ hb5
                        have CB := Lib.hid (pcBars_any m1 m2 wc (P1.out.below (HB.out.trans (hb5.mono HB.out.size))) (P2.out.below (HB.out.trans (hb5.mono HB.out.size))) HTT.out.1 HTT.out.2)
                        clear hz0 hz4 CO hb5
                        generalize Cl.must m1.r m2.r = mu at HMB
                        cases mu with
                        | true =>
                          rw [HMB.out rfl] at CB
                          go_wp2_with fail
                          refine CB.out.mono ?_; rintro e w9 ⟨rfl, hb9⟩
                          have BY := Lib.hid (BX.out.trans (hb9.mono BX.out.size))
                          clear hb9
                          go_wp2_with fail
                          go_roundw
                          case rel => exact ⟨k + 1, by omega, by go_num, BY.out⟩
                          case measure => simp [intOf]; omega
                        | false =>
                          go_wp2_with fail
                          go_roundw
                          case rel => exact ⟨k + 1, by omega, by go_num, BX.out⟩
                          case measure => simp [intOf]; omega
          · obtain rfl : k = L.length := by omega
            have d2 : decide ((L.length : Int) < (L.length : Int)) = false := dec_f (by omega)
            go_wp2_with fail
            go_roundw
            case rel => exact ⟨i + 1, by omega, by go_num, HBk.out⟩
            case measure => simp [intOf]; omega
      · obtain rfl : i = L.length := by omega
        have d1 : decide ((L.length : Int) < (L.length : Int)) = false := dec_f (by omega)
        have BX := Lib.hid (B1.out.trans (HBi.out.mono B1.out.size))
        go_wp2_with fail
        refine (AW.out _).mono ?_; rintro e w8 ⟨rfl, hb8⟩
        go_wp2
        go_ret
        exact ⟨rfl, BX.out.trans (hb8.mono BX.out.size)⟩
  --]
end Go.Proofs.Ytbmmcmdopekccaa
