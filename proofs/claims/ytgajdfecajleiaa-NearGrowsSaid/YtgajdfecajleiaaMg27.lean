/-
  Texts of this claim, merged: NearGrowsWalk.
-/
import Derived.Test.YtgajdfecajleiaaMg01
import Derived.Test.YtgajdfecajleiaaMg25
import Derived.Deep.CutRange
/-
  The walk of the law NearGrows: it returns true.
-/
namespace Go.Proofs.Ytgajdfecajleiaa
open Go.RowKit

theorem Nr.far_of {p : Pl.Plan} (hm : Lp.Meas p) (n : Int) {k : Nat} {g : Pl.Sig} (hg : p.sigs[k]? = some g) : Nr.of (Nr.far p n) (k : Int) = (Nr.sects p n (g.sec.toNat, g.en.toNat), Nr.total p (Nr.sects p n (g.sec.toNat, g.en.toNat))) := by
  rw [Nr.of_at (p := Nr.far p n) (far_meas hm n) hg]
  show (Nr.sects (Nr.far p n) n _, Nr.total (Nr.far p n) (Nr.sects (Nr.far p n) n _)) = _
  rw [Nr.sects_far]
  rfl
theorem anyn_take {L : List Nat} {j x : Nat} (h : L[j]? = some x) (t : Nat) : (L.take (j + 1)).any (fun y => decide (y = t)) = ((L.take j).any (fun y => decide (y = t)) || decide (x = t)) := by
  rw [List.take_add_one, h, List.any_append]
  simp
theorem nrow_at {w : World} {B : Option Addr} {l : List Nat} (h : LNum.Row w B (ints l)) {j : Nat} (hj : j < l.length) : ∃ b o, B = some ⟨b, o, none⟩ ∧ b < w.heap.size ∧ w.cell? ⟨b, o + j, none⟩ = some (.int .i64 ((l[j] : Nat) : Int)) := by
  obtain ⟨b, o, rfl, g, on⟩ := h.at (show j < (ints l).length by rw [ints_len]; exact hj)
  rw [show (ints l)[j]'(by rw [ints_len]; exact hj) = ((l[j] : Nat) : Int) by unfold ints; rw [List.getElem_map]] at on
  have c0 := num_on on
  rw [show j * LNum.m = j from Nat.mul_one j] at c0
  exact ⟨b, o, rfl, g, c0⟩
set_option maxHeartbeats 16000000 in
set_option maxRecDepth 100000 in
theorem nearGrows_walk (s : ByteArray) (x y : Int) (W : World) (_ws : s.size ≤ maxLen) (wx : (Lit.int .u8 x).wf = true) (wy : (Lit.int .u16 y).wf = true) :
    Calls Try.prog 4 #[.string s, .int .u8 x, .int .u16 y] W fun e w' => e = .returned (.bool true) ∧ Below W.heap.size W w' := by
  have AW := Lib.hid nrAwake_any
  have bx := wf_u8 wx
  have by_ := wf_u16 wy
  clear wx wy
  cases hm : madeP s.data.toList with
  | none =>
    have CM := Lib.hid (fun W => made_void hm W)
    go_enter Try.func4, Try.ntmps4
    go_wp2_with fail
    refine (CM.out _).mono ?_; rintro e w1 ⟨p, S, cS, G, cG, rfl, -, hb1⟩
    have B5 := Lib.hid (hb1.alloc hb1.size (planO p S cS G cG))
    clear hb1
    go_wp2_with fail
    refine (AW.out _).mono ?_; rintro e w8 ⟨rfl, hb8⟩
    go_wp2
    go_ret
    exact ⟨rfl, B5.out.trans (hb8.mono B5.out.size)⟩
  | some p =>
    obtain ⟨hfit, hmeas, hap, hback⟩ := madeP_near hm
    have hap2 : 0 ≤ p.ap ∧ p.ap ≤ 1125899906842624 := by omega
    have CM := Lib.hid (fun W => made_some hm W)
    clear hm
    go_enter Try.func4, Try.ntmps4
    go_wp2_with fail
    refine (CM.out _).mono ?_; rintro e w1 ⟨S, cS, G, cG, rfl, pin, hb1⟩
    have X1 := (Below.refl w1.heap.size w1).alloc (Nat.le_refl _) (planO p S cS G cG)
    have B5 := Lib.hid (hb1.trans (X1.mono hb1.size))
    have I5 := Lib.hid (pin.below X1)
    have RP := Lib.hid (heap_alloc_new w1 (planO p S cS G cG))
    obtain ⟨⟨p0, p1, p2, p3, p4, p5⟩, -, gx⟩ := row6 RP.out
    clear hb1 pin CM X1
    by_cases hz : p.sigs.length = 0
    · have E0 : ((p.sigs.length : Int) == 0) = true := by rw [beq_iff_eq]; omega
      clear hz
      go_wp2_with fail
      refine (AW.out _).mono ?_; rintro e w8 ⟨rfl, hb8⟩
      go_wp2
      go_ret
      exact ⟨rfl, B5.out.trans (hb8.mono B5.out.size)⟩
    have E0 : ((p.sigs.length : Int) == 0) = false := by rw [beq_eq_false_iff_ne]; omega
    have hgf := hfit.gfew
    obtain ⟨k, hk, hkl⟩ : ∃ k : Nat, x % (p.sigs.length : Int) = (k : Int) ∧ k < p.sigs.length := by
      have h1 := Int.emod_nonneg x (show (p.sigs.length : Int) ≠ 0 by omega)
      have h2 := Int.emod_lt_of_pos x (show (0 : Int) < (p.sigs.length : Int) by omega)
      exact ⟨(x % (p.sigs.length : Int)).toNat, by omega, by omega⟩
    have q1 : IntKind.i64.wrap x = x := IntWalk.i64_in _ (by omega)
    have q2 : x.tmod (p.sigs.length : Int) = (k : Int) := by rw [Int.tmod_eq_emod_of_nonneg bx.1]; exact hk
    have q3 : IntKind.i64.wrap (k : Int) = (k : Int) := IntWalk.i64_in _ (by omega)
    have hsg := List.getElem?_eq_getElem hkl
    have hof := Nr.of_at hmeas hsg
    obtain ⟨hs0, hs1, he0, he1⟩ := hfit.sigs k _ hsg
    go_upto_region 5 with fail
    generalize w1.alloc (planO p S cS G cG) = w5 at B5 I5 RP p0 p1 p2 p3 p4 p5 gx ⊢
    generalize w1.heap.size = g at RP p0 p1 p2 p3 p4 p5 gx ⊢
    have CP := Lib.hid (pnOf_any p hfit hmeas hap2 S cS G cG k w5 I5.out)
    have hap3 : 0 ≤ p.ap + y ∧ p.ap + y ≤ 1125899906842624 := by omega
    have CQ := Lib.hid (fun W' (hW : Below w5.heap.size w5 W') => pnOf_any (Nr.far p (p.ap + y)) (far_fit hfit _) (far_meas hmeas _) hap3 S cS G cG k W' (show PlanIn W' (Nr.far p (p.ap + y)) S G from I5.out.below hW))
    rw [Nr.far_of hmeas _ hsg] at CQ
    rw [hof] at CP
    have hsec : (p.sigs[k]).sec = ((p.sigs[k]).sec.toNat : Int) := by omega
    obtain ⟨bg, og, rfl, gg, on⟩ := (I5.out.2).at hkl
    obtain ⟨-, s1, -⟩ := sig_on on
    rw [show k * LSig.m = k * 3 from rfl, hsec] at s1
    have hst1 : (p.sigs[k]).sec.toNat < p.secs.length := by omega
    have hst2 : (p.sigs[k]).en.toNat < 3 := by omega
    generalize hz1 : (p.sigs[k]).sec.toNat = z at s1 CP CQ hst1
    generalize (p.sigs[k]).en.toNat = z2 at CP CQ hst2
    have hsub := fun s (h : s ∈ Nr.sects p p.ap (z, z2)) => Nr.sects_more (p := p) (ap' := p.ap + y) (by omega) h
    have hle := Nr.total_more hmeas (show p.ap ≤ p.ap + y by omega) (z, z2)
    have hris := Nr.sects_rise p p.ap (z, z2)
    have hin := fun s (h : s ∈ Nr.sects p p.ap (z, z2)) => (Nr.mem_sects.1 h).1
    have hhere := Nr.sects_here hmeas (ap := p.ap) (st := (z, z2)) ⟨hst1, hst2⟩
    have hl1 := Nr.sects_len hfit p.ap (z, z2)
    have hl2 := Nr.sects_len hfit (p.ap + y) (z, z2)
    generalize Nr.sects p p.ap (z, z2) = l at CP hsub hle hris hin hhere hl1
    generalize Nr.sects p (p.ap + y) (z, z2) = l2 at CQ hsub hle hl2
    have k0 : (0 : Int) ≤ (k : Int) := Int.natCast_nonneg k
    have k1 : (k : Int) < (p.sigs.length : Int) := by omega
    have KP := Lib.hid (fun W' (hW : Below w5.heap.size w5 W') => And.intro (row6 ((hW.block _ gx).trans RP.out)).1 ((hW.cell (p := ⟨bg, og + k * 3 + 1, none⟩) gg).trans s1))
    have qy : IntKind.i64.wrap y = y := IntWalk.i64_in _ (by omega)
    have qa : IntKind.i64.wrap (p.ap + y) = p.ap + y := IntWalk.i64_in _ (by omega)
    have HSUB := Lib.hid hsub
    have HRIS := Lib.hid hris
    have HIN := Lib.hid hin
    have HLE := Lib.hid hle
    have HHERE := Lib.hid hhere
    have HTB := Lib.hid (fun l => Nr.total_bd hmeas l)
    have HLB := Lib.hid (fun s => Nr.lenAt_bd hmeas s)
    clear hof hsg hs0 hs1 he0 he1 on hsec s1 hk q1 q2 q3 hz1 hsub hle hris hin hhere
    go_wp2_with fail
    refine CP.out.mono ?_; rintro e w6 ⟨B1, d1, rfl, hR1, hb6, -⟩
    have T6 := Lib.hid hb6
    have R1 := Lib.hid hR1
    obtain ⟨⟨q0, q1, q2, q3, q4, q5⟩, -⟩ := KP.out _ hb6
    have XQ := Lib.hid ((Below.refl w6.heap.size w6).alloc (Nat.le_refl _) (planO p S cS (some ⟨bg, og, none⟩) cG))
    have RQ := Lib.hid (heap_alloc_new w6 (planO p S cS (some ⟨bg, og, none⟩) cG))
    clear p0 p1 p2 p3 p4 p5 hR1 hb6 CP
    go_upto_region 7 with fail
    clear q0 q1 q2 q3 q4 q5
    have T7 := Lib.hid (T6.out.trans (XQ.out.mono T6.out.size))
    have R17 := Lib.hid (R1.out.below rfl XQ.out)
    generalize w6.alloc (planO p S cS (some ⟨bg, og, none⟩) cG) = w7 at XQ RQ T7 R17 ⊢
    generalize hg2 : w6.heap.size = g2 at RQ ⊢
    have hg5 : w5.heap.size ≤ g2 := by rw [← hg2]; exact T6.out.size
    obtain ⟨⟨-, q1, -, -, -, -⟩, -⟩ := KP.out _ T7.out
    obtain ⟨⟨-, r1, -, -, -, -⟩, ⟨-, f1, -, -, -, -⟩, g2l⟩ := row6 RQ.out
    have RQ8 := Lib.hid (show (w7.setCell ⟨g2, 1, none⟩ (.int .i64 (p.ap + y))).heap[g2]? = some (planO (Nr.far p (p.ap + y)) S cS (some ⟨bg, og, none⟩) cG) from by rw [heap_setCell_same _ _ _ _ _ _ RQ.out]; rfl)
    have T8 := Lib.hid (T7.out.setCell (p := ⟨g2, 1, none⟩) hg5 (.int .i64 (p.ap + y)))
    have X68 := Lib.hid (XQ.out.setCell (p := ⟨g2, 1, none⟩) (Nat.le_of_eq hg2) (.int .i64 (p.ap + y)))
    have R18 := Lib.hid (R1.out.below rfl X68.out)
    clear hg2
    go_upto_region 8 with fail
    clear q1 r1 f1 XQ RQ T7 R17 g2l
    generalize w7.setCell ⟨g2, 1, none⟩ (.int .i64 (p.ap + y)) = w8 at RQ8 T8 X68 R18 ⊢
    obtain ⟨⟨q0, q1, q2, q3, q4, q5⟩, -, -⟩ := row6 RQ8.out
    have C8 := Lib.hid (CQ.out _ T8.out)
    clear CQ
    go_wp2_with fail
    refine C8.out.mono ?_; rintro e w9 ⟨B2, d2, rfl, hR2, hb9, -⟩
    have T9 := Lib.hid (T8.out.trans (hb9.mono T8.out.size))
    have R2 := Lib.hid hR2
    have R19 := Lib.hid (R18.out.below rfl hb9)
    clear q0 q1 q2 q3 q4 q5 hR2 hb9 C8 X68 R18 RQ8 T8 R1 T6
    have KP9 := Lib.hid (fun W' (hW : Below w9.heap.size w9 W') => KP.out _ (T9.out.trans (hW.mono T9.out.size)))
    have KI9 := Lib.hid (fun W' (hW : Below w9.heap.size w9 W') => I5.out.below (T9.out.trans (hW.mono T9.out.size)))
    have RA := Lib.hid (fun W' (hW : Below w9.heap.size w9 W') => R19.out.below rfl hW)
    have RB := Lib.hid (fun W' (hW : Below w9.heap.size w9 W') => R2.out.below rfl hW)
    have U9 := Lib.hid (Below.refl w9.heap.size w9)
    clear KP R19 R2 I5
    go_wp2_with fail
    go_loopg [15, 16, 17, 18, 19] l.length (fun gg v15 v16 v17 _ _ w' => ∃ j : Nat, j ≤ l.length ∧ l.length - j ≤ gg ∧ v15 = .int .i64 (Nr.total p (l.take j)) ∧ v16 = .bool ((l.take j).any fun t => decide (t = z)) ∧ v17 = .int .i64 j ∧ Below w9.heap.size w9 w')
    case atStart => exact ⟨0, Nat.zero_le _, Nat.sub_le _ _, rfl, rfl, rfl, U9.out⟩
    case round =>
      obtain ⟨j, hj, hgg, rfl, rfl, rfl, hb⟩ := hrel
      have HB := Lib.hid hb
      by_cases hlt : j < l.length
      · obtain ⟨b1, o1, rfl, g1, c0⟩ := nrow_at (RA.out _ hb) hlt
        have hmem := List.getElem_mem hlt
        have hget := List.getElem?_eq_getElem hlt
        have hil := HIN.out _ hmem
        have hsb := HSUB.out _ hmem
        have htk : Nr.total p (l.take (j + 1)) = Nr.total p (l.take j) + Nr.lenAt p l[j] := by rw [List.take_add_one, hget]; exact Nr.total_snoc p _ _
        have hat := anyn_take hget z
        have htb := HTB.out (l.take j)
        have htl : (l.take j).length ≤ 24 := by rw [List.length_take]; omega
        have hlb := HLB.out l[j]
        have d1 : decide ((j : Int) < (l.length : Int)) = true := dec_t (by omega)
        have j0 : (0 : Int) ≤ (j : Int) := Int.natCast_nonneg j
        have j1 : (j : Int) < (l.length : Int) := by omega
        obtain ⟨⟨p0, p1, p2, p3, p4, p5⟩, s1⟩ := KP9.out _ hb
        obtain ⟨bS, oS, rfl, gS, onS⟩ := sec_cells (KI9.out _ hb).1 (List.getElem?_eq_getElem hil)
        have onl := (sec_on onS).2.2.1
        rw [show (p.secs[l[j]]).len = Nr.lenAt p l[j] by unfold Nr.lenAt; rw [List.getElem?_eq_getElem hil]; rfl] at onl
        have hprev : ∀ j', j = j' + 1 → ∃ a', wr.cell? ⟨b1, o1 + j', none⟩ = some (.int .i64 ((a' : Nat) : Int)) ∧ a' < l[j] := by
          intro j' hj'
          obtain ⟨b2, o2, he2, -, c2⟩ := nrow_at (RA.out _ hb) (show j' < l.length by omega)
          cases he2
          exact ⟨_, c2, List.pairwise_iff_getElem.1 HRIS.out j' j (by omega) hlt (by omega)⟩
        generalize l[j] = a at c0 hmem hget hil hsb htk hat hlb onl hprev
        have a0 : (0 : Int) ≤ (a : Int) := Int.natCast_nonneg a
        have a1 : (a : Int) < (p.secs.length : Int) := by omega
        have A0 : decide ((a : Int) < 0) = false := dec_f (by omega)
        have A1 : decide ((p.secs.length : Int) ≤ (a : Int)) = false := dec_f (by omega)
        have A2 : ¬ p.secs.length ≤ a := by omega
        have qs : IntKind.i64.wrap (Nr.total p (l.take j) + Nr.lenAt p a) = Nr.total p (l.take (j + 1)) := by rw [IntWalk.i64_in _ (by omega)]; exact htk.symm
        have HAT := Lib.hid hat
        have HSB := Lib.hid hsb
        generalize Nr.lenAt p a = la at onl qs
        generalize Nr.total p (l.take j) = t0 at qs ⊢
        generalize htn : Nr.total p (l.take (j + 1)) = tn at qs
        have HTN := Lib.hid htn
        clear hb hmem hget hat hsb htk htb htl hlb onS htn
        have HPV := Lib.hid hprev
        clear hprev
        go_upto_region 13 with fail
        go_cut [95] from 59 to 140 (fun v95 w' => v95 = .bool false ∧ ∃ q, w' = wr.drewN q)
        case first =>
          by_cases hj0 : j = 0
          · have Z0 : decide ((0 : Int) < (j : Int)) = false := dec_f (by omega)
            have Z0n : ¬ 0 < j := by omega
            clear s1 onl HPV hj0
            go_quiet (fail)
            go_wp2_with fail
            go_meet
            exact ⟨rfl, _, rfl⟩
          · have Z0 : decide ((0 : Int) < (j : Int)) = true := dec_t (by omega)
            obtain ⟨j', rfl⟩ : ∃ j', j = j' + 1 := ⟨j - 1, by omega⟩
            obtain ⟨a', c1, hlta⟩ := HPV.out j' rfl
            have Z1 : decide ((a : Int) ≤ (a' : Int)) = false := dec_f (by omega)
            have Z2 : ¬ a ≤ a' := by omega
            have qj : IntKind.i64.wrap (((j' + 1 : Nat) : Int) - 1) = (j' : Int) := by rw [IntWalk.i64_in _ (by omega)]; omega
            have Z0n : 0 < j' + 1 := by omega
            have m0 : (0 : Int) ≤ (j' : Int) := Int.natCast_nonneg j'
            have m1 : (j' : Int) < (l.length : Int) := by omega
            clear s1 onl HPV hj0
            generalize hjj : j' + 1 = jj at c0 d1 j0 j1 Z0 Z0n qj ⊢
            go_quiet (fail)
            go_wp2_with fail
            subst hjj
            go_meet
            exact ⟨rfl, _, rfl⟩
        case rest =>
        obtain ⟨rfl, nq1, rfl⟩ := hcut
        clear HPV
        go_upto_region 15 with fail
        go_quiet (fail)
        go_upto_region 16 with fail
        have HB2 := Lib.hid (show Below w9.heap.size w9 ((wr.drewN nq1).drewN nq) from below_drewN (below_drewN HB.out _) _)
        have c0' : ((wr.drewN nq1).drewN nq).cell? ⟨b1, o1 + j, none⟩ = some (.int .i64 (a : Int)) := c0
        have s1' : ((wr.drewN nq1).drewN nq).cell? ⟨bg, og + k * 3 + 1, none⟩ = some (.int .i64 (z : Int)) := s1
        have p5' : ((wr.drewN nq1).drewN nq).cell? ⟨g, 5, none⟩ = some (.slice (some ⟨bg, og, none⟩) p.sigs.length cG) := p5
        have g1' : b1 < ((wr.drewN nq1).drewN nq).heap.size := g1
        clear p0 p1 p2 p3 p4 p5 s1 c0 onl gS g1
        generalize (wr.drewN nq1).drewN nq = wx at HB2 c0' s1' p5' g1' ⊢
        generalize hh0 : ((l.take j).any fun t => decide (t = z)) = h0 at HAT ⊢
        clear hh0
        generalize htj : ((l.take (j + 1)).any fun t => decide (t = z)) = hj1 at HAT
        have HTJ := Lib.hid htj
        clear htj
        go_cut [16] from 59 to 140 (fun v16 w' => v16 = .bool hj1 ∧ ∃ q, w' = wx.drewN q)
        case first =>
          have hat := HAT.out
          cases h0 with
          | true =>
            rw [Bool.true_or] at hat
            subst hat
            go_quiet (fail)
            go_wp2_with fail
            go_meet
            exact ⟨rfl, _, rfl⟩
          | false =>
            rw [Bool.false_or] at hat
            by_cases haz : a = z
            · rw [decide_eq_true haz] at hat
              subst hat
              have E : ((a : Int) == (z : Int)) = true := by rw [beq_iff_eq]; omega
              clear haz
              go_quiet (fail)
              go_wp2_with fail
              go_meet
              exact ⟨rfl, _, rfl⟩
            · rw [decide_eq_false haz] at hat
              subst hat
              have E : ((a : Int) == (z : Int)) = false := by rw [beq_eq_false_iff_ne]; omega
              clear haz
              go_quiet (fail)
              go_wp2_with fail
              go_meet
              exact ⟨rfl, _, rfl⟩
        case rest =>
        obtain ⟨rfl, nq3, rfl⟩ := hcut
        have HB3 := Lib.hid (show Below w9.heap.size w9 (wx.drewN nq3) from below_drewN HB2.out _)
        have c0'' : (wx.drewN nq3).cell? ⟨b1, o1 + j, none⟩ = some (.int .i64 (a : Int)) := c0'
        have g1'' : b1 < (wx.drewN nq3).heap.size := g1'
        clear c0' s1' p5' g1' HAT
        generalize wx.drewN nq3 = w10 at HB3 c0'' g1'' ⊢
        have KA := Lib.hid (fun W' (hW : Below w10.heap.size w10 W') => (hW.cell (p := ⟨b1, o1 + j, none⟩) g1'').trans c0'')
        have RB2 := Lib.hid (fun W' (hW : Below w10.heap.size w10 W') => RB.out _ (HB3.out.trans (hW.mono HB3.out.size)))
        have U10 := Lib.hid (Below.refl w10.heap.size w10)
        clear c0'' g1''
        go_wp2_with fail
        go_loopw [18, 19] (fun v18 v19 w' => ∃ i : Nat, i ≤ l2.length ∧ v18 = .bool ((l2.take i).any fun t => decide (t = a)) ∧ v19 = .int .i64 i ∧ Below w10.heap.size w10 w') (fun _ v19 _ => l2.length - (intOf v19).toNat)
        case atStart => exact ⟨0, Nat.zero_le _, rfl, rfl, U10.out⟩
        case round =>
          obtain ⟨i, hi, rfl, rfl, hb11⟩ := hrel
          have HB11 := Lib.hid hb11
          clear hb11
          by_cases hil2 : i < l2.length
          · have d3 : decide ((i : Int) < (l2.length : Int)) = true := dec_t (by omega)
            have i0 : (0 : Int) ≤ (i : Int) := Int.natCast_nonneg i
            have i1 : (i : Int) < (l2.length : Int) := by omega
            obtain ⟨b3, o3, rfl, g3, c3⟩ := nrow_at (RB2.out _ HB11.out) hil2
            have ca := KA.out _ HB11.out
            have HA3 := Lib.hid (anyn_take (List.getElem?_eq_getElem hil2) a)
            generalize l2[i] = y3 at c3 HA3
            generalize hhi : ((l2.take i).any fun t => decide (t = a)) = h3 at HA3 ⊢
            clear hhi
            cases h3 with
            | true =>
              go_upto_region 21 with fail
              go_quiet (fail)
              go_wp2_with fail
              go_roundw
              case rel => exact ⟨i + 1, by omega, by rw [HA3.out, Bool.true_or], by go_num, below_drewN HB11.out _⟩
              case measure => simp [intOf]; omega
            | false =>
              by_cases hya : y3 = a
              · have E : ((y3 : Int) == (a : Int)) = true := by rw [beq_iff_eq]; omega
                have HV := Lib.hid (show ((l2.take (i + 1)).any fun t => decide (t = a)) = true from by rw [HA3.out, decide_eq_true hya]; rfl)
                clear hya
                go_upto_region 21 with fail
                go_quiet (fail)
                go_wp2_with fail
                go_roundw
                case rel => exact ⟨i + 1, by omega, by rw [HV.out], by go_num, below_drewN HB11.out _⟩
                case measure => simp [intOf]; omega
              · have E : ((y3 : Int) == (a : Int)) = false := by rw [beq_eq_false_iff_ne]; omega
                have HV := Lib.hid (show ((l2.take (i + 1)).any fun t => decide (t = a)) = false from by rw [HA3.out, decide_eq_false hya]; rfl)
                clear hya
                go_upto_region 21 with fail
                go_quiet (fail)
                go_wp2_with fail
                go_roundw
                case rel => exact ⟨i + 1, by omega, by rw [HV.out], by go_num, below_drewN HB11.out _⟩
                case measure => simp [intOf]; omega
          · obtain rfl : i = l2.length := by omega
            have d3 : decide ((l2.length : Int) < (l2.length : Int)) = false := dec_f (by omega)
            have HV := Lib.hid (show ((l2.take l2.length).any fun t => decide (t = a)) = true from by rw [List.take_length]; exact List.any_eq_true.2 ⟨a, HSB.out, decide_eq_true rfl⟩)
            rw [HV.out]
            have HBF := Lib.hid (HB3.out.trans (HB11.out.mono HB3.out.size))
            go_wp2_with fail
            go_roundg (l.length - (j + 1))
            case measure => omega
            case rel => exact ⟨j + 1, by omega, by omega, by rw [HTN.out], by rw [HTJ.out], by go_num, HBF.out⟩
      · obtain rfl : j = l.length := by omega
        have d1 : decide ((l.length : Int) < (l.length : Int)) = false := dec_f (by omega)
        obtain ⟨⟨-, p1, -, -, -, -⟩, -⟩ := KP9.out _ hb
        rw [List.take_length]
        have hany : (l.any fun t => decide (t = z)) = decide (0 < p.ap) := by
          rw [Bool.eq_iff_iff, decide_eq_true_eq, ← HHERE.out, List.any_eq_true]
          constructor
          · rintro ⟨t, ht, he⟩
            rw [← of_decide_eq_true he]; exact ht
          · intro h
            exact ⟨z, h, decide_eq_true rfl⟩
        rw [hany]
        have E1 : (Nr.total p l == Nr.total p l) = true := beq_self_eq_true _
        have E3 : decide (Nr.total p l ≤ Nr.total p l2) = true := dec_t HLE.out
        have YF := Lib.hid (B5.out.trans ((T9.out.trans (HB.out.mono T9.out.size)).mono B5.out.size))
        have KF := Lib.hid (fun W' (hW : Below wr.heap.size wr W') => (KP9.out _ (HB.out.trans (hW.mono HB.out.size))).1.2.1)
        generalize hdz : decide (0 < p.ap) = dz
        have E2 : (dz == dz) = true := beq_self_eq_true _
        clear hb hany
        go_wp2_with fail
        refine (AW.out _).mono ?_; rintro e w8' ⟨rfl, hb8⟩
        have p1' := KF.out _ hb8
        have YG := Lib.hid (YF.out.trans (hb8.mono YF.out.size))
        clear hb8 p1
        cases dz with
        | true =>
          have Z9 : 0 < p.ap := of_decide_eq_true hdz
          go_wp2_with fail
          go_ret
          exact ⟨rfl, YG.out⟩
        | false =>
          have Z9 : ¬ 0 < p.ap := of_decide_eq_false hdz
          go_wp2_with fail
          go_ret
          exact ⟨rfl, YG.out⟩
end Go.Proofs.Ytgajdfecajleiaa
