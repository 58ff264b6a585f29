/-
  Texts of this claim, merged: NearAllWalk.
-/
import Derived.Test.YtgajdfecajleiaaMg01
import Derived.Test.YtgajdfecajleiaaMg11
import Derived.Test.YtgajdfecajleiaaMg20
import Derived.Test.YtgajdfecajleiaaMg25
import Derived.Deep.CutRange
import Derived.Deep.RegionWith
/-
  The walk of the law NearAll: it returns true.
-/
namespace Go.Proofs.Ytgajdfecajleiaa
open Go.RowKit

def mtabV (M : List Bool) : List Value := M.map fun x => .bool x
abbrev mtabO (M : List Bool) : Obj := .cells (mtabV M).toArray 47
/-- The world: the table of ends that are met, all else below a base as it was. -/
structure MetW (W0 w' : World) (b : Nat) (M : List Bool) : Prop where
  tab : w'.heap[b]? = some (.cells (mtabV M).toArray 47 (0, 0))
  below : Below W0.heap.size W0 w'
theorem MetW.lt {W0 w : World} {b : Nat} {M : List Bool} (h : MetW W0 w b M) : b < w.heap.size := (Array.getElem?_eq_some_iff.1 h.tab).1
theorem MetW.behind {W0 w1 w2 : World} {b : Nat} {M : List Bool} (h : MetW W0 w1 b M) (hb : Below w1.heap.size w1 w2) : MetW W0 w2 b M := ⟨(hb.block _ h.lt).trans h.tab, h.below.trans (hb.mono h.below.size)⟩
theorem MetW.cell {W0 w : World} {b : Nat} {M : List Bool} (h : MetW W0 w b M) {s e : Nat} (hs : Nr.slot (s, e) < M.length) : w.cell? ⟨b, s * 3 + e, none⟩ = some (.bool (Nr.mAt M (s, e))) := by
  rw [cell_of_row w b _ _ _ _ h.tab, List.getElem?_toArray]
  unfold mtabV
  have := Nr.mAt_get hs
  rw [List.getElem?_map, show s * 3 + e = Nr.slot (s, e) by unfold Nr.slot; show s * 3 + e = 3 * s + e; omega, this]
  rfl
theorem MetW.frozen {W0 w : World} {b : Nat} {M : List Bool} (h : MetW W0 w b M) (j : Nat) : w.frozen? ⟨b, j, none⟩ = false := frozen_of_row w b j _ _ h.tab
theorem MetW.set {W0 w : World} {b : Nat} {M : List Bool} (h : MetW W0 w b M) (hb : W0.heap.size ≤ b) (s e : Nat) : MetW W0 (w.setCell ⟨b, s * 3 + e, none⟩ (.bool true)) b (Nr.meet M (s, e)) := by
  refine ⟨?_, h.below.setCell (p := ⟨b, s * 3 + e, none⟩) hb _⟩
  have := heap_setCell_same w b (s * 3 + e) _ _ (.bool true) h.tab
  rw [show (mtabV M).toArray.setIfInBounds (s * 3 + e) (.bool true) = (mtabV (Nr.meet M (s, e))).toArray by
    unfold mtabV Nr.meet
    rw [show s * 3 + e = Nr.slot (s, e) by unfold Nr.slot; show s * 3 + e = 3 * s + e; omega, List.map_set]
    simp] at this
  exact this
theorem MetW.drewN {W0 w : World} {b : Nat} {M : List Bool} (h : MetW W0 w b M) (q : Nat) : MetW W0 (w.drewN q) b M := ⟨h.tab, below_drewN h.below _⟩
def LTriB : Lies Unit := ⟨3, by decide, fun _ => [.bool false, .bool false, .bool false], fun _ => rfl, fun y u hu => by
  simp at hu
  subst hu; rfl⟩
theorem triB_all : ∀ n : Nat, LTriB.all (List.replicate n ()) = mtabV (List.replicate (3 * n) false)
  | 0 => rfl
  | n + 1 => by
    rw [List.replicate_succ, Lies.all_cons, triB_all n, show 3 * (n + 1) = 3 * n + 1 + 1 + 1 by omega, List.replicate_succ, List.replicate_succ, List.replicate_succ]
    rfl
theorem infoTriB : (Try.prog.info? 47).map (fun i => (i.zero, i.size, i.bytes)) = some (some (.agg #[.bool false, .bool false, .bool false]), 3, 3) := by kernel_rfl
theorem met_first {p : Pl.Plan} {st : Nat × Nat} (h1 : st.1 < p.secs.length) (h2 : st.2 < 3) : Nr.MSound p st (Nr.meet (List.replicate (3 * p.secs.length) false) st) := by
  have hl : (List.replicate (3 * p.secs.length) false).length = 3 * p.secs.length := List.length_replicate
  have hs : Nr.slot st < (List.replicate (3 * p.secs.length) false).length := by rw [hl]; exact Nr.slot_lt h1 h2
  refine ⟨by unfold Nr.meet; rw [List.length_set]; exact hl, fun a ha1 ha2 hm => ?_, Nr.mAt_same hs⟩
  by_cases e : a = st
  · subst e; exact ⟨0, .start⟩
  · rw [Nr.mAt_other h2 ha2 e] at hm
    have hs2 : Nr.slot a < (List.replicate (3 * p.secs.length) false).length := by rw [hl]; exact Nr.slot_lt ha1 ha2
    have := Nr.mAt_get hs2
    rw [List.getElem?_replicate, if_pos (by rw [hl] at hs2; exact hs2), hm] at this
    cases this
theorem Nr.far_of2 {p : Pl.Plan} (hm : Lp.Meas p) (n : Int) {k : Nat} {g : Pl.Sig} (hg : p.sigs[k]? = some g) : Nr.of (Nr.far p n) (k : Int) = (Nr.sects p n (g.sec.toNat, g.en.toNat), Nr.total p (Nr.sects p n (g.sec.toNat, g.en.toNat))) := by
  rw [Nr.of_at (p := Nr.far p n) (far_meas hm n) hg]
  show (Nr.sects (Nr.far p n) n _, Nr.total (Nr.far p n) (Nr.sects (Nr.far p n) n _)) = _
  rw [Nr.sects_far]
  rfl
set_option maxHeartbeats 16000000 in
set_option maxRecDepth 100000 in
theorem nearAll_walk (s : ByteArray) (x : Int) (W : World) (_ws : s.size ≤ maxLen) (wx : (Lit.int .u8 x).wf = true) :
    Calls Try.prog 6 #[.string s, .int .u8 x] W fun e w' => e = .returned (.bool true) ∧ Below W.heap.size W w' := by
  have AW := Lib.hid nrAwake_any
  have bx := wf_u8 wx
  clear wx
  cases hm : madeP s.data.toList with
  | none =>
    have CM := Lib.hid (fun W => made_void hm W)
    go_enter Try.func6, Try.ntmps6
    go_wp2_with fail
    refine (CM.out _).mono ?_; rintro e w1 ⟨p, S, cS, G, cG, rfl, -, hb1⟩
    have B5 := Lib.hid (hb1.alloc hb1.size (planO p S cS G cG))
    clear hb1
    go_wp2_with fail
    refine (AW.out _).mono ?_; rintro e w8 ⟨rfl, hb8⟩
    go_wp2
    go_ret
    exact ⟨rfl, B5.out.trans (hb8.mono B5.out.size)⟩
  | some p =>
    obtain ⟨hfit, hmeas, hap, hback⟩ := madeP_near hm
    have hap2 : 0 ≤ p.ap ∧ p.ap ≤ 1125899906842624 := by omega
    have CM := Lib.hid (fun W => made_some hm W)
    clear hm hap
    go_enter Try.func6, Try.ntmps6
    go_wp2_with fail
    refine (CM.out _).mono ?_; rintro e w1 ⟨S, cS, G, cG, rfl, pin, hb1⟩
    have X1 := (Below.refl w1.heap.size w1).alloc (Nat.le_refl _) (planO p S cS G cG)
    have B5 := Lib.hid (hb1.trans (X1.mono hb1.size))
    have BW := hb1.size
    have RP := Lib.hid (heap_alloc_new w1 (planO p S cS G cG))
    obtain ⟨⟨p0, p1, p2, p3, p4, p5⟩, ⟨-, f1, -, -, -, -⟩, gx⟩ := row6 RP.out
    have I1 := Lib.hid pin
    have X5 := Lib.hid X1
    clear hb1 pin CM X1
    by_cases hz : p.sigs.length = 0
    · have E0 : ((p.sigs.length : Int) == 0) = true := by rw [beq_iff_eq]; omega
      clear hz
      go_wp2_with fail
      refine (AW.out _).mono ?_; rintro e w8 ⟨rfl, hb8⟩
      go_wp2
      go_ret
      exact ⟨rfl, B5.out.trans (hb8.mono B5.out.size)⟩
    have E0 : ((p.sigs.length : Int) == 0) = false := by rw [beq_eq_false_iff_ne]; omega
    have hgf := hfit.gfew
    obtain ⟨k, hk, hkl⟩ : ∃ k : Nat, x % (p.sigs.length : Int) = (k : Int) ∧ k < p.sigs.length := by
      have h1 := Int.emod_nonneg x (show (p.sigs.length : Int) ≠ 0 by omega)
      have h2 := Int.emod_lt_of_pos x (show (0 : Int) < (p.sigs.length : Int) by omega)
      exact ⟨(x % (p.sigs.length : Int)).toNat, by omega, by omega⟩
    have q1 : IntKind.i64.wrap x = x := IntWalk.i64_in _ (by omega)
    have q2 : x.tmod (p.sigs.length : Int) = (k : Int) := by rw [Int.tmod_eq_emod_of_nonneg bx.1]; exact hk
    have q3 : IntKind.i64.wrap (k : Int) = (k : Int) := IntWalk.i64_in _ (by omega)
    have hsg := List.getElem?_eq_getElem hkl
    have hof := Nr.of_at hmeas hsg
    obtain ⟨hs0, hs1, he0, he1⟩ := hfit.sigs k _ hsg
    go_upto_region 5 with fail
    generalize w1.alloc (planO p S cS G cG) = w5 at B5 X5 RP p0 p1 p2 p3 p4 p5 f1 gx ⊢
    have hgw : w1.heap.size ≤ w1.heap.size := Nat.le_refl _
    generalize hg : w1.heap.size = g at RP p0 p1 p2 p3 p4 p5 f1 gx ⊢
    have HG := Lib.hid hg
    have RP6 := Lib.hid (show (w5.setCell ⟨g, 1, none⟩ (.int .i64 1125899906842624)).heap[g]? = some (planO (Nr.far p 1125899906842624) S cS G cG) from by rw [heap_setCell_same _ _ _ _ _ _ RP.out]; rfl)
    have Y6 := Lib.hid (X5.out.setCell (p := ⟨g, 1, none⟩) (Nat.le_of_eq hg) (.int .i64 1125899906842624))
    have B6 := Lib.hid (B5.out.setCell (p := ⟨g, 1, none⟩) (by rw [← hg]; exact BW) (.int .i64 1125899906842624))
    clear hg hgw
    go_upto_region 6 with fail
    clear p0 p1 p2 p3 p4 p5 f1 gx RP X5 B5
    generalize w5.setCell ⟨g, 1, none⟩ (.int .i64 1125899906842624) = w6 at RP6 Y6 B6 ⊢
    obtain ⟨⟨p0, p1, p2, p3, q4, q5⟩, -, gx⟩ := row6 RP6.out
    have p4 : w6.cell? ⟨g, 4, none⟩ = some (.slice S p.secs.length cS) := q4
    have p5 : w6.cell? ⟨g, 5, none⟩ = some (.slice G p.sigs.length cG) := q5
    clear q4 q5
    have I6 := Lib.hid (show PlanIn w6 (Nr.far p 1125899906842624) S G from I1.out.below Y6.out)
    have hfew := hfit.few
    have hmk := run_make_k LTriB (P := Try.prog) () 46 47 (.agg #[.bool false, .bool false, .bool false]) 3 Try.underlying46 infoTriB rfl .i64 .i64 p.secs.length (by omega) (by omega)
    rw [triB_all] at hmk
    have HM6 := Lib.hid (show MetW w6 (w6.alloc (mtabO (List.replicate (3 * p.secs.length) false))) w6.heap.size (List.replicate (3 * p.secs.length) false) from ⟨heap_alloc_new w6 _, (Below.refl w6.heap.size w6).alloc (Nat.le_refl _) _⟩)
    have hsec : (p.sigs[k]).sec = ((p.sigs[k]).sec.toNat : Int) := by omega
    have hen : (p.sigs[k]).en = ((p.sigs[k]).en.toNat : Int) := by omega
    have I6p := Lib.hid (show PlanIn w6 p S G from I1.out.below Y6.out)
    obtain ⟨bg, og, rfl, gg, on⟩ := (I6p.out.2).at hkl
    obtain ⟨-, s1, s2⟩ := sig_on on
    rw [show k * LSig.m = k * 3 from rfl, hsec] at s1
    rw [show k * LSig.m = k * 3 from rfl, hen] at s2
    have hst1 : (p.sigs[k]).sec.toNat < p.secs.length := by omega
    have hst2 : (p.sigs[k]).en.toNat < 3 := by omega
    have HSG := Lib.hid hsg
    have hofp := Nr.far_of2 hmeas 1125899906842624 hsg
    generalize (p.sigs[k]).sec.toNat = z at s1 hst1 hofp
    generalize (p.sigs[k]).en.toNat = z2 at s2 hst2 hofp
    have HOF := Lib.hid hofp
    have k0 : (0 : Int) ≤ (k : Int) := Int.natCast_nonneg k
    have k1 : (k : Int) < (p.sigs.length : Int) := by omega
    have KP := Lib.hid (fun W' (hW : Below w6.heap.size w6 W') => And.intro (show (W'.cell? ⟨g, 0, none⟩ = some (.int .i64 p.ov) ∧ W'.cell? ⟨g, 1, none⟩ = some (.int .i64 1125899906842624) ∧ W'.cell? ⟨g, 2, none⟩ = some (.int .i64 p.se) ∧ W'.cell? ⟨g, 3, none⟩ = some (.int .i64 p.ho) ∧ W'.cell? ⟨g, 4, none⟩ = some (.slice S p.secs.length cS) ∧ W'.cell? ⟨g, 5, none⟩ = some (.slice (some ⟨bg, og, none⟩) p.sigs.length cG)) from (row6 ((hW.block _ gx).trans RP6.out)).1) (And.intro ((hW.cell (p := ⟨bg, og + k * 3 + 1, none⟩) gg).trans s1) ((hW.cell (p := ⟨bg, og + k * 3 + 2, none⟩) gg).trans s2)))
    clear hof hsg hs0 hs1 he0 he1 on hsec hen hk q1 q2 q3 hofp
    go_upto_region 7 with fail
    clear p0 p1 p2 p3 p4 p5 hmk s1 s2
    generalize w6.alloc (mtabO (List.replicate (3 * p.secs.length) false)) = w7 at HM6 ⊢
    generalize hb : w6.heap.size = b at HM6 ⊢
    have hbW : w6.heap.size ≤ b := Nat.le_of_eq hb
    clear hb
    obtain ⟨⟨-, -, -, -, -, p5⟩, s1, s2⟩ := KP.out _ HM6.out.below
    have c0 := HM6.out.cell (s := z) (e := z2) (by rw [List.length_replicate]; exact Nr.slot_lt hst1 hst2)
    have f0 := HM6.out.frozen (z * 3 + z2)
    have e0 : (0 : Int) ≤ (z : Int) := Int.natCast_nonneg _
    have e1 : (z : Int) < (p.secs.length : Int) := by omega
    have e2 : (0 : Int) ≤ (z2 : Int) := Int.natCast_nonneg _
    have e3 : (z2 : Int) < 3 := by omega
    have HM8 := Lib.hid (HM6.out.set hbW z z2)
    go_cut [8] from 46 to 60 (fun v8 w' => v8 = .slice (some ⟨b, 0, none⟩) p.secs.length p.secs.length ∧ w' = (w7.setCell ⟨b, z * 3 + z2, none⟩ (.bool true)).drew)
    case first =>
      go_region_with fail
      all_goals go_wp2_with fail
      all_goals go_meet
      all_goals exact ⟨rfl, rfl⟩
    case rest =>
    obtain ⟨rfl, rfl⟩ := hcut
    have HM9 := Lib.hid (show MetW w6 (w7.setCell ⟨b, z * 3 + z2, none⟩ (.bool true)).drew b (Nr.meet (List.replicate (3 * p.secs.length) false) (z, z2)) from ⟨HM8.out.tab, HM8.out.below.drew⟩)
    have HS9 := Lib.hid (met_first (p := p) (st := (z, z2)) hst1 hst2)
    clear p5 s1 s2 c0 f0 e0 e1 e2 e3 HM8 HM6
    generalize (w7.setCell ⟨b, z * 3 + z2, none⟩ (.bool true)).drew = w9 at HM9 ⊢
    generalize Nr.meet (List.replicate (3 * p.secs.length) false) (z, z2) = MS at HM9 HS9
    have HST := Lib.hid (show (z, z2).1 < p.secs.length ∧ (z, z2).2 < 3 from ⟨hst1, hst2⟩)
    have HF := Lib.hid hfit
    obtain ⟨N3, hN3⟩ : ∃ N3 : Nat, N3 = 3 * p.secs.length := ⟨_, rfl⟩
    have qm : IntKind.i64.wrap (3 * (p.secs.length : Int)) = (N3 : Int) := by rw [IntWalk.i64_in _ (by omega)]; omega
    have HN3 := Lib.hid hN3
    have hn72 : N3 ≤ 72 := by omega
    clear hN3
    go_wp2_with fail
    go_loopw [9, 10, 11, 12, 13, 14, 15, 16] (fun v9 _ _ _ _ _ _ _ w' => ∃ (kk : Nat) (M : List Bool), kk ≤ N3 ∧ v9 = .int .i64 kk ∧ MetW w6 w' b M ∧ Nr.MSound p (z, z2) M ∧ (Nr.MClosed p M ∨ kk + 1 ≤ Nr.mcount M)) (fun v9 _ _ _ _ _ _ _ _ => N3 - (intOf v9).toNat)
    case atStart => exact ⟨0, MS, Nat.zero_le _, rfl, HM9.out, HS9.out, .inr (Nr.mcount_pos HS9.out.first)⟩
    case round =>
      obtain ⟨kk, M, hkk, rfl, hm10, hs10, hc10⟩ := hrel
      have HM10 := Lib.hid hm10
      have HS10 := Lib.hid hs10
      have HC10 := Lib.hid hc10
      clear hm10 hs10 hc10
      by_cases hlt : kk < N3
      · have d1 : decide ((kk : Int) < (N3 : Int)) = true := dec_t (by omega)
        go_wp2_with fail
        go_loopw [10, 11, 12, 13, 14, 15, 16] (fun v10 _ _ _ _ _ _ w' => ∃ (q : Nat) (N : List Bool), q ≤ p.secs.length ∧ v10 = .int .i64 q ∧ MetW w6 w' b N ∧ Nr.MSound p (z, z2) N ∧ Nr.MLe p M N ∧ Nr.Part p M N q 0 0) (fun v10 _ _ _ _ _ _ _ => p.secs.length - (intOf v10).toNat)
        case atStart => exact ⟨0, M, Nat.zero_le _, rfl, HM10.out, HS10.out, Nr.MLe.refl p M, Nr.Part.start⟩
        case round =>
          obtain ⟨q, N, hq, rfl, hm11, hs11, hl11, hp11⟩ := hrel
          have HM11 := Lib.hid hm11
          have HS11 := Lib.hid hs11
          have HL11 := Lib.hid hl11
          have HP11 := Lib.hid hp11
          clear hm11 hs11 hl11 hp11
          by_cases hql : q < p.secs.length
          · have d2 : decide ((q : Int) < (p.secs.length : Int)) = true := dec_t (by omega)
            have q0 : (0 : Int) ≤ (q : Int) := Int.natCast_nonneg q
            have q1 : (q : Int) < (p.secs.length : Int) := by omega
            go_wp2_with fail
            go_loopw [11, 12, 13, 14, 15, 16] (fun v11 _ _ _ _ _ w' => ∃ (F : Nat) (N : List Bool), F ≤ 3 ∧ v11 = .int .i64 F ∧ MetW w6 w' b N ∧ Nr.MSound p (z, z2) N ∧ Nr.MLe p M N ∧ Nr.Part p M N q F 0) (fun v11 _ _ _ _ _ _ => 3 - (intOf v11).toNat)
            case atStart => exact ⟨0, N, Nat.zero_le _, rfl, HM11.out, HS11.out, HL11.out, HP11.out⟩
            case round =>
              obtain ⟨F, N1, hF, rfl, hm12, hs12, hl12, hp12⟩ := hrel
              have HM12 := Lib.hid hm12
              have HS12 := Lib.hid hs12
              have HL12 := Lib.hid hl12
              have HP12 := Lib.hid hp12
              clear hm12 hs12 hl12 hp12
              by_cases hFl : F < 3
              · have d3 : decide ((F : Int) < 3) = true := dec_t (by omega)
                obtain ⟨⟨p0, p1, p2, p3, p4, p5⟩, -, -⟩ := KP.out _ HM12.out.below
                have CO := Lib.hid (show Calls Try.prog 13 #[.agg #[.int .i64 p.ov, .int .i64 1125899906842624, .int .i64 p.se, .int .i64 p.ho, .slice S p.secs.length cS, .slice (some ⟨bg, og, none⟩) p.sigs.length cG], .int .i64 q, .int .i64 F] wr (StepsOwn (Wk.outs p q F) wr) from rwOuts_own (Nr.far p 1125899906842624) S cS (some ⟨bg, og, none⟩) cG q F wr (I6.out.below HM12.out.below))
                go_wp2_with fail
                refine CO.out.mono ?_; rintro e1 w13 ⟨B, d, rfl, ho, hb13⟩
                have HM13 := Lib.hid (HM12.out.behind hb13)
                have HO := Lib.hid ho
                have hbs : b < wr.heap.size := HM12.out.lt
                have ho2 := Wk.outs_len p q F
                generalize hbase : wr.heap.size = base at HO hbs
                generalize hol : (Wk.outs p q F).length = ol at ho2 ⊢
                have HOL := Lib.hid hol
                clear p0 p1 p2 p3 p4 p5 CO ho hb13 hbase hol
                go_wp2_with fail
                go_loopw [13, 14, 15, 16] (fun v13 _ _ _ w' => ∃ (j : Nat) (N : List Bool), j ≤ ol ∧ v13 = .int .i64 j ∧ MetW w6 w' b N ∧ OwnS base w' B d (Wk.outs p q F) ∧ Nr.MSound p (z, z2) N ∧ Nr.MLe p M N ∧ Nr.Part p M N q F j) (fun v13 _ _ _ _ => ol - (intOf v13).toNat)
                case atStart => exact ⟨0, N1, Nat.zero_le _, rfl, HM13.out, HO.out, HS12.out, HL12.out, HP12.out⟩
                case round =>
                  obtain ⟨j, N2, hj, rfl, hm14, ho14, hs14, hl14, hp14⟩ := hrel
                  have HM14 := Lib.hid hm14
                  have HO14 := Lib.hid ho14
                  have HS14 := Lib.hid hs14
                  have HL14 := Lib.hid hl14
                  have HP14 := Lib.hid hp14
                  clear hm14 ho14 hs14 hl14 hp14
                  by_cases hjl : j < ol
                  · have hjo : j < (Wk.outs p q F).length := by have := HOL.out; omega
                    have hy := List.getElem?_eq_getElem hjo
                    obtain ⟨bb, oo, rfl, gbb, on⟩ := HO14.out.row.at hjo
                    generalize (Wk.outs p q F)[j] = y at hy on
                    obtain ⟨-, -, r2⟩ := stp_on on
                    rw [show j * LStp.m = j * 3 from rfl] at r2
                    have hyt := Nr.step_to (List.mem_of_getElem? hy) (Int.natCast_nonneg F)
                    obtain ⟨t, ht, ht3⟩ : ∃ t : Nat, y.t = (t : Int) ∧ t < 3 := ⟨y.t.toNat, by omega, by omega⟩
                    rw [ht] at r2
                    have HY := Lib.hid hy
                    have HT := Lib.hid ht
                    have d4 : decide ((j : Int) < (ol : Int)) = true := dec_t (by omega)
                    have j0 : (0 : Int) ≤ (j : Int) := Int.natCast_nonneg j
                    have j1 : (j : Int) < (ol : Int) := by omega
                    obtain ⟨⟨p0, p1, p2, p3, p4, p5⟩, -, -⟩ := KP.out _ HM14.out.below
                    have CN := Lib.hid (show Calls Try.prog 12 #[.agg #[.int .i64 p.ov, .int .i64 1125899906842624, .int .i64 p.se, .int .i64 p.ho, .slice S p.secs.length cS, .slice (some ⟨bg, og, none⟩) p.sigs.length cG], .int .i64 q, .int .i64 F] wr (NextIs (Wk.next p q F) wr) from rwNext_any (Nr.far p 1125899906842624) S cS (some ⟨bg, og, none⟩) cG q F wr (I6.out.below HM14.out.below))
                    generalize hnx : Wk.next p q F = nx at CN
                    have HNX := Lib.hid hnx
                    obtain ⟨qi, fi, ok⟩ := nx
                    clear hy on hyt hnx ht hjo
                    go_wp2_with fail
                    refine CN.out.mono ?_; rintro e2 w15 ⟨rfl, hb15⟩
                    have HM15 := Lib.hid (HM14.out.behind hb15)
                    have HO15 := Lib.hid (show OwnS base w15 (some ⟨bb, oo, none⟩) d (Wk.outs p q F) from ownsRow_below HO14.out hb15)
                    have r2' := (hb15.cell (p := ⟨bb, oo + j * 3 + 2, none⟩) gbb).trans r2
                    have c0 := HM15.out.cell (s := q) (e := t) (by rw [HS14.out.len]; exact Nr.slot_lt hql ht3)
                    have t0 : (0 : Int) ≤ (t : Int) := Int.natCast_nonneg t
                    have t1 : (t : Int) < 3 := by omega
                    clear p0 p1 p2 p3 p4 p5 r2 hb15 CN gbb
                    generalize hmt : Nr.mAt N2 (q, t) = mt at c0
                    have HMT := Lib.hid hmt
                    clear hmt
                    go_upto_region 22 with fail
                    cases mt with
                    | false =>
                      go_quiet (fail)
                      go_wp2_with fail
                      go_roundw
                      case rel => exact ⟨j + 1, N2, by omega, by go_num, HM15.out.drewN _, HO15.out, HS14.out, HL14.out, HP14.out.way HY.out fun _ e he hte hme b' hn' => by
                        have ee : e = t := by have := HT.out; omega
                        subst ee
                        have := HL14.out (q, e) hql he hme
                        rw [HMT.out] at this
                        cases this⟩
                      case measure => simp [intOf]; omega
                    | true =>
                      cases ok with
                      | false =>
                        go_quiet (fail)
                        go_wp2_with fail
                        go_roundw
                        case rel => exact ⟨j + 1, N2, by omega, by go_num, HM15.out.drewN _, HO15.out, HS14.out, HL14.out, HP14.out.way HY.out fun _ e he hte hme b' hn' => by
                          rw [HNX.out] at hn'
                          exact absurd (congrArg (fun x => x.2.2) hn') (by simp)⟩
                        case measure => simp [intOf]; omega
                      | true =>
                        have hed : ∀ bq : Nat × Nat, Wk.next p q F = ((bq.1 : Int), (bq.2 : Int), true) → Nr.Edge p (q, t) bq := fun bq hbq => ⟨F, hFl, ⟨y, List.mem_of_getElem? HY.out, HT.out⟩, hbq⟩
                        obtain ⟨Q, F2, rfl, rfl, hQ, hF2⟩ : ∃ Q F2 : Nat, qi = (Q : Int) ∧ fi = (F2 : Int) ∧ Q < p.secs.length ∧ F2 < 3 := by
                          have hnn := HNX.out
                          obtain ⟨h1, h2⟩ := next_nat hfit hnn
                          refine ⟨qi.toNat, fi.toNat, by omega, by omega, ?_⟩
                          exact Nr.edge_in hfit (hed (qi.toNat, fi.toNat) (by rw [show ((qi.toNat : Nat) : Int) = qi by omega, show ((fi.toNat : Nat) : Int) = fi by omega]; exact hnn))
                        obtain ⟨hsn, hle2⟩ := HS14.out.meet hst2 (b := (Q, F2)) hQ hF2 (by
                          obtain ⟨n, hr⟩ := HS14.out.so (q, t) hql ht3 HMT.out
                          exact ⟨_, .step hr (hed (Q, F2) HNX.out)⟩)
                        have HSN := Lib.hid hsn
                        have HLN := Lib.hid (fun a h1 h2 h3 => hle2 a h1 h2 (HL14.out a h1 h2 h3) : Nr.MLe p M (Nr.meet N2 (Q, F2)))
                        have HPN := Lib.hid ((HP14.out.up hfit hle2).way HY.out (fun _ e he hte hme b' hn' => by
                          rw [HNX.out] at hn'
                          simp only [Prod.mk.injEq] at hn'
                          obtain ⟨x1, x2, -⟩ := hn'
                          have x3 : b' = (Q, F2) := by
                            obtain ⟨b1, b2⟩ := b'
                            simp only at x1 x2
                            rw [show b1 = Q by omega, show b2 = F2 by omega]
                          rw [x3]
                          exact Nr.mAt_same (by rw [HS14.out.len]; exact Nr.slot_lt hQ hF2)))
                        have u0 : (0 : Int) ≤ (Q : Int) := Int.natCast_nonneg Q
                        have u1 : (Q : Int) < (p.secs.length : Int) := by omega
                        have u2 : (0 : Int) ≤ (F2 : Int) := Int.natCast_nonneg F2
                        have u3 : (F2 : Int) < 3 := by omega
                        clear hsn hle2 hed
                        go_quiet (fail)
                        have HM16 := Lib.hid (HM15.out.drewN nq)
                        have HO16 := Lib.hid (show OwnS base (w15.drewN nq) (some ⟨bb, oo, none⟩) d (Wk.outs p q F) from HO15.out)
                        clear r2' c0
                        generalize w15.drewN nq = w16 at HM16 HO16 ⊢
                        have cQ := HM16.out.cell (s := Q) (e := F2) (by rw [HS14.out.len]; exact Nr.slot_lt hQ hF2)
                        have fQ := HM16.out.frozen (Q * 3 + F2)
                        have HM17 := Lib.hid (HM16.out.set hbW Q F2)
                        have HO17 := Lib.hid (show OwnS base (w16.setCell ⟨b, Q * 3 + F2, none⟩ (.bool true)) (some ⟨bb, oo, none⟩) d (Wk.outs p q F) from ownsRow_setCell_below HO16.out (a := ⟨b, Q * 3 + F2, none⟩) hbs _)
                        go_wp2_with fail
                        go_roundw
                        case rel => exact ⟨j + 1, Nr.meet N2 (Q, F2), by omega, by go_num, HM17.out, HO17.out, HSN.out, HLN.out, HPN.out⟩
                        case measure => simp [intOf]; omega
                  · obtain rfl : j = ol := by omega
                    have d4 : decide ((j : Int) < (j : Int)) = false := dec_f (by omega)
                    go_wp2_with fail
                    go_roundw
                    case rel => exact ⟨F + 1, N2, by omega, by go_num, HM14.out, HS14.out, HL14.out, by have h := HP14.out; rw [← HOL.out] at h; exact h.from_⟩
                    case measure => simp [intOf]; omega
              · obtain rfl : F = 3 := by omega
                have d3 : decide (((3 : Nat) : Int) < 3) = false := by decide
                go_wp2_with fail
                go_roundw
                case rel => exact ⟨q + 1, N1, by omega, by go_num, HM12.out, HS12.out, HL12.out, HP12.out.sec⟩
                case measure => simp [intOf]; omega
          · obtain rfl : q = p.secs.length := by omega
            have d2 : decide ((p.secs.length : Int) < (p.secs.length : Int)) = false := dec_f (by omega)
            have HMORE := Lib.hid (Nr.round_more HF.out HST.out HS10.out HS11.out HL11.out HP11.out.round HC10.out)
            go_wp2_with fail
            go_roundw
            case rel => exact ⟨kk + 1, N, by omega, by go_num, HM11.out, HS11.out, HMORE.out⟩
            case measure => simp [intOf]; omega
      · obtain rfl : kk = N3 := by omega
        have d1 : decide ((kk : Int) < (kk : Int)) = false := dec_f (by omega)
        have HCL := Lib.hid (Nr.met_done HS10.out.len HN3.out HC10.out)
        have HTS := Lib.hid (Nr.mtold_sects HF.out hmeas HST.out HS10.out HCL.out)
        have hlen := HS10.out.len
        obtain ⟨i0', hi, hz0, hz1, hz2⟩ := info_parts infoNum
        have KM := Lib.hid (fun W' (hW : Below wr.heap.size wr W') => (HM10.out.behind hW).below)
        have KT := Lib.hid (fun W' (hW : Below wr.heap.size wr W') => HM10.out.behind hW)
        have U10 := Lib.hid (Below.refl wr.heap.size wr)
        generalize hwr : wr = w10 at KM KT U10 ⊢
        clear hwr
        go_wp2_with fail
        go_loopw [17, 18] (fun v17 v18 w' => ∃ j : Nat, j ≤ p.secs.length ∧ v18 = .int .i64 j ∧ w'.ownsRow w10.heap.size 3 LNum.m v17 ((List.range j).filter (Nr.mtold M)).length (LNum.all (ints ((List.range j).filter (Nr.mtold M)))) ∧ Below w10.heap.size w10 w') (fun _ v18 _ => p.secs.length - (intOf v18).toNat)
        case atStart => exact ⟨0, Nat.zero_le _, rfl, World.ownsRow_nil _ _ _ _, U10.out⟩
        case round =>
          obtain ⟨j, hj, rfl, ho, hb8⟩ := hrel
          have HO := Lib.hid ho
          have HB8 := Lib.hid hb8
          clear ho hb8
          have hfl : ((List.range j).filter (Nr.mtold M)).length ≤ j := by
            have := List.length_filter_le (Nr.mtold M) (List.range j)
            rwa [List.length_range] at this
          by_cases hjl : j < p.secs.length
          · have d2 : decide ((j : Int) < (p.secs.length : Int)) = true := dec_t (by omega)
            have s0 : (0 : Int) ≤ (j : Int) := Int.natCast_nonneg j
            have s1 : (j : Int) < (p.secs.length : Int) := by omega
            have TB := KT.out _ HB8.out
            have c0 := TB.cell (s := j) (e := 0) (by rw [hlen]; exact Nr.slot_lt hjl (by show _ < 3; omega))
            have c1 := TB.cell (s := j) (e := 1) (by rw [hlen]; exact Nr.slot_lt hjl (by show _ < 3; omega))
            have c2 := TB.cell (s := j) (e := 2) (by rw [hlen]; exact Nr.slot_lt hjl (by show _ < 3; omega))
            rw [Nat.add_zero] at c0
            have HTD := Lib.hid (show Nr.mtold M j = (Nr.mAt M (j, 0) || (Nr.mAt M (j, 1) || Nr.mAt M (j, 2))) from rfl)
            generalize Nr.mAt M (j, 0) = y0 at c0 HTD
            generalize Nr.mAt M (j, 1) = y1 at c1 HTD
            generalize Nr.mAt M (j, 2) = y2 at c2 HTD
            clear TB
            cases y0 with
            | true =>
                  have hflt : (List.range (j + 1)).filter (Nr.mtold M) = (List.range j).filter (Nr.mtold M) ++ [j] := by
                    rw [List.range_succ, List.filter_append, List.filter_cons, if_pos (by rw [HTD.out]; rfl)]; rfl
                  have HFL := Lib.hid hflt
                  have HO10 := Lib.hid (HO.out.alloc (.cells #[.int .i64 j] 3))
                  have RN := Lib.hid (show LNum.Row (wr.alloc (.cells #[.int .i64 j] 3)) (some ⟨wr.heap.size, 0, none⟩) [(j : Int)] from Lies.Row.fresh (E := LNum) wr [(j : Int)] 3)
                  have HB10 := Lib.hid (HB8.out.alloc HB8.out.size (.cells #[.int .i64 j] 3))
                  have hsz := HB8.out.size
                  have HLL := Lib.hid (show ((List.range (j + 1)).filter (Nr.mtold M)).length = ((List.range j).filter (Nr.mtold M)).length + 1 from by rw [hflt, List.length_append]; rfl)
                  clear hflt
                  go_wp2_with (at_builtin; refine wpList_append_row LNum _ rfl (.tmp 139) (.tmp 141) 29 rfl w10.heap.size 3 i0' _ 8 Try.underlying29 hi hz0 hz1 hz2 rfl _ ((List.range j).filter (Nr.mtold M)).length _ rfl HO10.out (some ⟨wr.heap.size, 0, none⟩) 1 1 [(j : Int)] rfl (by decide) rfl RN.out (by omega) (by omega) (by simp; omega) ?_; intro g1 cap1 w11 hown hg1 _)
                  have HB11 := Lib.hid (Below.grown HB10.out hg1 (by simp; omega) (fun k hk => (HO10.out.lt k hk).1))
                  have HO11 := Lib.hid (show w11.ownsRow w10.heap.size 3 LNum.m (.slice (some ⟨g1, 0, none⟩) (((List.range j).filter (Nr.mtold M)).length + 1) cap1) ((List.range (j + 1)).filter (Nr.mtold M)).length (LNum.all (ints ((List.range (j + 1)).filter (Nr.mtold M)))) from by
                    rw [HLL.out, HFL.out, ints_snoc, LNum.all_append]; exact hown)
                  clear hown hg1
                  go_wp2_with fail
                  go_roundw
                  case rel => exact ⟨j + 1, by omega, by go_num, HO11.out, HB11.out⟩
                  case measure => simp [intOf]; omega
            | false =>
              cases y1 with
              | true =>
                  have hflt : (List.range (j + 1)).filter (Nr.mtold M) = (List.range j).filter (Nr.mtold M) ++ [j] := by
                    rw [List.range_succ, List.filter_append, List.filter_cons, if_pos (by rw [HTD.out]; rfl)]; rfl
                  have HFL := Lib.hid hflt
                  have HO10 := Lib.hid (HO.out.alloc (.cells #[.int .i64 j] 3))
                  have RN := Lib.hid (show LNum.Row (wr.alloc (.cells #[.int .i64 j] 3)) (some ⟨wr.heap.size, 0, none⟩) [(j : Int)] from Lies.Row.fresh (E := LNum) wr [(j : Int)] 3)
                  have HB10 := Lib.hid (HB8.out.alloc HB8.out.size (.cells #[.int .i64 j] 3))
                  have hsz := HB8.out.size
                  have HLL := Lib.hid (show ((List.range (j + 1)).filter (Nr.mtold M)).length = ((List.range j).filter (Nr.mtold M)).length + 1 from by rw [hflt, List.length_append]; rfl)
                  clear hflt
                  go_wp2_with (at_builtin; refine wpList_append_row LNum _ rfl (.tmp 139) (.tmp 141) 29 rfl w10.heap.size 3 i0' _ 8 Try.underlying29 hi hz0 hz1 hz2 rfl _ ((List.range j).filter (Nr.mtold M)).length _ rfl HO10.out (some ⟨wr.heap.size, 0, none⟩) 1 1 [(j : Int)] rfl (by decide) rfl RN.out (by omega) (by omega) (by simp; omega) ?_; intro g1 cap1 w11 hown hg1 _)
                  have HB11 := Lib.hid (Below.grown HB10.out hg1 (by simp; omega) (fun k hk => (HO10.out.lt k hk).1))
                  have HO11 := Lib.hid (show w11.ownsRow w10.heap.size 3 LNum.m (.slice (some ⟨g1, 0, none⟩) (((List.range j).filter (Nr.mtold M)).length + 1) cap1) ((List.range (j + 1)).filter (Nr.mtold M)).length (LNum.all (ints ((List.range (j + 1)).filter (Nr.mtold M)))) from by
                    rw [HLL.out, HFL.out, ints_snoc, LNum.all_append]; exact hown)
                  clear hown hg1
                  go_wp2_with fail
                  go_roundw
                  case rel => exact ⟨j + 1, by omega, by go_num, HO11.out, HB11.out⟩
                  case measure => simp [intOf]; omega
              | false =>
                cases y2 with
                | true =>
                  have hflt : (List.range (j + 1)).filter (Nr.mtold M) = (List.range j).filter (Nr.mtold M) ++ [j] := by
                    rw [List.range_succ, List.filter_append, List.filter_cons, if_pos (by rw [HTD.out]; rfl)]; rfl
                  have HFL := Lib.hid hflt
                  have HO10 := Lib.hid (HO.out.alloc (.cells #[.int .i64 j] 3))
                  have RN := Lib.hid (show LNum.Row (wr.alloc (.cells #[.int .i64 j] 3)) (some ⟨wr.heap.size, 0, none⟩) [(j : Int)] from Lies.Row.fresh (E := LNum) wr [(j : Int)] 3)
                  have HB10 := Lib.hid (HB8.out.alloc HB8.out.size (.cells #[.int .i64 j] 3))
                  have hsz := HB8.out.size
                  have HLL := Lib.hid (show ((List.range (j + 1)).filter (Nr.mtold M)).length = ((List.range j).filter (Nr.mtold M)).length + 1 from by rw [hflt, List.length_append]; rfl)
                  clear hflt
                  go_wp2_with (at_builtin; refine wpList_append_row LNum _ rfl (.tmp 139) (.tmp 141) 29 rfl w10.heap.size 3 i0' _ 8 Try.underlying29 hi hz0 hz1 hz2 rfl _ ((List.range j).filter (Nr.mtold M)).length _ rfl HO10.out (some ⟨wr.heap.size, 0, none⟩) 1 1 [(j : Int)] rfl (by decide) rfl RN.out (by omega) (by omega) (by simp; omega) ?_; intro g1 cap1 w11 hown hg1 _)
                  have HB11 := Lib.hid (Below.grown HB10.out hg1 (by simp; omega) (fun k hk => (HO10.out.lt k hk).1))
                  have HO11 := Lib.hid (show w11.ownsRow w10.heap.size 3 LNum.m (.slice (some ⟨g1, 0, none⟩) (((List.range j).filter (Nr.mtold M)).length + 1) cap1) ((List.range (j + 1)).filter (Nr.mtold M)).length (LNum.all (ints ((List.range (j + 1)).filter (Nr.mtold M)))) from by
                    rw [HLL.out, HFL.out, ints_snoc, LNum.all_append]; exact hown)
                  clear hown hg1
                  go_wp2_with fail
                  go_roundw
                  case rel => exact ⟨j + 1, by omega, by go_num, HO11.out, HB11.out⟩
                  case measure => simp [intOf]; omega
                | false =>
                  have HFL := Lib.hid (show (List.range (j + 1)).filter (Nr.mtold M) = (List.range j).filter (Nr.mtold M) from by
                    rw [List.range_succ, List.filter_append, List.filter_cons, if_neg (by rw [HTD.out]; decide), List.filter_nil, List.append_nil])
                  go_wp2_with fail
                  go_roundw
                  case rel => exact ⟨j + 1, by omega, by go_num, by rw [HFL.out]; exact HO.out, HB8.out⟩
                  case measure => simp [intOf]; omega
          · obtain rfl : j = p.secs.length := by omega
            have d2 : decide ((p.secs.length : Int) < (p.secs.length : Int)) = false := dec_f (by omega)
            rw [HTS.out] at HO hfl
            obtain ⟨hln, Bx, dx, rfl, -, hRx⟩ := Lies.Row.of_own (E := LNum) HO.out
            have RX := Lib.hid hRx
            obtain ⟨⟨p0, p1, p2, p3, p4, p5⟩, -, -⟩ := KP.out _ (KM.out _ HB8.out)
            have hcp := pnOf_any (Nr.far p 1125899906842624) (far_fit hfit _) (far_meas hmeas _) ⟨by show (0 : Int) ≤ 1125899906842624; decide, by show (1125899906842624 : Int) ≤ 1125899906842624; decide⟩ S cS (some ⟨bg, og, none⟩) cG k wr (I6.out.below (KM.out _ HB8.out))
            rw [HOF.out] at hcp
            have CP := Lib.hid (show Calls Try.prog 9 #[.agg #[.int .i64 p.ov, .int .i64 1125899906842624, .int .i64 p.se, .int .i64 p.ho, .slice S p.secs.length cS, .slice (some ⟨bg, og, none⟩) p.sigs.length cG], .int .i64 k] wr _ from hcp)
            have hl1 := Nr.sects_len hfit 1125899906842624 (z, z2)
            generalize Nr.sects p 1125899906842624 (z, z2) = l at CP RX HO hfl hl1 ⊢
            clear hRx hcp
            go_wp2_with fail
            refine CP.out.mono ?_; rintro e w20 ⟨B1, d1', rfl, hR1, hb20, -⟩
            have R1 := Lib.hid hR1
            have RX2 := Lib.hid (RX.out.below rfl hb20)
            have T20 := Lib.hid ((KM.out _ HB8.out).trans (hb20.mono (KM.out _ HB8.out).size))
            clear p0 p1 p2 p3 p4 p5 hR1 hb20 CP
            go_wp2_with fail
            refine (AW.out _).mono ?_; rintro e w21 ⟨rfl, hb21⟩
            have CS := Lib.hid (nrOne.to (v := .bool true) (by rw [decide_eq_true rfl]) (nrInts_any B1 d1' l.length (ints l) Bx dx l.length (ints l) w21 (ints_len l) (R1.out.below rfl hb21) (by omega) (ints_len l) (RX2.out.below rfl hb21)))
            have T21 := Lib.hid (T20.out.trans (hb21.mono T20.out.size))
            clear hb21
            go_wp2_with fail
            refine CS.out.mono ?_; rintro e w22 ⟨rfl, hb22⟩
            have YF := Lib.hid (B6.out.trans ((T21.out.trans (hb22.mono T21.out.size)).mono B6.out.size))
            clear hb22 CS
            go_wp2_with fail
            go_ret
            exact ⟨rfl, YF.out⟩
end Go.Proofs.Ytgajdfecajleiaa
