/-
  Texts of this claim, merged: RtRefB, RtSmall, BsSpec.
-/
import Derived.Test.YtbmmcmdopekccaaMg04
import Derived.Test.YtbmmcmdopekccaaMg05
import Derived.Test.YtbmmcmdopekccaaMg13
import Derived.Test.YtbmmcmdopekccaaMg20
import Derived.Test.YtbmmcmdopekccaaMg22
import Derived.Test.YtbmmcmdopekccaaMg30
import Derived.Lib.TrailingZeros
import Derived.WalkKit
/-
  The walk of the document's layer 12: the routes of all signals.
-/
namespace Go.Proofs.Ytbmmcmdopekccaa
open Go.RowKit

set_option maxHeartbeats 16000000 in
set_option maxRecDepth 100000 in
theorem rtAll_any (p : Pl.Plan) (hf : Pl.Fit p) (hm : Lp.Meas p) (hap : 0 ≤ p.ap ∧ p.ap ≤ 1125899906842624) (hho : 0 ≤ p.ho ∧ p.ho ≤ 1125899906842624) (A : Option Addr) (c : Nat) (A' : Option Addr) (c' : Nat) (w : World) (h : PlanIn w p A A') :
    Calls Try.prog 14 #[planV p A c A' c'] w (RoutesYes (Rt.all p) w) := by
  have XA := (Below.refl w.heap.size w).alloc (Nat.le_refl _) (planO p A c A' c')
  have X0 := Lib.hid XA
  have RP := Lib.hid (heap_alloc_new w (planO p A c A' c'))
  have HI := Lib.hid (h.below XA)
  have gp := (Array.getElem?_eq_some_iff.1 RP.out).1
  have hfew := hf.gfew
  have HALL := Lib.hid (show Rt.all p = Rt.from_ p ((List.range p.sigs.length).drop 0) [] from rfl)
  have COF := Lib.hid (fun (i : Nat) (hi : i < p.sigs.length) (y : Cr.Way) (hy : y ∈ (Cr.of p i).1) (Aw : Option Addr) (cw : Nat) (W : World) (hI : PlanIn W p A A') (hw : TRow 39 LStp W Aw y.steps) => rtOf_any p hf hm hap hho A c A' c' i hi y hy Aw cw W hI hw)
  have HL := Lib.hid (fun (i : Nat) => Cr.of_len p i)
  clear XA h hf hm hap hho
  go_enter Try.func14, Try.ntmps14
  go_upto_region 1 with fail
  generalize w.alloc (planO p A c A' c') = w1 at X0 RP HI gp ⊢
  generalize w.heap.size = gq at RP gp ⊢
  have KP := Lib.hid (fun W (hW : Below w1.heap.size w1 W) => (row6 ((hW.block _ gp).trans RP.out)).1)
  have B0 := Lib.hid (Below.refl w1.heap.size w1)
  have GPL := Lib.hid gp
  clear RP gp
  generalize hall : Rt.all p = al at HALL
  have HAL := Lib.hid hall
  clear hall
  go_wp2_with fail
  go_loopw [4, 5, 6, 7, 8, 10] (fun v4 v5 _ _ _ _ w' => ∃ (i : Nat) (acc : List Rt.Route), i ≤ p.sigs.length ∧ v5 = .int .i64 i ∧ acc.length ≤ 30 ∧ OwnR w1.heap.size w' v4 acc ∧ al = Rt.from_ p ((List.range p.sigs.length).drop i) acc ∧ Below w1.heap.size w1 w') (fun _ v5 _ _ _ _ _ => p.sigs.length - (intOf v5).toNat)
  case atStart => exact ⟨0, [], Nat.zero_le _, rfl, Nat.zero_le _, OwnR.nil _ _, HALL.out, B0.out⟩
  case round =>
    clear HALL
    obtain ⟨i, acc, hi, rfl, hacc, hO, hA, hB⟩ := hrel
    obtain ⟨Ao, co, rfl, hco, hRI⟩ := hO.routes
    have HO := Lib.hid hO
    have HA := Lib.hid hA
    have HB := Lib.hid hB
    have HRI := Lib.hid hRI
    clear hO hA hB hRI
    obtain ⟨p0, p1, p2, p3, p4, p5⟩ := KP.out _ HB.out
    have gp := Nat.lt_of_lt_of_le GPL.out HB.out.size
    by_cases hlt : i < p.sigs.length
    · --[
      have d1 : decide ((i : Int) < (p.sigs.length : Int)) = true := dec_t (by omega)
      have CC := Lib.hid (rcOf_t p A c A' c' i wr (HI.out.below HB.out))
      have EA := Lib.hid (HA.out.trans (Rt.from_at hlt acc))
      have hlen := HL.out i
      have CO2 := Lib.hid (COF.out i hlt)
      generalize Cr.of p i = u at CC EA hlen CO2
      obtain ⟨L, er⟩ := u
      simp only at hlen CO2
      go_wp2_with fail
      refine CC.out.mono ?_; rintro e w2 ⟨B, d, rfl, hW2, hb2⟩
      have HW2 := Lib.hid hW2
      have B2 := Lib.hid (HB.out.trans (hb2.mono HB.out.size))
      have O2 := Lib.hid (HO.out.below hb2)
      clear hW2 hb2 CC p0 p1 p2 p3 p4 p5 gp HO HB HRI
      by_cases her : er = 0
      · subst her
        have EA2 := Lib.hid (show al = (if (Rt.ways p i L acc).2 = 0 then Rt.from_ p ((List.range p.sigs.length).drop (i + 1)) (Rt.ways p i L acc).1 else ([], (Rt.ways p i L acc).2)) from EA.out)
        clear EA HA
        go_wp2_with fail
        go_loopw [4, 8, 10] (fun v4 v8 _ w' => ∃ (k : Nat) (ac : List Rt.Route), k ≤ L.length ∧ v8 = .int .i64 k ∧ ac.length ≤ 30 ∧ OwnR w1.heap.size w' v4 ac ∧ Rt.ways p i L acc = Rt.ways p i (L.drop k) ac ∧ WaysT w' B L ∧ Below w1.heap.size w1 w') (fun _ v8 _ _ => L.length - (intOf v8).toNat)
        case atStart => exact ⟨0, acc, Nat.zero_le _, rfl, hacc, O2.out, rfl, HW2.out, B2.out⟩
        case round =>
          clear O2 B2 HW2
          obtain ⟨k, ac, hk, rfl, hac, hO, hE, hW, hB⟩ := hrel
          obtain ⟨Ap, cp, rfl, hcp, -⟩ := hO.routes
          have HO := Lib.hid hO
          have HE := Lib.hid hE
          have HW := Lib.hid hW
          have HB := Lib.hid hB
          clear hO hE hW hB
          by_cases hkl : k < L.length
          · have d2 : decide ((k : Int) < (L.length : Int)) = true := dec_t (by omega)
            have hy := List.getElem?_eq_getElem hkl
            have HE2 := Lib.hid (HE.out.trans (Rt.ways_at hy ac))
            have hmem := List.getElem_mem hkl
            obtain ⟨b, o, Sy, dy, rfl, hb, c0, c1, hS, -⟩ := HW.out.at hy
            have CO3 := Lib.hid (CO2.out (L[k]'hkl) hmem)
            generalize L[k] = y at c0 c1 hS HE2 CO3
            obtain ⟨ys, yx⟩ := y
            simp only at c0 c1 hS
            by_cases h30 : ac.length = 30
            · have D : ((ac.length : Int) == 30) = true := by rw [beq_iff_eq]; omega
              have EZ := Lib.hid (show al = ([], 9) from by
                rw [EA2.out, HE2.out, if_pos h30]; rfl)
              clear h30
              go_wp2_with fail
              refine bodyPost_ret (v := .tuple #[.slice none 0 0, .int .i64 9]) ?_ rfl (by
                rw [HAL.out, EZ.out]
                exact ⟨none, 0, rfl, Nat.le_refl _, RoutesIn.nil _ _, X0.out.trans (HB.out.mono X0.out.size)⟩)
              simp [results, Try.results14, go_sem]
            · have D : ((ac.length : Int) == 30) = false := by rw [beq_eq_false_iff_ne]; omega
              have E3 := Lib.hid (show Rt.ways p i L acc = if (Rt.of p i ⟨ys, yx⟩).2 = 0 then Rt.ways p i (L.drop (k + 1)) (ac ++ [(Rt.of p i ⟨ys, yx⟩).1]) else ([], (Rt.of p i ⟨ys, yx⟩).2) from by rw [HE2.out, if_neg h30])
              have CO := Lib.hid (fun W (hW : Below wr.heap.size wr W) => CO3.out Sy dy W (HI.out.below (HB.out.trans (hW.mono HB.out.size))) (hS.below hW))
              generalize Rt.of p i ⟨ys, yx⟩ = ro at E3 CO
              obtain ⟨r, e2⟩ := ro
              have T0 := Lib.hid (Below.refl wr.heap.size wr)
              have KS := Lib.hid (fun W (hW : Below wr.heap.size wr W) => And.intro (KP.out _ (HB.out.trans (hW.mono HB.out.size))) (And.intro ((hW.cell (p := ⟨b, o + k * 2, none⟩) hb).trans c0) ((hW.cell (p := ⟨b, o + k * 2 + 1, none⟩) hb).trans c1)))
              have i0 : (0 : Int) ≤ (k : Int) := Int.natCast_nonneg k
              have i1 : (k : Int) < (L.length : Int) := by omega
              have h29 : ac.length ≤ 29 := by omega
              clear h30 HE HE2 hy hmem CO3 hS hac c0 c1
              go_upto_region 13 with fail
              obtain ⟨⟨p0, p1, p2, p3, p4, p5⟩, c0, c1⟩ := KS.out _ T0.out
              clear p0 p1 p2 p3 p4 p5 c0 c1
              go_cut [9, 10] from 27 to 52 (fun s9 s10 w' => OneRt wr r e2 s9 s10 w')
              case first =>
                go_region_held3 (fun W' => (W'.cell? ⟨gq, 0, none⟩ = some (.int .i64 p.ov) ∧ W'.cell? ⟨gq, 1, none⟩ = some (.int .i64 p.ap) ∧ W'.cell? ⟨gq, 2, none⟩ = some (.int .i64 p.se) ∧ W'.cell? ⟨gq, 3, none⟩ = some (.int .i64 p.ho) ∧ W'.cell? ⟨gq, 4, none⟩ = some (.slice A p.secs.length c) ∧ W'.cell? ⟨gq, 5, none⟩ = some (.slice A' p.sigs.length c')) ∧ W'.cell? ⟨b, o + k * 2, none⟩ = some (.slice Sy ys.length dy) ∧ W'.cell? ⟨b, o + k * 2 + 1, none⟩ = some (.int .i64 yx))
                  (first | with_reducible exact KS.out _ T0.out.drew | with_reducible exact KS.out _ (T0.out.alloc T0.out.size _).drew | with_reducible exact KS.out _ h5 | with_reducible exact KS.out _ (h5.alloc h5.size _) | with_reducible exact KS.out _ (set9_below h5 (Nat.le_refl _)) | (go_keep; done))
                  (first
                    | (go_at_call 25; (with_reducible refine (CO.out _ T0.out.drew).mono ?_); rintro e5 w5 ⟨m, hmr, rfl, hPN, hl5⟩; have HMR := Lib.hid hmr; clear hmr; have h5 := T0.out.drew.trans (hl5.mono T0.out.drew.size); have hPW := hPN.base T0.out.drew.size)
                    | (go_at_call 25; (with_reducible refine (CO.out _ (T0.out.alloc T0.out.size rtZ).drew).mono ?_); rintro e5 w5 ⟨m, hmr, rfl, hPN, hl5⟩; have HMR := Lib.hid hmr; clear hmr; have h5 := (T0.out.alloc T0.out.size rtZ).drew.trans (hl5.mono (T0.out.alloc T0.out.size rtZ).drew.size); have hpz := (hl5.block wr.heap.size (by simp)).trans (heap_alloc_new wr rtZ); obtain ⟨⟨z0, z1, z2, z3, z4, z5, z6, z7, z8⟩, ⟨y0, y1, y2, y3, y4, y5, y6, y7, y8⟩, zg⟩ := row9 hpz))
                all_goals go_wp2_with fail
                all_goals go_meet
                all_goals refine ⟨_, m, rfl, rfl, HMR.out, ?_, ?_, ?_⟩
                all_goals first
                  | with_reducible exact heap_alloc_new _ _
                  | with_reducible exact hPW.below ((Below.refl _ _).alloc (Nat.le_refl _) _)
                  | with_reducible exact h5.alloc h5.size _
                  | with_reducible exact set9_same hpz
                  | with_reducible exact PartsNew.base (PartsNew.set9 hPN hpz (.inl (by simp))) (by simp)
                  | with_reducible exact set9_below h5 (Nat.le_refl _)
              case rest =>
                obtain ⟨g, m, rfl, rfl, hmr, hg, hPN, hB6⟩ := hcut
                have B6 := Lib.hid (HB.out.trans (hB6.mono HB.out.size))
                have HW6 := Lib.hid (HW.out.below hB6)
                by_cases he2 : e2 = 0
                · subst he2
                  have E4 := Lib.hid (show Rt.ways p i L acc = Rt.ways p i (L.drop (k + 1)) (ac ++ [r]) from by rw [E3.out]; exact if_pos rfl)
                  obtain ⟨M, hM, hrow, hparts⟩ := (HO.out.below hB6).ex
                  subst hM
                  have hj : ∀ j, (Value.slice Ap (M.map RouteM.r).length cp).ownBlock = some j → j < wr.heap.size := fun j hj => HO.out.lt hj
                  have HR := Lib.hid (And.intro hrow (And.intro hparts (And.intro hPN (And.intro hj hmr))))
                  have O7 := Lib.hid (hrow.alloc (rtO m))
                  have R7 := Lib.hid (show LRt.Row (wc.alloc (rtO m)) (some ⟨wc.heap.size, 0, none⟩) [m] from Lies.Row.fresh (E := LRt) wc [m] 35)
                  have X7 := Lib.hid ((Below.refl wc.heap.size wc).alloc (Nat.le_refl _) (rtO m))
                  have S16 := B6.out.size
                  obtain ⟨⟨r0, r1, r2, r3, r4, r5, r6, r7, r8⟩, -, gr⟩ := row9 hg
                  obtain ⟨i0', hi', hz0, hz1, hz2⟩ := info_parts infoRt3
                  clear hB6 hrow hparts hPN hj hmr E3 CO T0 KS
                  go_wp2_with (at_builtin; refine wpList_append_row LRt _ rfl (.tmp 49) (.tmp 51) 22 rfl w1.heap.size 35 i0' _ 152 Try.underlying22 hi' hz0 hz1 hz2 rfl (.slice Ap (M.map RouteM.r).length cp) (M.map RouteM.r).length (LRt.all M) rfl O7.out (some ⟨wc.heap.size, 0, none⟩) 1 1 [m] rfl (by decide) rfl R7.out (by omega) (by omega) (by simp; omega) ?_; intro g1 cap1 w8 hown hg1 hgr; have HN := Lib.hid hown; have HG := Lib.hid hg1; have HGR := Lib.hid hgr; clear hown hg1 hgr)
                  have O8 := Lib.hid (OwnR.snoc HR.out.1 HR.out.2.1 HR.out.2.2.1 HR.out.2.2.2.1 X7.out HN.out HG.out (fun j hj => by
                    cases hj
                    rcases HGR.out with h | h
                    · exact .inl h
                    · exact .inr (by rw [h]; exact Nat.le_refl _)))
                  rw [HR.out.2.2.2.2] at O8
                  have W8 := Lib.hid ((HW6.out.below X7.out).grown O7.out HG.out)
                  have B8 := Lib.hid ((B6.out.trans (X7.out.mono B6.out.size)).grown HG.out (B6.out.trans (X7.out.mono B6.out.size)).size fun j hj => (O7.out.lt j hj).1)
                  go_roundw
                  case rel => exact ⟨k + 1, M.map RouteM.r ++ [r], by omega, by go_num, by rw [List.length_append, List.length_singleton]; omega, by have h := O8.out; rw [List.length_map] at h; exact h, E4.out, W8.out, B8.out⟩
                  case measure => simp [intOf]; omega
                · have D2 : (e2 != 0) = true := by rw [bne_iff_ne]; exact he2
                  have EZ := Lib.hid (show al = ([], e2) from by
                    have : Rt.ways p i L acc = ([], e2) := by rw [E3.out]; exact if_neg he2
                    rw [EA2.out, this]; exact if_neg he2)
                  clear he2
                  go_wp2_with fail
                  refine bodyPost_ret (v := .tuple #[.slice none 0 0, .int .i64 e2]) ?_ rfl (by
                    rw [HAL.out, EZ.out]
                    exact ⟨none, 0, rfl, Nat.le_refl _, RoutesIn.nil _ _, X0.out.trans (B6.out.mono X0.out.size)⟩)
                  simp [results, Try.results14, go_sem]
          · obtain rfl : k = L.length := by omega
            have d2 : decide ((L.length : Int) < (L.length : Int)) = false := dec_f (by omega)
            have HE3 := Lib.hid (show Rt.ways p i L acc = (ac, 0) from by rw [HE.out, List.drop_length]; rfl)
            have EA3 := Lib.hid (show al = Rt.from_ p ((List.range p.sigs.length).drop (i + 1)) ac from by rw [EA2.out, HE3.out, if_pos rfl])
            go_wp2_with fail
            go_roundw
            case rel => exact ⟨i + 1, ac, by omega, by go_num, hac, HO.out, EA3.out, HB.out⟩
            case measure => simp [intOf]; omega
      · have D : (er != 0) = true := by rw [bne_iff_ne]; exact her
        have EZ := Lib.hid (show al = ([], er) from by rw [EA.out]; exact if_neg her)
        clear her
        go_wp2_with fail
        refine bodyPost_ret (v := .tuple #[.slice none 0 0, .int .i64 er]) ?_ rfl (by
          rw [HAL.out, EZ.out]
          exact ⟨none, 0, rfl, Nat.le_refl _, RoutesIn.nil _ _, X0.out.trans (B2.out.mono X0.out.size)⟩)
        simp [results, Try.results14, go_sem]
      --]
    · --[
      obtain rfl : i = p.sigs.length := by omega
      have d1 : decide ((p.sigs.length : Int) < (p.sigs.length : Int)) = false := dec_f (by omega)
      have EA := Lib.hid (show al = (acc, 0) from by rw [HA.out, List.drop_of_length_le (by rw [List.length_range]; exact Nat.le_refl _)]; rfl)
      go_wp2_with fail
      refine bodyPost_ret (v := .tuple #[.slice Ao acc.length co, .int .i64 0]) ?_ rfl (by
        rw [HAL.out, EA.out]
        exact ⟨Ao, co, rfl, hco, HRI.out, X0.out.trans (HB.out.mono X0.out.size)⟩)
      simp [results, Try.results14, go_sem]
      --]
end Go.Proofs.Ytbmmcmdopekccaa
/-
  Plain mathematics of layer 12: how long a route's parts are. No program is named here.
-/
namespace Go.Proofs.Ytbmmcmdopekccaa
open Go.RowKit

theorem madeP_route {l : List UInt8} {p : Pl.Plan} (h : madeP l = some p) : Pl.Fit p ∧ Lp.Meas p ∧ (0 ≤ p.ap ∧ p.ap ≤ 1125899906842624) ∧ (0 ≤ p.ho ∧ p.ho ≤ 1099511627776) := by
  obtain ⟨hf, L, hL, hS, e⟩ := madeP_some h
  refine ⟨hf, ?_⟩
  rw [e]
  have h1 := Nr.ap_fin hL
  exact ⟨Lp.meas_fin hL hS, ⟨h1.1, by omega⟩, Rt.ho_fin hL⟩
namespace Rt
/-- The parts of a route are short. -/
def Small (r : Route) : Prop := r.steps.length ≤ 1000 ∧ r.lap.length ≤ 1000 ∧ r.pts.length ≤ 1000 ∧ r.fl.length ≤ 1000 ∧ r.near.length ≤ 1000
theorem zero_small : Small zero := ⟨by decide, by decide, by decide, by decide, by decide⟩
theorem fill_small {p : Pl.Plan} (hf : Pl.Fit p) {i : Nat} {w : Cr.Way} (hw : w ∈ (Cr.of p i).1) : Small (fill p i w (Lp.of p i w).1) := by
  have h1 := Cr.of_steps hw
  have h2 := Lp.of_steps (p := p) (i := i) (w := w)
  have h3 := Fl.of_len p (w.steps ++ (Lp.of p i w).1)
  have h4 := Dm.ofSteps_len p (w.steps ++ (Lp.of p i w).1) (w.steps ++ (Lp.of p i w).1).length
  rw [List.take_length] at h4
  have h5 : (w.steps ++ (Lp.of p i w).1).length = w.steps.length + (Lp.of p i w).1.length := List.length_append
  have h6 := Nr.of_len hf (i := (i : Int))
  refine ⟨?_, ?_, ?_, ?_, ?_⟩
  · show w.steps.length ≤ 1000; omega
  · show (Lp.of p i w).1.length ≤ 1000; omega
  · show (Fl.of p (w.steps ++ (Lp.of p i w).1)).pts.length ≤ 1000; omega
  · show (Fl.of p (w.steps ++ (Lp.of p i w).1)).fl.length ≤ 1000; omega
  · show ((Nr.of p i).1.map _).length ≤ 1000; rw [List.length_map]; omega
theorem of_small {p : Pl.Plan} (hf : Pl.Fit p) {i : Nat} {w : Cr.Way} (hw : w ∈ (Cr.of p i).1) : Small (of p i w).1 := by
  by_cases h : (Lp.of p i w).2 = 0
  · rw [of_ok h]; exact fill_small hf hw
  · rw [of_bad h]; exact zero_small
theorem all_small {p : Pl.Plan} (hf : Pl.Fit p) : ∀ r ∈ (all p).1, Small r := all_each fun _ _ _ hw _ => of_small hf hw
end Rt
end Go.Proofs.Ytbmmcmdopekccaa
/-
  Plain facts on sets of numbers, a bit each, for layer 13. No program is named here.
-/
namespace Go.Proofs.Ytbmmcmdopekccaa.Bs

/-- Words of 32 bits. -/
def W32 (L : List Nat) : Prop := ∀ x ∈ L, x < 4294967296
def fits (L : List Nat) (n : Int) : Bool := decide (0 ≤ n) && decide (n.toNat / 32 < L.length)
def has (L : List Nat) (n : Int) : Bool := decide (0 ≤ n) && (L.getD (n.toNat / 32) 0).testBit (n.toNat % 32)
def put (L : List Nat) (n : Int) : List Nat := if fits L n = true then L.set (n.toNat / 32) (L.getD (n.toNat / 32) 0 ||| 2 ^ (n.toNat % 32)) else L
def new (n : Int) : List Nat := if n < 1 then [] else List.replicate ((n - 1).toNat / 32 + 1) 0
def ofL (n : Int) (l : List Int) : List Nat := l.foldl (fun s x => if x < n then put s x else s) (new n)
def told (L : List Nat) (n : Nat) : List Int := ((List.range n).filter fun (k : Nat) => has L (k : Int)).map fun (k : Nat) => (k : Int)
theorem fits_iff {L : List Nat} {n : Int} : fits L n = true ↔ 0 ≤ n ∧ n.toNat / 32 < L.length := by
  unfold fits
  rw [Bool.and_eq_true, decide_eq_true_eq, decide_eq_true_eq]
theorem W32.at {L : List Nat} (h : W32 L) (i : Nat) : L.getD i 0 < 4294967296 := by
  rw [List.getD_eq_getElem?_getD]
  cases hx : L[i]? with
  | none => show 0 < _; omega
  | some y => exact h y (List.mem_of_getElem? hx)
theorem or_lt {a j : Nat} (h : a < 4294967296) (hj : j < 32) : a ||| 2 ^ j < 4294967296 := by
  have h2 : (2 : Nat) ^ j < 2 ^ 32 := Nat.pow_lt_pow_right (by decide) hj
  exact Nat.or_lt_two_pow (n := 32) h h2
theorem W32.put {L : List Nat} (h : W32 L) (n : Int) : W32 (put L n) := by
  unfold Bs.put
  split
  · intro x hx
    rcases List.mem_or_eq_of_mem_set hx with hx | rfl
    · exact h x hx
    · exact or_lt (h.at _) (Nat.mod_lt _ (by decide))
  · exact h
theorem W32.new (n : Int) : W32 (new n) := by
  unfold Bs.new
  split
  · intro x hx; cases hx
  · intro x hx
    rw [(List.mem_replicate.1 hx).2]; decide
theorem W32.ofL (n : Int) (l : List Int) : W32 (ofL n l) := by
  unfold Bs.ofL
  have : ∀ (l : List Int) (s : List Nat), W32 s → W32 (l.foldl (fun s x => if x < n then Bs.put s x else s) s) := by
    intro l
    induction l with
    | nil => intro s hs; exact hs
    | cons x l ih =>
      intro s hs
      rw [List.foldl_cons]
      split
      · exact ih _ (hs.put x)
      · exact ih _ hs
  exact this l _ (W32.new n)
theorem put_len (L : List Nat) (n : Int) : (put L n).length = L.length := by
  unfold put
  split
  · exact List.length_set
  · rfl
theorem fold_len (n : Int) : ∀ (l : List Int) (s : List Nat), (l.foldl (fun s x => if x < n then put s x else s) s).length = s.length
  | [], _ => rfl
  | x :: l, s => by
    rw [List.foldl_cons, fold_len n l]
    split
    · exact put_len _ _
    · rfl
theorem ofL_len (n : Int) (l : List Int) : (ofL n l).length = (new n).length := fold_len n l _
theorem new_len (n : Int) : (new n).length = if n < 1 then 0 else (n - 1).toNat / 32 + 1 := by
  unfold new
  split <;> simp
theorem ofL_take {n : Int} {l : List Int} {k : Nat} {x : Int} (h : l[k]? = some x) : ofL n (l.take (k + 1)) = if x < n then put (ofL n (l.take k)) x else ofL n (l.take k) := by
  unfold ofL
  rw [List.take_add_one, h, List.foldl_append]
  rfl
theorem testBit_out {L : List Nat} {i : Nat} (h : L.length ≤ i) (j : Nat) : (L.getD i 0).testBit j = false := by
  rw [List.getD_eq_getElem?_getD, List.getElem?_eq_none h]
  exact Nat.zero_testBit j
theorem has_put (L : List Nat) (n k : Int) : has (put L n) k = (has L k || (decide (k = n) && fits L n)) := by
  unfold put
  split
  case isFalse h =>
    have h2 : fits L n = false := by simpa using h
    rw [h2, Bool.and_false, Bool.or_false]
  case isTrue h =>
    rw [h, Bool.and_true]
    obtain ⟨h0, h1⟩ := fits_iff.1 h
    unfold has
    by_cases hk : 0 ≤ k
    · rw [decide_eq_true hk, Bool.true_and, Bool.true_and]
      by_cases he : k.toNat / 32 = n.toNat / 32
      · rw [he, List.getD_eq_getElem?_getD, List.getElem?_set_self h1]
        show ((L.getD (n.toNat / 32) 0) ||| 2 ^ (n.toNat % 32)).testBit (k.toNat % 32) = _
        rw [Nat.testBit_or, Nat.testBit_two_pow]
        congr 1
        rw [Bool.eq_iff_iff, decide_eq_true_eq, decide_eq_true_eq]
        omega
      · rw [List.getD_eq_getElem?_getD, List.getElem?_set_ne (Ne.symm he), ← List.getD_eq_getElem?_getD, decide_eq_false (show ¬ k = n by intro e; rw [e] at he; exact he rfl), Bool.or_false]
    · rw [decide_eq_false hk, Bool.false_and, Bool.false_and, decide_eq_false (show ¬ k = n by omega)]
      rfl
theorem has_new (n k : Int) : has (new n) k = false := by
  unfold has
  have : (new n).getD (k.toNat / 32) 0 = 0 := by
    unfold new
    split
    · rfl
    · rw [List.getD_eq_getElem?_getD, List.getElem?_replicate]
      split <;> rfl
  rw [this, Nat.zero_testBit, Bool.and_false]
theorem fits_new {n k : Int} (h0 : 0 ≤ k) (h : k < n) : fits (new n) k = true := by
  rw [fits_iff, new_len, if_neg (by omega)]
  refine ⟨h0, ?_⟩
  omega
theorem has_fold (n k : Int) : ∀ (l : List Int) (s : List Nat), s.length = (new n).length → has (l.foldl (fun s x => if x < n then put s x else s) s) k = (has s k || (decide (0 ≤ k) && decide (k < n) && l.any fun x => decide (x = k)))
  | [], s, _ => by simp
  | x :: l, s, hs => by
    rw [List.foldl_cons, List.any_cons]
    by_cases hx : x < n
    · rw [if_pos hx, has_fold n k l _ (by rw [put_len]; exact hs), has_put]
      have e : fits s x = fits (new n) x := by unfold fits; rw [hs]
      rw [e]
      by_cases hk : x = k
      · subst hk
        by_cases h0 : 0 ≤ x
        · rw [fits_new h0 hx, decide_eq_true h0, decide_eq_true hx]
          simp
        · have hf : fits (new n) x = false := by unfold fits; rw [decide_eq_false h0]; rfl
          rw [hf, decide_eq_false h0]
          simp
      · rw [decide_eq_false (Ne.symm hk), decide_eq_false hk]
        simp
    · rw [if_neg hx, has_fold n k l _ hs]
      by_cases hk : x = k
      · subst hk
        rw [decide_eq_false hx]
        simp
      · rw [decide_eq_false hk, Bool.false_or]
theorem has_ofL (n k : Int) (l : List Int) : has (ofL n l) k = (decide (0 ≤ k) && decide (k < n) && l.any fun x => decide (x = k)) := by
  unfold ofL
  rw [has_fold n k l _ rfl, has_new, Bool.false_or]
end Go.Proofs.Ytbmmcmdopekccaa.Bs
