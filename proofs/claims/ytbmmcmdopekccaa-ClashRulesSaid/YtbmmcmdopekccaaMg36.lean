/-
  Texts of this claim, merged: ClPrC.
-/
import Derived.Test.YtbmmcmdopekccaaMg20
import Derived.Test.YtbmmcmdopekccaaMg34
import Derived.Test.YtbmmcmdopekccaaMg35
import Derived.Deep.CutRange
import Derived.Deep.RegionLaw
import Derived.Lib.IndexLaws
/-
  The walks of the program's layer 14: the places of all that one bars; Matrix.
-/
namespace Go.Proofs.Ytbmmcmdopekccaa
open Go.RowKit

theorem Cl.get_at {L : List Rt.Route} {k : Nat} {y : Rt.Route} (h : L[k]? = some y) : L.getD k Rt.zero = y := by rw [List.getD_eq_getElem?_getD, h]; rfl
set_option maxHeartbeats 16000000 in
set_option maxRecDepth 100000 in
theorem pcBarred_any (A : Option Addr) (c : Nat) (L : List Rt.Route) (i : Nat) (w : World) (h : RoutesIn w A L) (hs : ∀ r ∈ L, Cl.Tiny r) (ha : i < L.length) (hl : L.length ≤ 1000000) :
    Calls Try.prog 17 #[.slice A L.length c, .int .i64 i] w fun e w' => ∃ v, e = .returned v ∧ w'.ownsRow w.heap.size 3 LNum.m v (Cl.barred L i L.length).length (LNum.all (Cl.barred L i L.length)) ∧ Below w.heap.size w w' := by
  --[
  have HR := Lib.hid h
  have HS := Lib.hid hs
  have B0 := Lib.hid (Below.refl w.heap.size w)
  have O0 := Lib.hid (show w.ownsRow w.heap.size 3 LNum.m (.slice none 0 0) (Cl.barred L i 0).length (LNum.all (Cl.barred L i 0)) from ⟨rfl, .inl ⟨rfl, rfl⟩⟩)
  obtain ⟨i0, hi, hz0, hz1, hz2⟩ := info_parts infoNumB
  clear h hs
  go_enter Try.func17, Try.ntmps17
  go_wp2_with fail
  go_loopw [5, 6, 7, 10] (fun v5 _ _ v10 w' => ∃ k : Nat, k ≤ L.length ∧ v10 = .int .i64 k ∧ w'.ownsRow w.heap.size 3 LNum.m v5 (Cl.barred L i k).length (LNum.all (Cl.barred L i k)) ∧ Below w.heap.size w w') (fun _ _ _ v10 _ => L.length - (intOf v10).toNat)
  case atStart => exact ⟨0, Nat.zero_le _, rfl, O0.out, B0.out⟩
  case round =>
    obtain ⟨k, hk, rfl, ho, hb⟩ := hrel
    have HB := Lib.hid hb
    have HO := Lib.hid ho
    by_cases hlt : k < L.length
    · have hy := List.getElem?_eq_getElem hlt
      have hya := List.getElem?_eq_getElem ha
      obtain ⟨b, o, m, rfl, hbb, hm, hon, hP⟩ := (HR.out.below hb).at hy
      obtain ⟨b', o', ma, hA, -, hma, hona, hPa⟩ := (HR.out.below hb).at hya
      cases hA
      have hH : Cl.hit L i k = (decide (k ≠ i) && Cl.bars ma.r m.r) := by
        unfold Cl.hit
        rw [Cl.get_at hya, Cl.get_at hy, hm, hma]
      have HT := Lib.hid (Cl.barred_succ L i k)
      rw [hH] at HT
      have ht := HS.out _ (List.getElem_mem hlt)
      have hta := HS.out _ (List.getElem_mem ha)
      rw [← hm] at ht
      rw [← hma] at hta
      have hBL := Cl.barred_len L i k
      obtain ⟨p0, p1, p2, p3, p4, p5, p6, p7, p8⟩ := rt_on hon
      have T0 := Below.refl wr.heap.size wr
      have T4 := Lib.hid (T0.alloc (Nat.le_refl _) (rtO m))
      have S4 := Lib.hid (heap_alloc_new wr (rtO m))
      have d1 : decide ((k : Int) < (L.length : Int)) = true := dec_t (by omega)
      have k0 : (0 : Int) ≤ (k : Int) := Int.natCast_nonneg k
      have k1 : (k : Int) < (L.length : Int) := by omega
      have j0 : (0 : Int) ≤ (i : Int) := Int.natCast_nonneg i
      have j1 : (i : Int) < (L.length : Int) := by omega
      have KA := Lib.hid (fun W (hW : Below wr.heap.size wr W) => rt_on (fun j v hv => (hW.cell (p := ⟨b, o + i * 9 + j, none⟩) hbb).trans (hona j v hv) : LRt.On W b (o + i * 9) ma))
      have CB := Lib.hid (fun W (hW : Below wr.heap.size wr W) => pcBars_any ma m W (hPa.below hW) (hP.below hW) hta ht)
      generalize hzz : Cl.bars ma.r m.r = z at HT CB
      generalize hX : Cl.barred L i k = X at HO HT hBL
      clear hzz hX hH hy hya hm hma ht hta hona hP hPa hb ho T0 hon
      go_upto_region 5 with fail
      generalize wr.alloc (rtO m) = w4 at T4 S4 ⊢
      generalize hg : wr.heap.size = g at S4 ⊢
      have G4 := Lib.hid (show w.heap.size ≤ g from by rw [← hg]; exact HB.out.size)
      obtain ⟨⟨q0, q1, q2, q3, q4, q5, q6, q7, q8⟩, -, gl⟩ := row9 S4.out
      have B4 := Lib.hid (HB.out.trans (T4.out.mono HB.out.size))
      have O4 := Lib.hid (ownsRow_below HO.out T4.out)
      clear p0 p1 p2 p3 p4 p5 p6 p7 p8 hg
      by_cases hka : k = i
      · have E : ((k : Int) != (i : Int)) = false := by rw [bne_eq_false_iff_eq]; omega
        have HT2 := Lib.hid (show Cl.barred L i (k + 1) = X from by have := HT.out; rwa [decide_eq_false (p := k ≠ i) (fun h => h hka), Bool.false_and, if_neg (by decide), List.append_nil] at this)
        clear hka
        go_quiet (fail)
        go_wp2_with fail
        go_roundw
        case rel => exact ⟨k + 1, by omega, by go_num, by rw [HT2.out]; exact ownsRow_below O4.out (below_drewN (Below.refl _ _) _), below_drewN B4.out _⟩
        case measure => simp [intOf]; omega
      · have E : ((k : Int) != (i : Int)) = true := by rw [bne_iff_ne]; omega
        have HT2 := Lib.hid (show Cl.barred L i (k + 1) = X ++ if z = true then [(k : Int)] else [] from by have := HT.out; rwa [decide_eq_true (p := k ≠ i) hka, Bool.true_and] at this)
        have V0 := Lib.hid (Below.refl w4.heap.size w4)
        have K2 := Lib.hid (fun W (hW : Below w4.heap.size w4 W) => And.intro (KA.out W (T4.out.trans (hW.mono T4.out.size))) (row9 ((hW.block _ gl).trans S4.out)).1)
        clear hka q0 q1 q2 q3 q4 q5 q6 q7 q8 gl
        go_region_held3 (fun W' => (W'.cell? ⟨b, o + i * 9, none⟩ = some (.int .i64 ma.r.entry) ∧ W'.cell? ⟨b, o + i * 9 + 1, none⟩ = some (.int .i64 ma.r.exit) ∧ W'.cell? ⟨b, o + i * 9 + 2, none⟩ = some (.slice ma.A1 ma.r.steps.length ma.c1) ∧ W'.cell? ⟨b, o + i * 9 + 3, none⟩ = some (.slice ma.A2 ma.r.lap.length ma.c2) ∧ W'.cell? ⟨b, o + i * 9 + 4, none⟩ = some (.slice ma.A3 ma.r.pts.length ma.c3) ∧ W'.cell? ⟨b, o + i * 9 + 5, none⟩ = some (.slice ma.A4 ma.r.fl.length ma.c4) ∧ W'.cell? ⟨b, o + i * 9 + 6, none⟩ = some (.slice ma.A5 ma.r.near.length ma.c5) ∧ W'.cell? ⟨b, o + i * 9 + 7, none⟩ = some (.int .i64 ma.r.dist) ∧ W'.cell? ⟨b, o + i * 9 + 8, none⟩ = some (.int .i64 ma.r.timer)) ∧
            W'.cell? ⟨g, 0, none⟩ = some (.int .i64 m.r.entry) ∧ W'.cell? ⟨g, 1, none⟩ = some (.int .i64 m.r.exit) ∧ W'.cell? ⟨g, 2, none⟩ = some (.slice m.A1 m.r.steps.length m.c1) ∧ W'.cell? ⟨g, 3, none⟩ = some (.slice m.A2 m.r.lap.length m.c2) ∧ W'.cell? ⟨g, 4, none⟩ = some (.slice m.A3 m.r.pts.length m.c3) ∧ W'.cell? ⟨g, 5, none⟩ = some (.slice m.A4 m.r.fl.length m.c4) ∧ W'.cell? ⟨g, 6, none⟩ = some (.slice m.A5 m.r.near.length m.c5) ∧ W'.cell? ⟨g, 7, none⟩ = some (.int .i64 m.r.dist) ∧ W'.cell? ⟨g, 8, none⟩ = some (.int .i64 m.r.timer))
          (first | with_reducible exact K2.out _ V0.out.drew | with_reducible exact K2.out _ h5 | (go_keep; done))
          (first | (go_at_call 10; (with_reducible refine (CB.out _ (T4.out.trans (V0.out.drew.mono T4.out.size))).mono ?_); rintro e5 w5 ⟨rfl, hb5⟩; have h5 := V0.out.drew.trans (hb5.mono V0.out.drew.size)))
        have B5 := Lib.hid (B4.out.trans (h5.mono B4.out.size))
        have O5 := Lib.hid (ownsRow_below O4.out h5)
        clear K2 CB KA h5
        cases z with
        | false =>
          go_wp2_with fail
          go_roundw
          case rel => exact ⟨k + 1, by omega, by go_num, by rw [HT2.out, if_neg (by decide), List.append_nil]; exact O5.out, B5.out⟩
          case measure => simp [intOf]; omega
        | true =>
          have HR1 := Lib.hid (num_row1 w5 (k : Int) rfl)
          have HO1 := Lib.hid (O5.out.alloc (.cells #[.int .i64 (k : Int)] 3))
          have HB1 := Lib.hid (B5.out.alloc B5.out.size (.cells #[.int .i64 (k : Int)] 3))
          go_wp2_with (at_builtin; refine wpList_append_at LNum rfl (.tmp 26) (.tmp 28) 33 rfl w.heap.size 3 i0 _ 8 Try.underlying33 hi hz0 hz1 hz2 rfl _ X.length (LNum.all X) rfl HO1.out (some ⟨w5.heap.size, 0, none⟩) 1 1 [(k : Int)] rfl rfl HR1.out (by omega) (by omega) (by have := B5.out.size; simp; omega) ?_; intro v6 w6 hown6 hg6)
          have HB6 := Lib.hid (Below.grown HB1.out hg6 HB1.out.size (fun b hb => (HO1.out.lt b hb).1))
          have HO6 := Lib.hid (show w6.ownsRow w.heap.size 3 LNum.m v6 (X ++ [(k : Int)]).length (LNum.all (X ++ [(k : Int)])) from by rw [List.length_append, LNum.all_append]; exact hown6)
          clear hown6 hg6
          go_wp2_with fail
          go_roundw
          case rel => exact ⟨k + 1, by omega, by go_num, by rw [HT2.out, if_pos rfl]; exact HO6.out, HB6.out⟩
          case measure => simp [intOf]; omega
    · obtain rfl : k = L.length := by omega
      have d1 : decide ((L.length : Int) < (L.length : Int)) = false := dec_f (by omega)
      clear hb ho
      go_wp2_with fail
      go_ret
      exact ⟨_, rfl, HO.out, HB.out⟩
  --]
/-- A set that a call leaves, as it lies apart from a block ahead of it. -/
theorem SetOwn.apart {L : List Nat} {w : World} {e : Ending} {w' : World} (h : SetOwn L w e w') {k : Nat} (hk : k < w.heap.size) : ∃ A c, e = .returned (.slice A L.length c) ∧ ApartR LWd w' (some k) A L ∧ Below w.heap.size w w' := by
  obtain ⟨v, rfl, ho, hb⟩ := h
  obtain ⟨-, A, c, rfl, -, hR⟩ := Lies.Row.of_own (E := LWd) ho
  refine ⟨A, c, rfl, ApartR.new hR (N := w.heap.size) (fun hz a hA => ?_) (fun j hj => by cases hj; exact hk), hb⟩
  rcases own_cases ho with ⟨-, rfl⟩ | ⟨g, cap, e, hg, -⟩
  · exact absurd rfl hz
  · cases e
    cases hA
    exact hg
set_option maxHeartbeats 16000000 in
set_option maxRecDepth 100000 in
theorem pcMatrix_any (A : Option Addr) (c : Nat) (L : List Rt.Route) (w : World) (h : RoutesIn w A L) (hs : ∀ r ∈ L, Cl.Tiny r) (hl : L.length ≤ 1000000) :
    Calls Try.prog 8 #[.slice A L.length c] w (SetsYes (Cl.rows L) w) := by
  --[
  have HR := Lib.hid h
  have X0 := (Below.refl w.heap.size w).alloc (Nat.le_refl _) (.cells (LSet.all (List.replicate L.length ⟨none, 0, []⟩)).toArray 29)
  have B0 := Lib.hid X0
  have U0 := Lib.hid (SetsUp.made w L.length)
  have CB := Lib.hid (fun (i : Nat) (hi : i < L.length) W (hW : Below w.heap.size w W) => pcBarred_any A c L i W (h.below hW) hs hi hl)
  have CO := Lib.hid (fun (i : Nat) (B : Option Addr) (d : Nat) W (hR : LNum.Row W B (Cl.barred L i L.length)) => bpOf_any (L.length : Int) B d (Cl.barred L i L.length) W (by omega) hR (Nat.le_trans (Cl.barred_len L i L.length) hl) (fun x hx => by
    obtain ⟨j, hj, -, rfl⟩ := Cl.mem_barred.1 hx
    omega))
  have hmk := run_make_k LSet (P := Try.prog) ⟨none, 0, []⟩ 26 29 (.slice none 0 0) 24 Try.underlying26 infoSet rfl .i64 .i64 L.length (by omega) (by omega)
  have D1 : decide ((11728124029610 : Int) < (L.length : Int)) = false := dec_f (by omega)
  have RL := Lib.hid (Cl.rows_len L)
  clear h hs X0
  go_enter Try.func8, Try.ntmps8
  go_wp2_with fail
  generalize w.alloc (.cells (LSet.all (List.replicate L.length ⟨none, 0, []⟩)).toArray 29) = w1 at B0 U0 ⊢
  generalize hg : w.heap.size = g at U0 ⊢
  have GE := Lib.hid hg
  clear hg
  go_loopw [4, 10] (fun _ v10 w' => ∃ i : Nat, i ≤ L.length ∧ v10 = .int .i64 i ∧ SetsUp w' g ((Cl.rows L).take i) (L.length - i) ∧ Below w.heap.size w w') (fun _ v10 _ => L.length - (intOf v10).toNat)
  case atStart => exact ⟨0, Nat.zero_le _, rfl, U0.out, B0.out⟩
  case round =>
    obtain ⟨i, hi, rfl, hU, hb⟩ := hrel
    have HB := Lib.hid hb
    have HU := Lib.hid hU
    clear hU hb
    by_cases hlt : i < L.length
    · have d1 : decide ((i : Int) < (L.length : Int)) = true := dec_t (by omega)
      have i0 : (0 : Int) ≤ (i : Int) := Int.natCast_nonneg i
      have i1 : (i : Int) < (L.length : Int) := by omega
      have C1 := Lib.hid (CB.out i hlt wr HB.out)
      have HT := Lib.hid (Cl.rows_take L hlt)
      have HTL := Lib.hid (show ((Cl.rows L).take i).length = i from by rw [List.length_take, RL.out]; omega)
      have HN := Lib.hid (show L.length - i = (L.length - (i + 1)) + 1 from by omega)
      have HX := Lib.hid (show Bs.ofL (L.length : Int) (Cl.barred L i L.length) = Cl.row L i from rfl)
      have C2 := Lib.hid (fun B d W hR => CO.out i B d W hR)
      generalize Cl.barred L i L.length = X at C1 C2 HX
      go_wp2_with fail
      refine C1.out.mono ?_; rintro e w2 ⟨v, rfl, ho2, hb2⟩
      obtain ⟨-, B, d, rfl, -, hR2⟩ := Lies.Row.of_own (E := LNum) ho2
      have C3 := Lib.hid (C2.out B d w2 hR2)
      rw [HX.out] at C3
      have U2 := Lib.hid (HU.out.below hb2)
      have B2 := Lib.hid (HB.out.trans (hb2.mono HB.out.size))
      clear ho2 hR2 hb2 C1 C2 HX
      go_wp2_with fail
      refine C3.out.mono ?_; rintro e w3 h3
      obtain ⟨E, f, rfl, hA3, hb3⟩ := h3.apart U2.out.lt
      have U3 := U2.out.below hb3
      rw [HN.out] at U3
      obtain ⟨c0, c1⟩ := U3.cell
      have U4 := Lib.hid (U3.put (c := f) hA3)
      rw [HTL.out] at U4 c0 c1
      rw [← HT.out] at U4
      have B4 := Lib.hid ((B2.out.trans (hb3.mono B2.out.size)).setCell (p := ⟨g, i, none⟩) (by rw [← GE.out]; exact Nat.le_refl _) (.slice E (Cl.row L i).length f))
      clear hA3 hb3 U3 C3
      go_wp2_with fail
      go_roundw
      case rel => exact ⟨i + 1, by omega, by go_num, U4.out, B4.out⟩
      case measure => simp [intOf]; omega
    · obtain rfl : i = L.length := by omega
      have d1 : decide ((L.length : Int) < (L.length : Int)) = false := dec_f (by omega)
      have HS := Lib.hid (show SetsIn wr (some ⟨g, 0, none⟩) (Cl.rows L) from by
        have := HU.out
        rw [← RL.out, List.take_length, Nat.sub_self] at this
        exact this.done)
      go_wp2_with fail
      go_ret
      exact ⟨_, _, by rw [RL.out] <;> rfl, HS.out, HB.out⟩
  --]
end Go.Proofs.Ytbmmcmdopekccaa
