/-
  Texts of this claim, merged: LpProg.
-/
import Derived.Test.YtfmpjljddfaggaaMg24
/-
  The walk of the program's layer 8: the overlap of a way.
-/
namespace Go.Proofs.Ytfmpjljddfaggaa
open Go.RowKit

set_option maxHeartbeats 8000000 in
set_option maxRecDepth 100000 in
theorem plStands_any (p : Pl.Plan) (A : Option Addr) (c : Nat) (A' : Option Addr) (c' : Nat) (i : Int) (q : Bool) (hq : decide (0 ≤ i ∧ i < (p.sigs.length : Int)) = q) (w : World) :
    Calls Try.prog 22 #[planV p A c A' c', .int .i64 i] w (OneIs (.bool q) w) := by
  --[
  have X0 := Lib.hid ((Below.refl w.heap.size w).alloc (Nat.le_refl _) (planO p A c A' c'))
  obtain ⟨⟨p0, p1, p2, p3, p4, p5⟩, -, gp⟩ := row6 (heap_alloc_new w (planO p A c A' c'))
  subst hq
  by_cases h0 : 0 ≤ i
  · have D0 : decide (0 ≤ i) = true := dec_t h0
    by_cases h1 : i < (p.sigs.length : Int)
    · have D1 : decide (i < (p.sigs.length : Int)) = true := dec_t h1
      rw [decide_eq_true (And.intro h0 h1)]
      clear h0 h1
      go_enter Try.func22, Try.ntmps22
      go_wp2_with fail
      go_ret
      exact ⟨rfl, X0.out⟩
    · have D1 : decide (i < (p.sigs.length : Int)) = false := dec_f h1
      rw [decide_eq_false (fun h => h1 h.2)]
      clear h0 h1
      go_enter Try.func22, Try.ntmps22
      go_wp2_with fail
      go_ret
      exact ⟨rfl, X0.out⟩
  · have D0 : decide (0 ≤ i) = false := dec_f h0
    rw [decide_eq_false (fun h => h0 h.1)]
    clear h0
    go_enter Try.func22, Try.ntmps22
    go_wp2_with fail
    go_ret
    exact ⟨rfl, X0.out⟩
  --]
set_option maxHeartbeats 8000000 in
set_option maxRecDepth 100000 in
theorem plOf_go (p : Pl.Plan) (hf : Pl.Fit p) (hm : Lp.Meas p) (A : Option Addr) (c : Nat) (A' : Option Addr) (c' : Nat) (i : Int) (way : List Wk.Stp) (ex : Int) (Aw : Option Addr) (cw : Nat) (w : World) (h : PlanIn w p A A') (hway : LStp.Row w Aw way) (hwl : way.length ≤ 1000) (hex : -1 ≤ ex) :
    Calls Try.prog 10 #[planV p A c A' c', .int .i64 i, .agg #[.slice Aw way.length cw, .int .i64 ex]] w (LapYes (Lp.of p i ⟨way, ex⟩) w) := by
  have XA := (Below.refl w.heap.size w).alloc (Nat.le_refl _) (planO p A c A' c')
  have X0 := Lib.hid (XA.alloc XA.size (wayO Aw way.length cw ex))
  have RP := Lib.hid ((heap_alloc_old (w.alloc (planO p A c A' c')) (wayO Aw way.length cw ex) (show w.heap.size < (w.alloc (planO p A c A' c')).heap.size by simp)).trans (heap_alloc_new w (planO p A c A' c')))
  have RY := Lib.hid (show ((w.alloc (planO p A c A' c')).alloc (wayO Aw way.length cw ex)).heap[w.heap.size + 1]? = some (wayO Aw way.length cw ex) from by
    have := heap_alloc_new (w.alloc (planO p A c A' c')) (wayO Aw way.length cw ex)
    rwa [show (w.alloc (planO p A c A' c')).heap.size = w.heap.size + 1 by simp] at this)
  have HI := Lib.hid (h.below X0.out)
  have HW := Lib.hid (hway.below rfl X0.out)
  clear XA h hway
  generalize hw1 : (w.alloc (planO p A c A' c')).alloc (wayO Aw way.length cw ex) = w1 at X0 RP RY HI HW
  have K1 := Lib.hid (fun W (hb : Below w1.heap.size w1 W) => show ((W.cell? ⟨w.heap.size, 0, none⟩ = some (.int .i64 p.ov) ∧ W.cell? ⟨w.heap.size, 1, none⟩ = some (.int .i64 p.ap) ∧ W.cell? ⟨w.heap.size, 2, none⟩ = some (.int .i64 p.se) ∧ W.cell? ⟨w.heap.size, 3, none⟩ = some (.int .i64 p.ho) ∧ W.cell? ⟨w.heap.size, 4, none⟩ = some (.slice A p.secs.length c) ∧ W.cell? ⟨w.heap.size, 5, none⟩ = some (.slice A' p.sigs.length c')) ∧ W.cell? ⟨w.heap.size + 1, 0, none⟩ = some (.slice Aw way.length cw) ∧ W.cell? ⟨w.heap.size + 1, 1, none⟩ = some (.int .i64 ex)) from
    ⟨(row6 ((hb.block _ (Array.getElem?_eq_some_iff.1 RP.out).1).trans RP.out)).1, (rowY ((hb.block _ (Array.getElem?_eq_some_iff.1 RY.out).1).trans RY.out)).1⟩)
  have T0 := Lib.hid (Below.refl w1.heap.size w1)
  obtain ⟨⟨p0, p1, p2, p3, p4, p5⟩, y0, y1⟩ := K1.out _ T0.out
  have S1 := Lib.hid (fun W q (hq : decide (0 ≤ i ∧ i < (p.sigs.length : Int)) = q) => plStands_any p A c A' c' i q hq W)
  have S2 := Lib.hid (fun W q (hq : decide (0 ≤ ex ∧ ex < (p.sigs.length : Int)) = q) => plStands_any p A c A' c' ex q hq W)
  rcases Cr.sigAt_ways p i with ⟨hs, hn⟩ | ⟨k, rfl, ⟨hk, hn⟩ | ⟨x1, hx1, hn⟩⟩
  · have C1 := Lib.hid (fun W => S1.out W false (decide_eq_false (by omega)))
    rw [Lp.of_bad hn]
    clear hs hn S1 S2
    subst hw1
    go_enter Try.func10, Try.ntmps10
    go_wp2_with fail
    refine (C1.out _).mono ?_; rintro e w2 ⟨rfl, hb2⟩
    have FIN := Lib.hid (LapYes.nil 4 (X0.out.trans (hb2.mono X0.out.size)))
    clear hb2 p0 p1 p2 p3 p4 p5 y0 y1
    go_wp2_with fail
    refine bodyPost_ret ?_ rfl FIN.out
    simp [results, Try.results10, go_sem]
  · have C1 := Lib.hid (fun W => S1.out W false (decide_eq_false (by omega)))
    rw [Lp.of_bad hn]
    clear hn S1 S2
    subst hw1
    go_enter Try.func10, Try.ntmps10
    go_wp2_with fail
    refine (C1.out _).mono ?_; rintro e w2 ⟨rfl, hb2⟩
    have FIN := Lib.hid (LapYes.nil 4 (X0.out.trans (hb2.mono X0.out.size)))
    clear hb2 p0 p1 p2 p3 p4 p5 y0 y1
    go_wp2_with fail
    refine bodyPost_ret ?_ rfl FIN.out
    simp [results, Try.results10, go_sem]
  have hlt : k < p.sigs.length := (List.getElem?_eq_some_iff.1 hx1).1
  have C1 := Lib.hid (fun W => S1.out W true (decide_eq_true (by omega)))
  clear S1
  by_cases he1 : ex = -1
  · subst he1
    rw [Lp.of_nought (w := ⟨way, -1⟩) hn (by simp only; omega) (.inl (by simp only; omega))]
    clear hn hx1 S2 hex hlt
    subst hw1
    go_enter Try.func10, Try.ntmps10
    go_wp2_with fail
    refine (C1.out _).mono ?_; rintro e w2 ⟨rfl, hb2⟩
    have FIN := Lib.hid (LapYes.nil 0 (X0.out.trans (hb2.mono X0.out.size)))
    clear hb2 p0 p1 p2 p3 p4 p5 y0 y1
    go_wp2_with fail
    refine bodyPost_ret ?_ rfl FIN.out
    simp [results, Try.results10, go_sem]
  have E1 : (ex == -1) = false := by rw [beq_eq_false_iff_ne]; exact he1
  obtain ⟨e, rfl⟩ : ∃ e : Nat, ex = e := ⟨ex.toNat, by omega⟩
  by_cases he : p.sigs.length ≤ e
  · have C2 := Lib.hid (fun W => S2.out W false (decide_eq_false (by omega)))
    rw [Lp.of_exit (y := ⟨way, e⟩) hn (by simp only; omega)]
    clear hn hx1 he S2 hex hlt he1
    subst hw1
    go_enter Try.func10, Try.ntmps10
    go_wp2_with fail
    refine (C1.out _).mono ?_; rintro e' w2 ⟨rfl, hb2⟩
    have B2 := Lib.hid hb2
    clear hb2 p0 p1 p2 p3 p4 p5 y0 y1
    obtain ⟨⟨p0, p1, p2, p3, p4, p5⟩, y0, y1⟩ := K1.out _ B2.out
    go_wp2_with fail
    refine (C2.out _).mono ?_; rintro e' w3 ⟨rfl, hb3⟩
    have FIN := Lib.hid (LapYes.nil 4 (X0.out.trans ((B2.out.trans (hb3.mono B2.out.size)).mono X0.out.size)))
    clear hb3 p0 p1 p2 p3 p4 p5 y0 y1
    go_wp2_with fail
    refine bodyPost_ret ?_ rfl FIN.out
    simp [results, Try.results10, go_sem]
  have C2 := Lib.hid (fun W => S2.out W true (decide_eq_true (by omega)))
  clear S2
  by_cases hov : p.ov = 0
  · have D4 : (p.ov == 0) = true := by rw [beq_iff_eq]; exact hov
    rw [Lp.of_nought (w := ⟨way, e⟩) hn (by simp only; omega) (.inr hov)]
    clear hn hx1 he hov hex hlt he1
    subst hw1
    go_enter Try.func10, Try.ntmps10
    go_wp2_with fail
    refine (C1.out _).mono ?_; rintro e' w2 ⟨rfl, hb2⟩
    have B2 := Lib.hid hb2
    clear hb2 p0 p1 p2 p3 p4 p5 y0 y1
    obtain ⟨⟨p0, p1, p2, p3, p4, p5⟩, y0, y1⟩ := K1.out _ B2.out
    go_wp2_with fail
    refine (C2.out _).mono ?_; rintro e' w3 ⟨rfl, hb3⟩
    have B3 := Lib.hid (B2.out.trans (hb3.mono B2.out.size))
    clear hb3 p0 p1 p2 p3 p4 p5 y0 y1
    obtain ⟨⟨p0, p1, p2, p3, p4, p5⟩, y0, y1⟩ := K1.out _ B3.out
    go_wp2_with fail
    refine bodyPost_ret ?_ rfl (LapYes.nil 0 (X0.out.trans (B3.out.mono X0.out.size)))
    simp [results, Try.results10, go_sem]
  have D4 : (p.ov == 0) = false := by rw [beq_eq_false_iff_ne]; exact hov
  rcases Lp.of_eq (w := ⟨way, e⟩) hn (by simp only; omega) with ⟨h', -⟩ | ⟨-, -, x, hx, hof⟩
  · rcases h' with h' | h'
    · simp only at h'; omega
    · exact absurd h' hov
  rw [hof]
  simp only at hx
  have hxe : p.sigs[e]? = some x := by
    unfold Cr.sigAt at hx
    rw [if_neg (by omega), Int.toNat_natCast] at hx
    exact hx
  have hel := (List.getElem?_eq_some_iff.1 hxe).1
  obtain ⟨b, o, rfl, hb, on⟩ := HI.out.2.at hlt
  obtain ⟨b', o', hbo, -, on'⟩ := HI.out.2.at hel
  cases hbo
  rw [(List.getElem?_eq_some_iff.1 hx1).2] at on
  rw [(List.getElem?_eq_some_iff.1 hxe).2] at on'
  obtain ⟨-, b1, -⟩ := sig_on on
  obtain ⟨a0, a1, a2⟩ := sig_on on'
  rw [show k * LSig.m = k * 3 from rfl] at b1
  rw [show e * LSig.m = e * 3 from rfl] at a0 a1 a2
  clear on on' hn hx1 hx hxe hof he he1 hov hex
  obtain ⟨xn, xs, xe⟩ := x
  simp only at a0 a1 a2
  have i0 : (0 : Int) ≤ (e : Int) := Int.natCast_nonneg e
  have i1 : (e : Int) < (p.sigs.length : Int) := by omega
  have i2 : (0 : Int) ≤ (k : Int) := Int.natCast_nonneg k
  have i3 : (k : Int) < (p.sigs.length : Int) := by omega
  have hsg := Lib.hid hel
  have hsk := Lib.hid hlt
  clear hel
  have KA := Lib.hid (fun W (hW : Below w1.heap.size w1 W) => show W.cell? ⟨b, o + e * 3, none⟩ = some (.string (txt xn)) ∧ W.cell? ⟨b, o + e * 3 + 1, none⟩ = some (.int .i64 xs) ∧ W.cell? ⟨b, o + e * 3 + 2, none⟩ = some (.int .i64 xe) ∧ W.cell? ⟨b, o + k * 3 + 1, none⟩ = some (.int .i64 x1.sec) from
    ⟨(hW.cell (p := ⟨b, o + e * 3, none⟩) hb).trans a0, (hW.cell (p := ⟨b, o + e * 3 + 1, none⟩) hb).trans a1, (hW.cell (p := ⟨b, o + e * 3 + 2, none⟩) hb).trans a2, (hW.cell (p := ⟨b, o + k * 3 + 1, none⟩) hb).trans b1⟩)
  clear a0 a1 a2 b1
  have HFM := Lib.hid (And.intro hf hm)
  have hin := Lib.hid (fun h => Lp.next_in hf (s := xs) (e := xe) h)
  have HWL := Lib.hid hwl
  have P1 := Lib.hid (show Lp.ofSig p x1.sec way ⟨xn, xs, xe⟩ = if (Wk.next p xs xe).2.2 then (if 400 < (Lp.enter p x1.sec way 16 (Wk.next p xs xe).1 (Wk.next p xs xe).2.1 [] 0 0).2 then ([], 10) else ((Lp.enter p x1.sec way 16 (Wk.next p xs xe).1 (Wk.next p xs xe).2.1 [] 0 0).1.getD [], 0)) else ([], 0) from rfl)
  generalize Lp.ofSig p x1.sec way ⟨xn, xs, xe⟩ = res at P1 ⊢
  clear hf hm hwl
  subst hw1
  go_enter Try.func10, Try.ntmps10
  go_wp2_with fail
  generalize (w.alloc (planO p A c (some ⟨b, o, none⟩) c')).alloc (wayO Aw way.length cw e) = w1 at *
  refine (C1.out _).mono ?_; rintro e' w2 ⟨rfl, hb2⟩
  have B2 := Lib.hid hb2
  clear hb2 p0 p1 p2 p3 p4 p5 y0 y1
  obtain ⟨⟨p0, p1, p2, p3, p4, p5⟩, y0, y1⟩ := K1.out _ B2.out
  go_wp2_with fail
  refine (C2.out _).mono ?_; rintro e' w3 ⟨rfl, hb3⟩
  have B3 := Lib.hid (B2.out.trans (hb3.mono B2.out.size))
  clear hb3 p0 p1 p2 p3 p4 p5 y0 y1 C1 C2 B2
  obtain ⟨⟨p0, p1, p2, p3, p4, p5⟩, y0, y1⟩ := K1.out _ B3.out
  obtain ⟨a0, a1, a2, -⟩ := KA.out _ B3.out
  go_upto_region 7 with fail
  have RX := Lib.hid (heap_alloc_new w3 (.cells #[.string (txt xn), .int .i64 xs, .int .i64 xe] 42))
  have B4 := Lib.hid (B3.out.alloc B3.out.size (.cells #[.string (txt xn), .int .i64 xs, .int .i64 xe] 42))
  generalize w3.alloc (.cells #[.string (txt xn), .int .i64 xs, .int .i64 xe] 42) = w4 at RX B4 ⊢
  generalize w3.heap.size = gx at RX ⊢
  clear p0 p1 p2 p3 p4 p5 y0 y1 a0 a1 a2 B3
  obtain ⟨⟨p0, p1, p2, p3, p4, p5⟩, y0, y1⟩ := K1.out _ B4.out
  obtain ⟨⟨t0, t1, t2⟩, -, -⟩ := row3 RX.out
  have CN := Lib.hid (fun W (hb : Below w1.heap.size w1 W) => pwNext_any p A c (some ⟨b, o, none⟩) c' xs xe W (HI.out.below hb) HFM.out.1.few)
  generalize hnx : Wk.next p xs xe = nx at CN hin P1
  obtain ⟨n1, n2, n3⟩ := nx
  clear hnx
  go_wp2_with fail
  refine (CN.out _ B4.out).mono ?_; rintro e' w5 ⟨rfl, hb5⟩
  have B5 := Lib.hid (B4.out.trans (hb5.mono B4.out.size))
  clear p0 p1 p2 p3 p4 p5 y0 y1 t0 t1 t2 CN hb5 RX B4
  cases n3 with
  | false =>
    have FIN := Lib.hid (show LapYes res w (.returned (.tuple #[.slice none 0 0, .int .i64 0])) w5 from by
      rw [P1.out]
      exact LapYes.nil 0 (X0.out.trans (B5.out.mono X0.out.size)))
    go_wp2_with fail
    refine bodyPost_ret ?_ rfl FIN.out
    simp [results, Try.results10, go_sem]
  | true =>
    obtain ⟨⟨p0, p1, p2, p3, p4, p5⟩, y0, y1⟩ := K1.out _ B5.out
    obtain ⟨-, -, -, b1⟩ := KA.out _ B5.out
    have P2 := Lib.hid (show res = (if 400 < (Lp.enter p x1.sec way 16 n1 n2 [] 0 0).2 then ([], 10) else ((Lp.enter p x1.sec way 16 n1 n2 [] 0 0).1.getD [], 0)) from P1.out)
    clear P1 hin
    have gp := Nat.lt_of_lt_of_le (Array.getElem?_eq_some_iff.1 RP.out).1 B5.out.size
    have gy := Nat.lt_of_lt_of_le (Array.getElem?_eq_some_iff.1 RY.out).1 B5.out.size
    have gb := Nat.lt_of_lt_of_le hb B5.out.size
    go_upto_region 10 with fail
    go_region
    go_upto_region 11 with fail
    have HL := Lib.hid (heap_alloc_new w5 (findO p A c (some ⟨b, o, none⟩) c' x1.sec (.slice Aw way.length cw) 0 (.slice none 0 0)))
    have TL := Lib.hid ((Below.refl w5.heap.size w5).alloc (Nat.le_refl _) (findO p A c (some ⟨b, o, none⟩) c' x1.sec (.slice Aw way.length cw) 0 (.slice none 0 0)))
    have CE := Lib.hid (fun W (hW : FindAt p A c (some ⟨b, o, none⟩) c' x1.sec (.slice Aw way.length cw) w5.heap.size w5 W 0 (.slice none 0 0)) => plEnter_any (c := c) (c' := c') (b := x1.sec) (way := way) (Aw := Aw) (cw := cw) (g := w5.heap.size) (w0 := w5) (HI.out.below B5.out) HFM.out.2 HFM.out.1.few (HW.out.below rfl B5.out) HWL.out 16 n1 n2 [] none 0 (.slice none 0 0) 0 W hW (World.ownsRow_nil _ _ _ _) rfl (Nat.zero_le _))
    have HF := Lib.hid (fun W (hW : Below (w5.alloc (findO p A c (some ⟨b, o, none⟩) c' x1.sec (.slice Aw way.length cw) 0 (.slice none 0 0))).heap.size (w5.alloc (findO p A c (some ⟨b, o, none⟩) c' x1.sec (.slice Aw way.length cw) 0 (.slice none 0 0))) W) => show FindAt p A c (some ⟨b, o, none⟩) c' x1.sec (.slice Aw way.length cw) w5.heap.size w5 W 0 (.slice none 0 0) from ⟨TL.out.trans (hW.mono TL.out.size), Nat.le_refl _, (hW.block _ (by simp)).trans HL.out⟩)
    clear p0 p1 p2 p3 p4 p5 y0 y1 b1 HL TL
    have HB0 := Lib.hid (Below.refl (w5.alloc (findO p A c (some ⟨b, o, none⟩) c' x1.sec (.slice Aw way.length cw) 0 (.slice none 0 0))).heap.size (w5.alloc (findO p A c (some ⟨b, o, none⟩) c' x1.sec (.slice Aw way.length cw) 0 (.slice none 0 0))))
    have C5 := Lib.hid (CE.out _ (HF.out _ HB0.out.drew))
    clear CE HF HB0
    have hlp : Lp.len p [] = 0 := rfl
    rw [hlp] at C5
    generalize Lp.enter p x1.sec way 16 n1 n2 [] 0 0 = r at C5 P2
    obtain ⟨ro, m⟩ := r
    go_wp2_with fail
    refine C5.out.mono ?_; rintro e' w6 (⟨h1, rfl, m', u', h2, h3⟩ | ⟨h1, h2, rfl, h3, -, -⟩ | ⟨h1, l, B', d', h2, rfl, h3, h4⟩)
    · obtain ⟨⟨-, -, -, -, -, -, -, -, r8, r9⟩, -, gg⟩ := frow10 h3.2.2
      have D : decide (400 < (m' : Int)) = true := dec_t (by omega)
      have FIN := Lib.hid (show LapYes res w (.returned (.tuple #[.slice none 0 0, .int .i64 10])) w6 from by
        rw [P2.out, if_pos h1]
        exact LapYes.nil 10 (X0.out.trans ((B5.out.trans (h3.1.mono B5.out.size)).mono X0.out.size)))
      clear h1 h2 h3
      go_wp2_with fail
      refine bodyPost_ret ?_ rfl FIN.out
      simp [results, Try.results10, go_sem]
    · simp only at h1 h2 h3
      subst h2
      obtain ⟨⟨-, -, -, -, -, -, -, -, r8, r9⟩, -, gg⟩ := frow10 h3.2.2
      have D : decide (400 < (m : Int)) = false := dec_f (by omega)
      have FIN := Lib.hid (show LapYes res w (.returned (.tuple #[.slice none 0 0, .int .i64 0])) w6 from by
        rw [P2.out, if_neg (Nat.not_lt.2 h1)]
        exact LapYes.nil 0 (X0.out.trans ((B5.out.trans (h3.1.mono B5.out.size)).mono X0.out.size)))
      clear h1 h3
      go_wp2_with fail
      refine bodyPost_ret ?_ rfl FIN.out
      simp [results, Try.results10, go_sem]
    · simp only at h1 h2 h3
      subst h2
      obtain ⟨⟨-, -, -, -, -, -, -, -, r8, r9⟩, -, gg⟩ := frow10 h3.2.2
      have D : decide (400 < (m : Int)) = false := dec_f (by omega)
      have FIN := Lib.hid (show LapYes res w (.returned (.tuple #[.slice B' l.length d', .int .i64 0])) w6 from by
        rw [P2.out, if_neg (Nat.not_lt.2 h1)]
        obtain ⟨-, B2, d2, hv, hc, hS⟩ := TRow.of_own (E := LStp) h4
        cases hv
        exact ⟨B', d', rfl, hS, hc, X0.out.trans ((B5.out.trans (h3.1.mono B5.out.size)).mono X0.out.size)⟩)
      clear h1 h3 h4
      go_wp2_with fail
      refine bodyPost_ret ?_ rfl FIN.out
      simp [results, Try.results10, go_sem]
theorem plOf_any (p : Pl.Plan) (hf : Pl.Fit p) (hm : Lp.Meas p) (A : Option Addr) (c : Nat) (A' : Option Addr) (c' : Nat) (i : Int) (y : Cr.Way) (Aw : Option Addr) (cw : Nat) (w : World) (h : PlanIn w p A A') (hway : LStp.Row w Aw y.steps) (hwl : y.steps.length ≤ 1000) (hex : -1 ≤ y.exit) :
    Calls Try.prog 10 #[planV p A c A' c', .int .i64 i, wayV Aw cw y] w (LapYes (Lp.of p i y) w) := plOf_go p hf hm A c A' c' i y.steps y.exit Aw cw w h hway hwl hex
end Go.Proofs.Ytfmpjljddfaggaa
