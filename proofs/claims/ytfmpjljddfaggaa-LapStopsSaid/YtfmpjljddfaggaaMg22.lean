/-
  Texts of this claim, merged: LpRefC, LpLen, CrSeek, CrPrA.
-/
import Derived.Test.YtfmpjljddfaggaaMg15
import Derived.Test.YtfmpjljddfaggaaMg16
import Derived.Test.YtfmpjljddfaggaaMg21
import Derived.Deep.RegionHeld3
/-
  The walks of the document's answers of layer 8: the overlap of a way, how long steps are.
-/
namespace Go.Proofs.Ytfmpjljddfaggaa
open Go.RowKit

theorem rlEnter_any {p : Pl.Plan} {A : Option Addr} {c : Nat} {A' : Option Addr} {c' : Nat} {b : Int} {g : Nat} {w0 : World} {way : List Wk.Stp} {Aw : Option Addr} {cw : Nat} (hI : PlanIn w0 p A A') (hf : Pl.Fit p) (hm : Lp.Meas p) (hway : LStp.Row w0 Aw way) (hwl : way.length ≤ 1000) :
    ∀ (k : Nat) (s f : Int) (st : List Wk.Stp) (B : Option Addr) (d : Nat) (sum : Int) (n : Nat) (wr : World), LookAt p A c A' c' b (.slice Aw way.length cw) g w0 wr n → OwnS w0.heap.size wr B d st → (st = [] → B = none ∧ d = 0) → st.length + k = 16 → n + 2 ^ (k + 1) ≤ 1000000 → (∃ i : Nat, s = i ∧ i < p.secs.length) → (0 ≤ sum ∧ sum ≤ (st.length : Int) * 1099511627776) →
      Calls Try.prog 25 #[.pointer (some ⟨g, 0, none⟩), .int .i64 s, .int .i64 f, .slice B st.length d, .int .i64 sum] wr (LookGives p A c A' c' b (.slice Aw way.length cw) g w0 (Lp.enter p b way k s f st sum n) wr)
  | 0, s, f, st, B, d, sum, n, wr, hh, ho, _, hl, ht, _, _ => rlEnter_turn hway hwl s f st B d sum hh ho (by omega) (by omega) (.inr (by omega))
  | k + 1, s, f, st, B, d, sum, n, wr, hh, ho, hn, hl, ht, hs, hsum => by
    cases hT : decide (400 < n + 1) || Lp.bars b way st s with
    | true =>
      rw [Lp.enter, if_pos hT]
      exact rlEnter_turn hway hwl s f st B d sum hh ho (by omega) (Nat.le_trans (Nat.le_add_right _ _) ht) (.inl hT)
    | false =>
      rw [Lp.enter, if_neg (by rw [hT]; decide)]
      exact rlEnter_step hI hf hm hway hwl k (fun s f st B d sum n wr => rlEnter_any hI hf hm hway hwl k s f st B d sum n wr) s f st B d sum hh ho hn hl ht hs hsum hT
/-- An overlap that a call leaves, and an error's number. -/
def LapYes (x : List Wk.Stp × Int) (w : World) (e : Ending) (w' : World) : Prop := ∃ B d, e = .returned (.tuple #[.slice B x.1.length d, .int .i64 x.2]) ∧ TRow 47 LStp w' B x.1 ∧ x.1.length ≤ d ∧ Below w.heap.size w w'
theorem LapYes.nil {w w' : World} (e : Int) (hb : Below w.heap.size w w') : LapYes ([], e) w (.returned (.tuple #[.slice none 0 0, .int .i64 e])) w' := ⟨none, 0, rfl, .inl rfl, Nat.le_refl _, hb⟩
abbrev wayV (A : Option Addr) (c : Nat) (y : Cr.Way) : Value := .agg #[.slice A y.steps.length c, .int .i64 y.exit]
abbrev wayO (A : Option Addr) (n c : Nat) (ex : Int) : Obj := .cells #[.slice A n c, .int .i64 ex] 31
theorem rowY {w : World} {g : Nat} {a b : Value} {t : TypeId} (h : w.heap[g]? = some (.cells #[a, b] t (0, 0))) : (w.cell? ⟨g, 0, none⟩ = some a ∧ w.cell? ⟨g, 1, none⟩ = some b) ∧ (w.frozen? ⟨g, 0, none⟩ = false ∧ w.frozen? ⟨g, 1, none⟩ = false) ∧ g < w.heap.size :=
  ⟨⟨cell_of_row w g 0 _ t _ h, cell_of_row w g 1 _ t _ h⟩, ⟨frozen_of_row w g 0 _ t h, frozen_of_row w g 1 _ t h⟩, (Array.getElem?_eq_some_iff.1 h).1⟩
theorem Lp.of_bad {p : Pl.Plan} {i : Int} (h : Cr.sigAt p i = none) (y : Cr.Way) : Lp.of p i y = ([], 4) := by unfold Lp.of; rw [h]
theorem Lp.of_exit {p : Pl.Plan} {i : Int} {g : Pl.Sig} (h : Cr.sigAt p i = some g) {y : Cr.Way} (hy : (p.sigs.length : Int) ≤ y.exit) : Lp.of p i y = ([], 4) := by unfold Lp.of; rw [h]; simp only; rw [if_pos hy]
set_option maxHeartbeats 8000000 in
set_option maxRecDepth 100000 in
theorem rlOf_go (p : Pl.Plan) (hf : Pl.Fit p) (hm : Lp.Meas p) (A : Option Addr) (c : Nat) (A' : Option Addr) (c' : Nat) (i : Int) (way : List Wk.Stp) (ex : Int) (Aw : Option Addr) (cw : Nat) (w : World) (h : PlanIn w p A A') (hway : LStp.Row w Aw way) (hwl : way.length ≤ 1000) :
    Calls Try.prog 11 #[planV p A c A' c', .int .i64 i, .agg #[.slice Aw way.length cw, .int .i64 ex]] w (LapYes (Lp.of p i ⟨way, ex⟩) w) := by
  have XA := (Below.refl w.heap.size w).alloc (Nat.le_refl _) (planO p A c A' c')
  have X0 := Lib.hid (XA.alloc XA.size (wayO Aw way.length cw ex))
  have RP := Lib.hid ((heap_alloc_old (w.alloc (planO p A c A' c')) (wayO Aw way.length cw ex) (show w.heap.size < (w.alloc (planO p A c A' c')).heap.size by simp)).trans (heap_alloc_new w (planO p A c A' c')))
  have RY := Lib.hid (show ((w.alloc (planO p A c A' c')).alloc (wayO Aw way.length cw ex)).heap[w.heap.size + 1]? = some (wayO Aw way.length cw ex) from by
    have := heap_alloc_new (w.alloc (planO p A c A' c')) (wayO Aw way.length cw ex)
    rwa [show (w.alloc (planO p A c A' c')).heap.size = w.heap.size + 1 by simp] at this)
  obtain ⟨⟨p0, p1, p2, p3, p4, p5⟩, -, gp⟩ := row6 RP.out
  obtain ⟨⟨y0, y1⟩, -, gy⟩ := rowY RY.out
  have HI := Lib.hid (h.below X0.out)
  have HW := Lib.hid (hway.below rfl X0.out)
  clear XA h hway
  rcases Cr.sigAt_ways p i with ⟨hs, hn⟩ | ⟨k, rfl, ⟨hk, hn⟩ | ⟨x1, hx1, hn⟩⟩
  · have D : decide (i < 0) = true := dec_t hs
    rw [Lp.of_bad hn]
    clear hs hn
    go_enter Try.func11, Try.ntmps11
    go_wp2_with fail
    refine bodyPost_ret ?_ rfl (LapYes.nil 4 X0.out)
    simp [results, Try.results11, go_sem]
  · have D0 : decide ((k : Int) < 0) = false := dec_f (by omega)
    have D1 : decide ((p.sigs.length : Int) ≤ (k : Int)) = true := dec_t (by omega)
    rw [Lp.of_bad hn]
    clear hn
    go_enter Try.func11, Try.ntmps11
    go_wp2_with fail
    refine bodyPost_ret ?_ rfl (LapYes.nil 4 X0.out)
    simp [results, Try.results11, go_sem]
  have hlt : k < p.sigs.length := (List.getElem?_eq_some_iff.1 hx1).1
  have D0 : decide ((k : Int) < 0) = false := dec_f (by omega)
  have D1 : decide ((p.sigs.length : Int) ≤ (k : Int)) = false := dec_f (by omega)
  have N1 : ¬ p.sigs.length ≤ k := by omega
  by_cases he : (p.sigs.length : Int) ≤ ex
  · have D2 : decide ((p.sigs.length : Int) ≤ ex) = true := dec_t he
    rw [Lp.of_exit (y := ⟨way, ex⟩) hn he]
    clear hn he hx1
    go_enter Try.func11, Try.ntmps11
    go_wp2_with fail
    refine bodyPost_ret ?_ rfl (LapYes.nil 4 X0.out)
    simp [results, Try.results11, go_sem]
  have D2 : decide ((p.sigs.length : Int) ≤ ex) = false := dec_f he
  have he2 : ex < p.sigs.length := by omega
  by_cases he0 : ex < 0
  · have D3 : decide (ex < 0) = true := dec_t he0
    rw [Lp.of_nought (w := ⟨way, ex⟩) hn he2 (.inl he0)]
    clear hn he hx1 he2 he0
    go_enter Try.func11, Try.ntmps11
    go_wp2_with fail
    refine bodyPost_ret ?_ rfl (LapYes.nil 0 X0.out)
    simp [results, Try.results11, go_sem]
  have D3 : decide (ex < 0) = false := dec_f he0
  by_cases hov : p.ov = 0
  · have D4 : (p.ov == 0) = true := by rw [beq_iff_eq]; exact hov
    rw [Lp.of_nought (w := ⟨way, ex⟩) hn he2 (.inr hov)]
    clear hn he hx1 he2 he0 hov
    go_enter Try.func11, Try.ntmps11
    go_wp2_with fail
    refine bodyPost_ret ?_ rfl (LapYes.nil 0 X0.out)
    simp [results, Try.results11, go_sem]
  have D4 : (p.ov == 0) = false := by rw [beq_eq_false_iff_ne]; exact hov
  rcases Lp.of_eq (w := ⟨way, ex⟩) hn he2 with ⟨h', -⟩ | ⟨-, -, x, hx, hof⟩
  · rcases h' with h' | h'
    · exact absurd h' he0
    · exact absurd h' hov
  rw [hof]
  obtain ⟨e, rfl⟩ : ∃ e : Nat, ex = e := ⟨ex.toNat, by omega⟩
  simp only at hx
  have hxe : p.sigs[e]? = some x := by
    unfold Cr.sigAt at hx
    rw [if_neg (by omega), Int.toNat_natCast] at hx
    exact hx
  have hel := (List.getElem?_eq_some_iff.1 hxe).1
  obtain ⟨b, o, rfl, hb, on⟩ := HI.out.2.at hlt
  obtain ⟨b', o', hbo, -, on'⟩ := HI.out.2.at hel
  cases hbo
  rw [(List.getElem?_eq_some_iff.1 hx1).2] at on
  rw [(List.getElem?_eq_some_iff.1 hxe).2] at on'
  obtain ⟨-, b1, -⟩ := sig_on on
  obtain ⟨a0, a1, a2⟩ := sig_on on'
  rw [show k * LSig.m = k * 3 from rfl] at b1
  rw [show e * LSig.m = e * 3 from rfl] at a0 a1 a2
  clear on on' hn hx1 hx hxe hof he he0 he2 hov hlt
  obtain ⟨xn, xs, xe⟩ := x
  simp only at a0 a1 a2
  have i0 : (0 : Int) ≤ (e : Int) := Int.natCast_nonneg e
  have i1 : (e : Int) < (p.sigs.length : Int) := by omega
  have i2 : (0 : Int) ≤ (k : Int) := Int.natCast_nonneg k
  have i3 : (k : Int) < (p.sigs.length : Int) := by omega
  have hsg := Lib.hid hel
  clear hel
  generalize hwB : (w.alloc (planO p A c (some ⟨b, o, none⟩) c')).alloc (wayO Aw way.length cw e) = wB at *
  have hz : wB.heap.size = w.heap.size + 1 + 1 := by rw [← hwB]; simp
  have HX := Lib.hid (show (wB.alloc (.cells #[.string (txt xn), .int .i64 xs, .int .i64 xe] 42)).heap[w.heap.size + 1 + 1]? = some (.cells #[.string (txt xn), .int .i64 xs, .int .i64 xe] 42) from by rw [← hz]; exact heap_alloc_new wB _)
  clear hz
  have TX := Lib.hid ((Below.refl wB.heap.size wB).alloc (Nat.le_refl _) (.cells #[.string (txt xn), .int .i64 xs, .int .i64 xe] 42))
  subst hwB
  go_enter Try.func11, Try.ntmps11
  go_upto_region 6 with fail
  clear a0 a1 a2
  generalize (w.alloc (planO p A c (some ⟨b, o, none⟩) c')).alloc (wayO Aw way.length cw e) = wB at *
  generalize wB.alloc (.cells #[.string (txt xn), .int .i64 xs, .int .i64 xe] 42) = w2 at HX TX ⊢
  generalize w.heap.size + 1 + 1 = g2 at HX ⊢
  have KI := Lib.hid (fun W (hW : Below w2.heap.size w2 W) => HI.out.below (TX.out.trans (hW.mono TX.out.size)))
  have HW2 := Lib.hid (HW.out.below rfl TX.out)
  have B2 := Lib.hid (X0.out.trans (TX.out.mono X0.out.size))
  have RP2 := Lib.hid ((TX.out.block _ gp).trans RP.out)
  have RY2 := Lib.hid ((TX.out.block _ gy).trans RY.out)
  have c1 := (TX.out.cell (p := ⟨b, o + k * 3 + 1, none⟩) hb).trans b1
  have gx2 := (Array.getElem?_eq_some_iff.1 HX.out).1
  clear p0 p1 p2 p3 p4 p5 gp y0 y1 gy b1 hb HI HW RP RY X0 TX
  obtain ⟨⟨p0, p1, p2, p3, p4, p5⟩, -, gp⟩ := row6 RP2.out
  obtain ⟨⟨y0, y1⟩, -, gy⟩ := rowY RY2.out
  obtain ⟨⟨t0, t1, t2⟩, -, -⟩ := row3 HX.out
  have HL := Lib.hid (heap_alloc_new w2 (.cells #[.int .i64 p.ov, .int .i64 p.ap, .int .i64 p.se, .int .i64 p.ho, .slice A p.secs.length c, .slice (some ⟨b, o, none⟩) p.sigs.length c', .int .i64 x1.sec, .slice Aw way.length cw, .int .i64 0] 74))
  have TL := Lib.hid ((Below.refl w2.heap.size w2).alloc (Nat.le_refl _) (.cells #[.int .i64 p.ov, .int .i64 p.ap, .int .i64 p.se, .int .i64 p.ho, .slice A p.secs.length c, .slice (some ⟨b, o, none⟩) p.sigs.length c', .int .i64 x1.sec, .slice Aw way.length cw, .int .i64 0] 74))
  go_region
  go_upto_region 7 with fail
  clear p0 p1 p2 p3 p4 p5 y0 y1 t0 t1 t2 c1 gy RY2
  generalize w2.alloc (.cells #[.int .i64 p.ov, .int .i64 p.ap, .int .i64 p.se, .int .i64 p.ho, .slice A p.secs.length c, .slice (some ⟨b, o, none⟩) p.sigs.length c', .int .i64 x1.sec, .slice Aw way.length cw, .int .i64 0] 74) = w3a at HL TL ⊢
  have TL3 := Lib.hid TL.out.drew
  have HL3 := Lib.hid (show w3a.drew.heap[w2.heap.size]? = some (.cells #[.int .i64 p.ov, .int .i64 p.ap, .int .i64 p.se, .int .i64 p.ho, .slice A p.secs.length c, .slice (some ⟨b, o, none⟩) p.sigs.length c', .int .i64 x1.sec, .slice Aw way.length cw, .int .i64 0] 74) from HL.out)
  clear TL HL
  generalize w3a.drew = w3 at HL3 TL3 ⊢
  generalize hg3 : w2.heap.size = g3 at HL3 ⊢
  have HG3 := Lib.hid (Nat.le_of_eq hg3)
  clear hg3
  have HLK := Lib.hid (fun W (hW : Below w3.heap.size w3 W) => show LookAt p A c (some ⟨b, o, none⟩) c' x1.sec (.slice Aw way.length cw) g3 w2 W 0 from ⟨TL3.out.trans (hW.mono TL3.out.size), HG3.out, (hW.block _ (Array.getElem?_eq_some_iff.1 HL3.out).1).trans HL3.out⟩)
  obtain ⟨⟨p0, p1, p2, p3, p4, p5⟩, -, -⟩ := row6 ((TL3.out.block _ gp).trans RP2.out)
  obtain ⟨⟨t0, t1, t2⟩, -, -⟩ := row3 ((TL3.out.block _ gx2).trans HX.out)
  have CN := Lib.hid (fun W (hb : Below w2.heap.size w2 W) => rwNext_any p A c (some ⟨b, o, none⟩) c' xs xe W (KI.out W hb))
  have HFM := Lib.hid (And.intro hf hm)
  have hin := fun h => Lp.next_in hf (s := xs) (e := xe) h
  have HWL := Lib.hid hwl
  have P1 := Lib.hid (show Lp.ofSig p x1.sec way ⟨xn, xs, xe⟩ = if (Wk.next p xs xe).2.2 then (if 400 < (Lp.enter p x1.sec way 16 (Wk.next p xs xe).1 (Wk.next p xs xe).2.1 [] 0 0).2 then ([], 10) else ((Lp.enter p x1.sec way 16 (Wk.next p xs xe).1 (Wk.next p xs xe).2.1 [] 0 0).1.getD [], 0)) else ([], 0) from rfl)
  clear hf hm hwl
  generalize hnx : Wk.next p xs xe = nx at CN hin P1
  obtain ⟨n1, n2, n3⟩ := nx
  clear hnx
  go_wp2_with fail
  refine (CN.out _ TL3.out).mono ?_; rintro e' w4 ⟨rfl, hb4⟩
  clear p0 p1 p2 p3 p4 p5 t0 t1 t2 CN
  have B4 := Lib.hid hb4
  clear hb4
  cases n3 with
  | false =>
    have FIN := Lib.hid (show LapYes (Lp.ofSig p x1.sec way ⟨xn, xs, xe⟩) w (.returned (.tuple #[.slice none 0 0, .int .i64 0])) w4 from by
      rw [P1.out]
      exact LapYes.nil 0 (B2.out.trans ((TL3.out.trans (B4.out.mono TL3.out.size)).mono B2.out.size)))
    go_wp2_with fail
    refine bodyPost_ret ?_ rfl FIN.out
    simp [results, Try.results11, go_sem]
  | true =>
    obtain ⟨i4, f4, hi4, hl4, -, -⟩ := hin rfl
    have CE := Lib.hid (rlEnter_any (g := g3) (KI.out _ (Below.refl _ _)) HFM.out.1 HFM.out.2 HW2.out HWL.out 16 n1 n2 [] none 0 0 0 w4 (HLK.out _ B4.out) (World.ownsRow_nil _ _ _ _) (fun _ => ⟨rfl, rfl⟩) rfl (by decide) ⟨i4, hi4, hl4⟩ ⟨Int.le_refl _, by simp⟩)
    have P2 := Lib.hid (show Lp.ofSig p x1.sec way ⟨xn, xs, xe⟩ = (if 400 < (Lp.enter p x1.sec way 16 n1 n2 [] 0 0).2 then ([], 10) else ((Lp.enter p x1.sec way 16 n1 n2 [] 0 0).1.getD [], 0)) from P1.out)
    clear hin hi4 hl4 P1
    have hel := (Lp.enter_le p x1.sec way 16 n1 n2 [] 0 0).2
    generalize Lp.enter p x1.sec way 16 n1 n2 [] 0 0 = r at CE P2 hel
    obtain ⟨ro, m⟩ := r
    have CI := Lib.hid (show Calls Try.prog 25 #[.pointer (some ⟨g3, 0, none⟩), .int .i64 n1, .int .i64 n2, .slice none 0 0, .int .i64 0] w4 (fun e w' => ∃ B d, e = .returned (.tuple #[.slice B (ro.getD []).length d, .bool ro.isSome]) ∧ OwnS w2.heap.size w' B d (ro.getD []) ∧ LookAt p A c (some ⟨b, o, none⟩) c' x1.sec (.slice Aw way.length cw) g3 w2 w' m ∧ LTame w4 w') from CE.out)
    clear CE
    have P3 := Lib.hid (show Lp.ofSig p x1.sec way ⟨xn, xs, xe⟩ = (if 400 < m then ([], 10) else (ro.getD [], 0)) from P2.out)
    clear P2 hel
    generalize ro.getD [] = l at CI P3
    generalize ro.isSome = ok at CI
    go_wp2_with fail
    refine CI.out.mono ?_; rintro e' w5 ⟨B, d, rfl, ho5, hl5, -⟩
    obtain ⟨⟨-, -, -, -, -, -, -, -, r8⟩, -, gg⟩ := row9 hl5.2.2
    have HO5 := Lib.hid ho5
    have B5 := Lib.hid (B2.out.trans (hl5.1.mono B2.out.size))
    clear ho5 hl5
    by_cases h4 : 400 < m
    · have D : decide (400 < (m : Int)) = true := dec_t (by omega)
      have FIN := Lib.hid (show LapYes (Lp.ofSig p x1.sec way ⟨xn, xs, xe⟩) w (.returned (.tuple #[.slice none 0 0, .int .i64 10])) w5 from by
        rw [P3.out, if_pos h4]
        exact LapYes.nil 10 B5.out)
      clear h4
      go_wp2_with fail
      refine bodyPost_ret ?_ rfl FIN.out
      simp [results, Try.results11, go_sem]
    · have D : decide (400 < (m : Int)) = false := dec_f (by omega)
      have FIN := Lib.hid (show LapYes (Lp.ofSig p x1.sec way ⟨xn, xs, xe⟩) w (.returned (.tuple #[.slice B l.length d, .int .i64 0])) w5 from by
        rw [P3.out, if_neg h4]
        obtain ⟨-, B', d', hv, hc, hS⟩ := TRow.of_own (E := LStp) HO5.out
        cases hv
        exact ⟨B, d, rfl, hS, hc, B5.out⟩)
      clear h4
      go_wp2_with fail
      refine bodyPost_ret ?_ rfl FIN.out
      simp [results, Try.results11, go_sem]
theorem rlOf_any (p : Pl.Plan) (hf : Pl.Fit p) (hm : Lp.Meas p) (A : Option Addr) (c : Nat) (A' : Option Addr) (c' : Nat) (i : Int) (y : Cr.Way) (Aw : Option Addr) (cw : Nat) (w : World) (h : PlanIn w p A A') (hway : LStp.Row w Aw y.steps) (hwl : y.steps.length ≤ 1000) :
    Calls Try.prog 11 #[planV p A c A' c', .int .i64 i, wayV Aw cw y] w (LapYes (Lp.of p i y) w) := rlOf_go p hf hm A c A' c' i y.steps y.exit Aw cw w h hway hwl
end Go.Proofs.Ytfmpjljddfaggaa
/-
  The walk of the document's answer of layer 8: how long steps are.
-/
namespace Go.Proofs.Ytfmpjljddfaggaa
open Go.RowKit

theorem Lp.len_take {p : Pl.Plan} {L : List Wk.Stp} {k : Nat} {y : Wk.Stp} (h : L[k]? = some y) : Lp.len p (L.take (k + 1)) = Lp.len p (L.take k) + Lp.secLen p y.s := by
  rw [List.take_add_one, h]
  exact Lp.len_snoc p _ y
set_option maxHeartbeats 8000000 in
set_option maxRecDepth 100000 in
theorem rlLength_any (p : Pl.Plan) (hm : Lp.Meas p) (A : Option Addr) (c : Nat) (A' : Option Addr) (c' : Nat) (L : List Wk.Stp) (B : Option Addr) (d : Nat) (w : World) (h : PlanIn w p A A') (hL : LStp.Row w B L) (hl : L.length ≤ 1000) :
    Calls Try.prog 14 #[planV p A c A' c', .slice B L.length d] w fun e w' => e = .returned (.int .i64 (Lp.len p L)) ∧ Below w.heap.size w w' := by
  --[
  have XA := (Below.refl w.heap.size w).alloc (Nat.le_refl _) (planO p A c A' c')
  have X0 := Lib.hid XA
  have RP := Lib.hid (heap_alloc_new w (planO p A c A' c'))
  have gp := (Array.getElem?_eq_some_iff.1 RP.out).1
  have HI := Lib.hid (h.below XA)
  have HL := Lib.hid (hL.below rfl XA)
  have KP := Lib.hid (fun W (hW : Below (w.alloc (planO p A c A' c')).heap.size (w.alloc (planO p A c A' c')) W) => (row6 ((hW.block _ gp).trans RP.out)).1)
  have T0 := Lib.hid (Below.refl (w.alloc (planO p A c A' c')).heap.size (w.alloc (planO p A c A' c')))
  have HM := Lib.hid hm
  clear XA h hL hm
  go_enter Try.func14, Try.ntmps14
  go_upto_region 2 with fail
  generalize w.alloc (planO p A c A' c') = w1 at X0 RP gp HI HL KP T0 ⊢
  go_wp2_with fail
  go_loopw [5, 6] (fun v1 v2 w' => ∃ k : Nat, k ≤ L.length ∧ v1 = .int .i64 (Lp.len p (L.take k)) ∧ v2 = .int .i64 k ∧ Below w1.heap.size w1 w') (fun _ v2 _ => L.length - (intOf v2).toNat)
  case atStart => exact ⟨0, Nat.zero_le _, rfl, rfl, T0.out⟩
  case round =>
    obtain ⟨k, hk, rfl, rfl, hB⟩ := hrel
    have HB := Lib.hid hB
    clear hB
    by_cases hlt : k < L.length
    · have hy := List.getElem?_eq_getElem hlt
      obtain ⟨b1, o1, rfl, g1, on⟩ := (HL.out.below rfl HB.out).at hlt
      generalize L[k] = y at hy on
      obtain ⟨r0, -, -⟩ := stp_on on
      rw [show k * LStp.m = k * 3 from rfl] at r0
      have d1 : decide ((k : Int) < (L.length : Int)) = true := dec_t (by omega)
      have HN := Lib.hid (Lp.len_take (p := p) hy)
      obtain ⟨p0, p1, p2, p3, p4, p5⟩ := KP.out _ HB.out
      have hlb := Lp.len_bd HM.out (L.take k)
      have htk : (L.take k).length ≤ 1000 := by rw [List.length_take]; omega
      have hsb := Lp.secLen_bd HM.out y.s
      clear hy on
      obtain ⟨s, f, t⟩ := y
      simp only at r0 hsb HN
      rcases Wk.sec_ways p s with ⟨hs, hn⟩ | ⟨i, rfl, ⟨hs, hn⟩ | ⟨x, hx, hn⟩⟩
      · have D0 : decide (0 ≤ s) = false := dec_f (by omega)
        have E : Lp.secLen p s = 0 := by unfold Lp.secLen; rw [hn]
        rw [E, Int.add_zero] at HN
        clear hs hn hlb htk hsb E
        go_upto_region 5 with fail
        go_quiet (fail)
        go_wp2_with fail
        go_roundw
        case rel => exact ⟨k + 1, by omega, by rw [HN.out], by go_num, below_drewN HB.out _⟩
        case measure => simp [intOf]; omega
      · have D0 : decide (0 ≤ (i : Int)) = true := dec_t (by omega)
        have D1 : decide ((i : Int) < (p.secs.length : Int)) = false := dec_f (by omega)
        have N1 : ¬ i < p.secs.length := by omega
        have E : Lp.secLen p (i : Int) = 0 := by unfold Lp.secLen; rw [hn]
        rw [E, Int.add_zero] at HN
        clear hs hn hlb htk hsb E
        go_upto_region 5 with fail
        go_quiet (fail)
        go_wp2_with fail
        go_roundw
        case rel => exact ⟨k + 1, by omega, by rw [HN.out], by go_num, below_drewN HB.out _⟩
        case measure => simp [intOf]; omega
      · have hil := (List.getElem?_eq_some_iff.1 hx).1
        have D0 : decide (0 ≤ (i : Int)) = true := dec_t (by omega)
        have D1 : decide ((i : Int) < (p.secs.length : Int)) = true := dec_t (by omega)
        have i0 : (0 : Int) ≤ (i : Int) := Int.natCast_nonneg i
        have i1 : (i : Int) < (p.secs.length : Int) := by omega
        obtain ⟨bS, oS, rfl, gS, onS⟩ := sec_cells (HI.out.below HB.out).1 hx
        have onl := (sec_on onS).2.2.1
        rw [show x.len = Lp.secLen p (i : Int) from (Lp.secLen_at hx).symm] at onl
        have q : IntKind.i64.wrap (Lp.len p (L.take k) + Lp.secLen p (i : Int)) = Lp.len p (L.take k) + Lp.secLen p (i : Int) := IntWalk.i64_in _ (by omega)
        rw [← HN.out] at q
        have HE := Lib.hid (show Lp.len p (L.take k) + Lp.secLen p (i : Int) = Lp.len p (L.take (k + 1)) from HN.out.symm)
        rw [← HE.out] at q
        generalize Lp.secLen p (i : Int) = sl at onl q HE
        clear hn hx hlb htk hsb onS HN
        go_upto_region 5 with fail
        go_quiet (fail)
        go_wp2_with fail
        go_quiet (fail)
        go_wp2_with fail
        go_roundw
        case rel => exact ⟨k + 1, by omega, by rw [HE.out], by go_num, below_drewN HB.out _⟩
        case measure => simp [intOf]; omega
    · obtain rfl : k = L.length := by omega
      have d1 : decide ((L.length : Int) < (L.length : Int)) = false := dec_f (by omega)
      rw [List.take_length]
      go_wp2_with fail
      go_ret
      exact ⟨rfl, X0.out.trans (HB.out.mono X0.out.size)⟩
  --]
end Go.Proofs.Ytfmpjljddfaggaa
/-
  Steps that later ways share while they are looked for: append behind a row that others read, too; the program's search in memory. No function of the program is named here.
-/
namespace Go.Proofs.Ytfmpjljddfaggaa
open Go.RowKit

/-- append, and what lay there stays: the new row lies behind the old one's elements, or in a new block. -/
theorem run_append_keeps {P : Program} (w : World) (base : Nat) (t ty e : TypeId) (i : TypeInfo) (z : Value) (size bytes : Nat) (ht : P.underlying t = some (.slice e)) (hi : P.info? e = some i) (hz : i.zero = some z)
    (hsize : i.size = size) (hby : i.bytes = bytes) (hzs : z.cells.size = size)
    (v : Value) (n : Nat) (xs : List Value) (hown : w.ownsRow base e size v n xs)
    (a : Addr) (m c : Nat) (news : List Value) (hl : news.length = m * size) (hnews : ∀ j u, news[j]? = some u → w.cell? (a.add j) = some u) (h1 : ∀ u ∈ news, u.oneCell' = true)
    (hm : 0 < m) (h63 : n + m ≤ maxLen) (hbytes : (n + m) * bytes ≤ 140737488355328) (hbase : base ≤ w.heap.size) :
    ∃ g cap w', (Builtin.append_ #[t, t] ty #[v, .slice (some a) m c]).run P w = .ok (.slice (some ⟨g, 0, none⟩) (n + m) cap) w' ∧
      w'.ownsRow base e size (.slice (some ⟨g, 0, none⟩) (n + m) cap) (n + m) (xs ++ news) ∧ w'.ownsRow base e size v n xs ∧
      ((v = .slice (some ⟨g, 0, none⟩) n cap ∧ w.grownBy w' (some g)) ∨ (g = w.heap.size ∧ w.grownBy w' none)) := by
  subst hsize
  subst hby
  have hsmall : n + m ≤ 9223372036854775807 := by simp only [maxLen] at h63; omega
  have hlen : (xs ++ news).length = (n + m) * i.size := by rw [List.length_append, hown.1, hl, Nat.add_mul]
  have grown : ∀ (old : Nat), old < n + m →
      (w.drew.alloc (.cells (xs.toArray ++ news.toArray ++ Builtin.zeroCells z.cells (grownCap w (n + m) old e - (n + m))) e)).ownsRow base e i.size
        (.slice (some ⟨w.heap.size, 0, none⟩) (n + m) (grownCap w (n + m) old e)) (n + m) (xs ++ news) ∧
      w.grownBy (w.drew.alloc (.cells (xs.toArray ++ news.toArray ++ Builtin.zeroCells z.cells (grownCap w (n + m) old e - (n + m))) e)) none := by
    intro old ho
    have hge := grownCap_ge w (n + m) old e
    have hcm : grownCap w (n + m) old e ≤ maxLen := grownCap_le_maxLen w (n + m) old e h63
    refine ⟨⟨hlen, .inr ⟨w.heap.size, _, _, rfl, hbase, heap_alloc_new w.drew _, hge, hcm, ?_, ?_⟩⟩, ⟨rfl, rfl, rfl, by simp, fun k hk _ => heap_alloc_old w.drew _ hk⟩⟩
    · simp only [Array.size_append, List.size_toArray, size_zeroCells, hzs, hown.1, hl, ← Nat.add_mul]
      congr 1
      omega
    · simp only [Array.toList_append, List.append_assoc]
      rw [← List.append_assoc, ← hlen]
      exact List.take_left
  rcases hown.2 with ⟨rfl, rfl⟩ | ⟨g, cap, cur, rfl, hbg, hg, hnc, hcm, hcs, htake⟩
  · have hx : xs = [] := List.eq_nil_of_length_eq_zero (by simpa using hown.1)
    subst hx
    have hr := run_append_nil (P := P) w t ty e i z ht hi hz a m c news hl hnews (by omega) (by omega) (by have hb := hbytes; simp only [Nat.zero_add] at hb; omega)
    have hgr := grown 0 (by omega)
    simp only [Nat.zero_add, List.nil_append, Array.empty_append] at hgr ⊢
    exact ⟨_, _, _, hr, hgr.1, World.ownsRow_nil _ _ _ _, .inr ⟨rfl, hgr.2⟩⟩
  · by_cases hroom : n + m ≤ cap
    · have hfit : n * i.size + news.length ≤ cur.size := by rw [hl, hcs, ← Nat.add_mul]; exact Nat.mul_le_mul_right _ hroom
      have hr := run_append_room (P := P) w t ty e i ht hi g n cap cur hg a m c news hl hnews h1 hroom hfit
      have hs : (cur.toList.take (n * i.size) ++ news ++ cur.toList.drop (n * i.size + news.length)).toArray.size = cap * i.size := by
        simp only [List.size_toArray, List.length_append, List.length_take, List.length_drop, Array.length_toList]
        omega
      refine ⟨g, cap, _, hr, ⟨hlen, .inr ⟨g, cap, _, rfl, hbg, setRow_heap w g cur _ e _ hg, hroom, hcm, hs, ?_⟩⟩, ⟨hown.1, .inr ⟨g, cap, _, rfl, hbg, setRow_heap w g cur _ e _ hg, hnc, hcm, hs, ?_⟩⟩, .inl ⟨rfl, rfl, rfl, rfl, by simp, fun k _ hk => setRow_other w g k _ (fun e => hk (by simp [e]))⟩⟩
      · rw [htake, ← hlen]
        exact List.take_left
      · show (cur.toList.take (n * i.size) ++ news ++ cur.toList.drop (n * i.size + news.length)).take (n * i.size) = xs
        rw [htake, List.append_assoc, ← hown.1]
        exact List.take_left
    · have hlie : ∀ j u, xs[j]? = some u → w.cell? ((⟨g, 0, none⟩ : Addr).add j) = some u := hown.cells (g := g) rfl
      have hr := run_append_grow (P := P) w t ty e i z ht hi hz ⟨g, 0, none⟩ n cap xs hown.1 hlie a m c news hl hnews (by omega) (by omega) (growslice_fits (by omega) hbytes)
      have hgr := grown cap (by omega)
      exact ⟨_, _, _, hr, hgr.1, hown.kept hgr.2 (.inr (by simp [Value.ownBlock])), .inr ⟨rfl, hgr.2⟩⟩
/-- .. for the walk. -/
theorem wpList_append_keeps {α : Type} (E : Lies α) {P : Program} (w : World) {ops : Array Oper} {rest : List Oper} {o : Oper} {a : Act} {Q : Exit → Act → World → Prop} (hgd : o.guard = none) (s x : Operand) (t : TypeId)
    (ho : o.op = .call { callee := .builtin .append, args := #[s, x], argTypes := #[t, t] })
    (base : Nat) (e : TypeId) (i : TypeInfo) (z : Value) (bytes : Nat) (ht : P.underlying t = some (.slice e)) (hi : P.info? e = some i) (hz : i.zero = some z)
    (hsize : i.size = E.m) (hby : i.bytes = bytes) (hzs : z.cells.size = E.m)
    (v : Value) (n : Nat) (xs : List Value) (hs : a.eval s = v) (hown : w.ownsRow base e E.m v n xs)
    (A : Option Addr) (c m : Nat) (L : List α) (hm : L.length = m) (h0 : 0 < m) (hx : a.eval x = .slice A m c) (hI : E.Row w A L) (hn : n + m ≤ 1000000000) (hbytes : (n + m) * bytes ≤ 140737488355328) (hbase : base ≤ w.heap.size)
    (h : ∀ g cap w', w'.ownsRow base e E.m (.slice (some ⟨g, 0, none⟩) (n + m) cap) (n + m) (xs ++ E.all L) → w'.ownsRow base e E.m v n xs → ((v = .slice (some ⟨g, 0, none⟩) n cap ∧ w.grownBy w' (some g)) ∨ (g = w.heap.size ∧ w.grownBy w' none)) → wpList P ops Q rest (a.put o.dst (.slice (some ⟨g, 0, none⟩) (n + m) cap)) w') : wpList P ops Q (o :: rest) a w := by
  subst hm
  rcases hI with hI | ⟨b, off, rfl, _, hI⟩
  · subst hI; simp at h0
  refine wpList_plain hgd fun K hK => ?_
  obtain ⟨g, cap, w', hr, h2, h3, h4⟩ := run_append_keeps (P := P) w base t o.type e i z E.m bytes ht hi hz hsize hby hzs v n xs hown ⟨b, off, none⟩ L.length c (E.all L) (E.all_len L) (Lies.news hI) (E.all_single L) h0 (by unfold maxLen; omega) hbytes hbase
  unfold Oper.wp execOp
  simp only [ho, resolve, invoke, builtin, Sem.run_bind, Sem.run_pure, Result.andThen_ok, List.map_toArray, List.map_cons, List.map_nil, hs, hx, hr]
  exact hK _ _ (h g cap w' h2 h3 h4)

/-- The block of a slice. -/
def blk (A : Option Addr) : Option Nat := A.map Addr.block
theorem blk_own (A : Option Addr) (n c : Nat) : (Value.slice A n c).ownBlock = blk A := by cases A <;> rfl
/-- Blocks of other types than these two stay as they were, but for one. -/
structure Seeks (tH tW : TypeId) (x : Option Nat) (w w' : World) : Prop where
  os : w'.os = w.os
  tape : w'.tape = w.tape
  output : w'.output = w.output
  size : w.heap.size ≤ w'.heap.size
  block : ∀ (b : Nat) (cs : Array Value) (t : TypeId) (fr : Nat × Nat), w.heap[b]? = some (Obj.cells cs t fr) → t ≠ tH → t ≠ tW → some b ≠ x → w'.heap[b]? = some (Obj.cells cs t fr)
theorem Seeks.refl (tH tW : TypeId) (x : Option Nat) (w : World) : Seeks tH tW x w w := ⟨rfl, rfl, rfl, Nat.le_refl _, fun _ _ _ _ h _ _ _ => h⟩
theorem Seeks.trans {tH tW : TypeId} {x : Option Nat} {a b c : World} (h : Seeks tH tW x a b) (h' : Seeks tH tW x b c) : Seeks tH tW x a c :=
  ⟨h'.os.trans h.os, h'.tape.trans h.tape, h'.output.trans h.output, Nat.le_trans h.size h'.size, fun k cs t fr hk h1 h2 h3 => h'.block k cs t fr (h.block k cs t fr hk h1 h2 h3) h1 h2 h3⟩
theorem Tame.seeks {tH tW : TypeId} {w w' : World} (h : Tame tH tW w w') (x : Option Nat) : Seeks tH tW x w w' := ⟨h.os, h.tape, h.output, h.size, fun b cs t fr hb h1 h2 _ => h.block b cs t fr hb h1 h2⟩
/-- A block that wasn't there before needs no leave. -/
theorem Seeks.new {tH tW : TypeId} {x y : Option Nat} {w w1 w2 : World} (h1 : Seeks tH tW x w w1) (h2 : Seeks tH tW y w1 w2) (hy : ∀ k, y = some k → w.heap.size ≤ k ∨ x = some k) : Seeks tH tW x w w2 :=
  ⟨h2.os.trans h1.os, h2.tape.trans h1.tape, h2.output.trans h1.output, Nat.le_trans h1.size h2.size, fun b cs t fr hb e1 e2 e3 => h2.block b cs t fr (h1.block b cs t fr hb e1 e2 e3) e1 e2 (fun e4 => by
    rcases hy b e4.symm with h | h
    · have := (Array.getElem?_eq_some_iff.1 hb).1; omega
    · exact e3 h.symm)⟩
theorem grown_seeks {tH tW : TypeId} {x : Option Nat} {w w' : World} (hg : w.grownBy w' x) : Seeks tH tW x w w' :=
  ⟨hg.os, hg.tape, hg.output, hg.size, fun b cs t fr hb _ _ h3 => by rw [hg.block b (Array.getElem?_eq_some_iff.1 hb).1 h3]; exact hb⟩
theorem own_seeks {tH tW : TypeId} {x : Option Nat} {w w' : World} {base : Nat} {e : TypeId} {size : Nat} {v : Value} {n : Nat} {xs : List Value} (h : w.ownsRow base e size v n xs) (ht : Seeks tH tW x w w') (h1 : e ≠ tH) (h2 : e ≠ tW) (h3 : ∀ k, v.ownBlock = some k → x ≠ some k) : w'.ownsRow base e size v n xs := by
  refine ⟨h.1, ?_⟩
  rcases h.2 with hn | ⟨g, cap, cur, rfl, hb, hg, rest⟩
  · exact .inl hn
  · exact .inr ⟨g, cap, cur, rfl, hb, ht.block g cur e (0, 0) hg h1 h2 (fun e2 => h3 g rfl e2.symm), rest⟩
/-- The first elements of a row, at the same capacity. -/
theorem own_prefix {w : World} {base : Nat} {e : TypeId} {size : Nat} {A : Option Addr} {n m c : Nat} {xs ys : List Value} (h : w.ownsRow base e size (.slice A (n + m) c) (n + m) (xs ++ ys)) (hl : xs.length = n * size) (hm : 0 < m) : w.ownsRow base e size (.slice A n c) n xs := by
  refine ⟨hl, ?_⟩
  rcases h.2 with ⟨-, h0⟩ | ⟨g, cap, cur, hv, hb, hg, hc, hx, hs, ht⟩
  · omega
  · cases hv
    refine .inr ⟨g, c, cur, rfl, hb, hg, by omega, hx, hs, ?_⟩
    have := congrArg (List.take (n * size)) ht
    rw [List.take_take, Nat.min_eq_left (Nat.mul_le_mul_right _ (Nat.le_add_right _ _)), ← hl, List.take_left] at this
    rw [← hl]
    exact this
/-- Steps lie in another block than the ways' that were found. -/
def Offside (B : Option Addr) (M : List WayM) : Prop := ∀ m ∈ M, ∀ k, blk m.A = some k → blk B ≠ some k
/-- Ways whose steps lie in blocks that weren't there. -/
def Later (n : Nat) (M : List WayM) : Prop := ∀ m ∈ M, ∀ k, blk m.A = some k → n ≤ k
theorem Later.nil (n : Nat) : Later n [] := fun _ h => by cases h
theorem Later.append {n : Nat} {M N : List WayM} (h : Later n M) (h' : Later n N) : Later n (M ++ N) := fun m hm => by
  rcases List.mem_append.1 hm with hm | hm
  · exact h m hm
  · exact h' m hm
theorem Later.mono {n k : Nat} {M : List WayM} (h : Later n M) (hk : k ≤ n) : Later k M := fun m hm j hj => Nat.le_trans hk (h m hm j hj)
theorem Offside.append {B : Option Addr} {M N : List WayM} (h : Offside B M) (h' : Offside B N) : Offside B (M ++ N) := fun m hm => by
  rcases List.mem_append.1 hm with hm | hm
  · exact h m hm
  · exact h' m hm
theorem own_lt {w : World} {base : Nat} {A : Option Addr} {c : Nat} {L : List Wk.Stp} (h : OwnS base w A c L) : ∀ k, blk A = some k → base ≤ k ∧ k < w.heap.size := fun k hk => by
  have hv : (Value.slice A L.length c).ownBlock = some k := (blk_own _ _ _).trans hk
  exact h.lt k hv
theorem Offside.of_own {w : World} {base : Nat} {B : Option Addr} {M : List WayM} (hM : ∀ m ∈ M, OwnS base w m.A m.c m.way.steps) (hB : ∀ k, blk B = some k → w.heap.size ≤ k) : Offside B M := fun m hm k hk hb => by
  have h1 := (own_lt (hM m hm) k hk).2
  have h2 := hB k hb
  omega
end Go.Proofs.Ytfmpjljddfaggaa
/-
  The walks of the program's layer 7: a clone of steps, the steps through a section as a row of the call's own, a search in memory.
-/
namespace Go.Proofs.Ytfmpjljddfaggaa
open Go.RowKit

set_option maxHeartbeats 8000000 in
set_option maxRecDepth 100000 in
theorem pwOuts_own (p : Pl.Plan) (A : Option Addr) (c : Nat) (A' : Option Addr) (c' : Nat) (s f : Int) (w : World) (h : PlanIn w p A A') (_hl : p.secs.length ≤ 24) :
    Calls Try.prog 36 #[planV p A c A' c', .int .i64 s, .int .i64 f] w (StepsOwn (Wk.outs p s f) w) := by
  --[
  obtain ⟨i0, hi, hz0, hz1, hz2⟩ := info_parts infoStp
  have R0 := heap_alloc_new w (planO p A c A' c')
  have XX := (Below.refl w.heap.size w).alloc (Nat.le_refl _) (planO p A c A' c')
  have X0 := Lib.hid XX
  obtain ⟨⟨p0, p1, p2, p3, p4, p5⟩, -, gp⟩ := row6 R0
  have EN := Lib.hid (pwEnds_any p A c A' c' s _ (h.below XX))
  have hle := endsAt_le p s
  rw [outs_ends]
  clear R0 XX h
  generalize endsAt p s = q at EN hle
  obtain ⟨x, n⟩ := q
  simp only at hle
  simp only
  by_cases h0 : f < 0
  · have D2 : decide (f < 0) = true := dec_t h0
    rw [if_pos (.inl h0)]
    clear h0
    go_enter Try.func36, Try.ntmps36
    go_wp2_with fail
    refine EN.out.mono ?_; rintro e w1 ⟨rfl, hb1⟩
    have B1 := Lib.hid ((X0.out.trans (hb1.mono X0.out.size)).alloc (X0.out.trans (hb1.mono X0.out.size)).size (wkEO x))
    clear p0 p1 p2 p3 p4 p5 hb1 EN
    go_wp2_with fail
    go_ret
    exact ⟨none, 0, rfl, World.ownsRow_nil _ _ _ _, B1.out⟩
  have D2 : decide (f < 0) = false := dec_f h0
  by_cases h2 : (n : Int) ≤ f
  · have D3 : decide ((n : Int) ≤ f) = true := dec_t h2
    rw [if_pos (.inr h2)]
    clear h0 h2
    go_enter Try.func36, Try.ntmps36
    go_wp2_with fail
    refine EN.out.mono ?_; rintro e w1 ⟨rfl, hb1⟩
    have B1 := Lib.hid ((X0.out.trans (hb1.mono X0.out.size)).alloc (X0.out.trans (hb1.mono X0.out.size)).size (wkEO x))
    clear p0 p1 p2 p3 p4 p5 hb1 EN
    go_wp2_with fail
    go_ret
    exact ⟨none, 0, rfl, World.ownsRow_nil _ _ _ _, B1.out⟩
  have D3 : decide ((n : Int) ≤ f) = false := dec_f h2
  rw [if_neg (by omega)]
  by_cases h1 : 0 < f
  · have D4 : decide (0 < f) = true := dec_t h1
    rw [if_pos h1]
    clear h0 h2 h1
    go_enter Try.func36, Try.ntmps36
    go_wp2_with fail
    refine EN.out.mono ?_; rintro e w1 ⟨rfl, hb1⟩
    have B1 := Lib.hid ((X0.out.trans (hb1.mono X0.out.size)).alloc (X0.out.trans (hb1.mono X0.out.size)).size (wkEO x))
    clear p0 p1 p2 p3 p4 p5 hb1 EN
    go_wp2_with fail
    go_ret
    exact ⟨_, _, rfl, own_one (w1.alloc (wkEO x)) ⟨s, f, 0⟩ (by simp) (by have := B1.out.size; simpa using this), B1.out.alloc B1.out.size _⟩
  · have D4 : decide (0 < f) = false := dec_f h1
    rw [if_neg h1]
    obtain rfl : f = 0 := by omega
    have hn1 : 1 ≤ n := by omega
    clear h0 h2 h1
    go_enter Try.func36, Try.ntmps36
    go_wp2_with fail
    refine EN.out.mono ?_; rintro e w1 ⟨rfl, hb1⟩
    have B1 := Lib.hid ((X0.out.trans (hb1.mono X0.out.size)).alloc (X0.out.trans (hb1.mono X0.out.size)).size (wkEO x))
    clear p0 p1 p2 p3 p4 p5 hb1 EN
    go_wp2_with fail
    go_loopw [9, 10] (fun v i wr => ∃ k : Nat, k + 1 ≤ n ∧ i = .int .i64 ((k + 1 : Nat) : Int) ∧ LegSt w wr v (legsTo s k)) (fun _ i _ => n - (intOf i).toNat)
    case atStart => exact ⟨0, hn1, rfl, B1.out, World.ownsRow_nil _ _ _ _⟩
    case round =>
      clear B1
      obtain ⟨k, hk, rfl, hS⟩ := hrel
      have HS := Lib.hid hS
      have hS1 := hS.1.size
      have hlen := legsTo_len s k
      clear hS
      by_cases hlt : k + 1 < n
      · have d1 : decide (((k + 1 : Nat) : Int) < (n : Int)) = true := dec_t (by omega)
        have HN := Lib.hid (legsTo_succ s k)
        have HX := Lib.hid ((Below.refl wr.heap.size wr).alloc (Nat.le_refl _) (stpO ⟨s, 0, ((k + 1 : Nat) : Int)⟩))
        have NW := Lib.hid (row_one wr ⟨s, 0, ((k + 1 : Nat) : Int)⟩ rfl)
        have OW := Lib.hid (ownsRow_below HS.out.2 HX.out)
        go_wp2_with (at_builtin; refine wpList_append_row LStp _ rfl (.tmp 35) (.tmp 39) 23 rfl w.heap.size 47 i0 _ 24 Try.underlying23 hi hz0 hz1 hz2 rfl _ _ _ rfl OW.out (some ⟨wr.heap.size, 0, none⟩) 1 1 [⟨s, 0, ((k + 1 : Nat) : Int)⟩] rfl (by decide) rfl NW.out (by omega) (by omega) (by simp; omega) ?_; intro g1 cap1 w3 hown1 hg1 hb1)
        have H3 := Lib.hid (show LegSt w w3 (.slice (some ⟨g1, 0, none⟩) (k + 1) cap1) (legsTo s (k + 1)) from by
          refine ⟨(HS.out.1.trans (HX.out.mono HS.out.1.size)).grown hg1 (Nat.le_trans HS.out.1.size HX.out.size) (fun b hb => (OW.out.lt b hb).1), ?_⟩
          rw [hlen] at hown1
          rw [HN.out, LStp.all_append, List.length_append, hlen]
          exact hown1)
        clear hown1 hg1 hb1
        go_wp2_with fail
        go_roundw
        case rel => exact ⟨k + 1, by omega, by go_num, H3.out⟩
        case measure => simp [intOf]; omega
      · have d1 : decide (((k + 1 : Nat) : Int) < (n : Int)) = false := dec_f (by omega)
        obtain rfl : n = k + 1 := by omega
        obtain ⟨-, B, cp, rfl, -, -⟩ := Lies.Row.of_own HS.out.2
        go_wp2_with fail
        go_ret
        exact ⟨B, cp, rfl, HS.out.2, HS.out.1⟩
  --]

theorem set_ptame {w : World} {g i : Nat} {cs : Array Value} {tH tW : TypeId} {u : Value} (h : w.heap[g]? = some (.cells cs tH (0, 0))) : Tame tH tW w (w.setCell ⟨g, i, none⟩ u) := by
  have B := (Below.refl 0 w).setCell (p := ⟨g, i, none⟩) (Nat.zero_le _) u
  refine ⟨B.os, B.tape, B.output, B.size, fun b cs' t fr hb h1 _ => ?_⟩
  have hne : b ≠ g := fun e => by
    subst e
    rw [h] at hb
    cases hb
    exact h1 rfl
  rw [heap_setCell_other _ _ _ _ hne]
  exact hb
section
variable {p : Pl.Plan} {A : Option Addr} {c : Nat} {A' : Option Addr} {c' : Nat} {b : Int} {g : Nat} {w0 wr : World} {v : Value} {n : Nat} {M : List WayM}
end
end Go.Proofs.Ytfmpjljddfaggaa
