/-
  Texts of this claim, merged: LpRefC.
-/
import Derived.Test.YtbmmcmdopekccaaMg28
import Derived.Deep.RegionHeld3
/-
  The walks of the document's answers of layer 8: the overlap of a way, how long steps are.
-/
namespace Go.Proofs.Ytbmmcmdopekccaa
open Go.RowKit

theorem rlEnter_any {p : Pl.Plan} {A : Option Addr} {c : Nat} {A' : Option Addr} {c' : Nat} {b : Int} {g : Nat} {w0 : World} {way : List Wk.Stp} {Aw : Option Addr} {cw : Nat} (hI : PlanIn w0 p A A') (hf : Pl.Fit p) (hm : Lp.Meas p) (hway : LStp.Row w0 Aw way) (hwl : way.length ≤ 1000) :
    ∀ (k : Nat) (s f : Int) (st : List Wk.Stp) (B : Option Addr) (d : Nat) (sum : Int) (n : Nat) (wr : World), LookAt p A c A' c' b (.slice Aw way.length cw) g w0 wr n → OwnS w0.heap.size wr B d st → (st = [] → B = none ∧ d = 0) → st.length + k = 16 → n + 2 ^ (k + 1) ≤ 1000000 → (∃ i : Nat, s = i ∧ i < p.secs.length) → (0 ≤ sum ∧ sum ≤ (st.length : Int) * 1099511627776) →
      Calls Try.prog 66 #[.pointer (some ⟨g, 0, none⟩), .int .i64 s, .int .i64 f, .slice B st.length d, .int .i64 sum] wr (LookGives p A c A' c' b (.slice Aw way.length cw) g w0 (Lp.enter p b way k s f st sum n) wr)
  | 0, s, f, st, B, d, sum, n, wr, hh, ho, _, hl, ht, _, _ => rlEnter_turn hway hwl s f st B d sum hh ho (by omega) (by omega) (.inr (by omega))
  | k + 1, s, f, st, B, d, sum, n, wr, hh, ho, hn, hl, ht, hs, hsum => by
    cases hT : decide (400 < n + 1) || Lp.bars b way st s with
    | true =>
      rw [Lp.enter, if_pos hT]
      exact rlEnter_turn hway hwl s f st B d sum hh ho (by omega) (Nat.le_trans (Nat.le_add_right _ _) ht) (.inl hT)
    | false =>
      rw [Lp.enter, if_neg (by rw [hT]; decide)]
      exact rlEnter_step hI hf hm hway hwl k (fun s f st B d sum n wr => rlEnter_any hI hf hm hway hwl k s f st B d sum n wr) s f st B d sum hh ho hn hl ht hs hsum hT
/-- An overlap that a call leaves, and an error's number. -/
def LapYes (x : List Wk.Stp × Int) (w : World) (e : Ending) (w' : World) : Prop := ∃ B d, e = .returned (.tuple #[.slice B x.1.length d, .int .i64 x.2]) ∧ TRow 39 LStp w' B x.1 ∧ x.1.length ≤ d ∧ Below w.heap.size w w'
theorem LapYes.nil {w w' : World} (e : Int) (hb : Below w.heap.size w w') : LapYes ([], e) w (.returned (.tuple #[.slice none 0 0, .int .i64 e])) w' := ⟨none, 0, rfl, .inl rfl, Nat.le_refl _, hb⟩
abbrev wayV (A : Option Addr) (c : Nat) (y : Cr.Way) : Value := .agg #[.slice A y.steps.length c, .int .i64 y.exit]
abbrev wayO (A : Option Addr) (n c : Nat) (ex : Int) : Obj := .cells #[.slice A n c, .int .i64 ex] 72
theorem rowY {w : World} {g : Nat} {a b : Value} {t : TypeId} (h : w.heap[g]? = some (.cells #[a, b] t (0, 0))) : (w.cell? ⟨g, 0, none⟩ = some a ∧ w.cell? ⟨g, 1, none⟩ = some b) ∧ (w.frozen? ⟨g, 0, none⟩ = false ∧ w.frozen? ⟨g, 1, none⟩ = false) ∧ g < w.heap.size :=
  ⟨⟨cell_of_row w g 0 _ t _ h, cell_of_row w g 1 _ t _ h⟩, ⟨frozen_of_row w g 0 _ t h, frozen_of_row w g 1 _ t h⟩, (Array.getElem?_eq_some_iff.1 h).1⟩
theorem Lp.of_bad {p : Pl.Plan} {i : Int} (h : Cr.sigAt p i = none) (y : Cr.Way) : Lp.of p i y = ([], 4) := by unfold Lp.of; rw [h]
theorem Lp.of_exit {p : Pl.Plan} {i : Int} {g : Pl.Sig} (h : Cr.sigAt p i = some g) {y : Cr.Way} (hy : (p.sigs.length : Int) ≤ y.exit) : Lp.of p i y = ([], 4) := by unfold Lp.of; rw [h]; simp only; rw [if_pos hy]
set_option maxHeartbeats 8000000 in
set_option maxRecDepth 100000 in
theorem rlOf_go (p : Pl.Plan) (hf : Pl.Fit p) (hm : Lp.Meas p) (A : Option Addr) (c : Nat) (A' : Option Addr) (c' : Nat) (i : Int) (way : List Wk.Stp) (ex : Int) (Aw : Option Addr) (cw : Nat) (w : World) (h : PlanIn w p A A') (hway : LStp.Row w Aw way) (hwl : way.length ≤ 1000) :
    Calls Try.prog 42 #[planV p A c A' c', .int .i64 i, .agg #[.slice Aw way.length cw, .int .i64 ex]] w (LapYes (Lp.of p i ⟨way, ex⟩) w) := by
  have XA := (Below.refl w.heap.size w).alloc (Nat.le_refl _) (planO p A c A' c')
  have X0 := Lib.hid (XA.alloc XA.size (wayO Aw way.length cw ex))
  have RP := Lib.hid ((heap_alloc_old (w.alloc (planO p A c A' c')) (wayO Aw way.length cw ex) (show w.heap.size < (w.alloc (planO p A c A' c')).heap.size by simp)).trans (heap_alloc_new w (planO p A c A' c')))
  have RY := Lib.hid (show ((w.alloc (planO p A c A' c')).alloc (wayO Aw way.length cw ex)).heap[w.heap.size + 1]? = some (wayO Aw way.length cw ex) from by
    have := heap_alloc_new (w.alloc (planO p A c A' c')) (wayO Aw way.length cw ex)
    rwa [show (w.alloc (planO p A c A' c')).heap.size = w.heap.size + 1 by simp] at this)
  obtain ⟨⟨p0, p1, p2, p3, p4, p5⟩, -, gp⟩ := row6 RP.out
  obtain ⟨⟨y0, y1⟩, -, gy⟩ := rowY RY.out
  have HI := Lib.hid (h.below X0.out)
  have HW := Lib.hid (hway.below rfl X0.out)
  clear XA h hway
  rcases Cr.sigAt_ways p i with ⟨hs, hn⟩ | ⟨k, rfl, ⟨hk, hn⟩ | ⟨x1, hx1, hn⟩⟩
  · have D : decide (i < 0) = true := dec_t hs
    rw [Lp.of_bad hn]
    clear hs hn
    go_enter Try.func42, Try.ntmps42
    go_wp2_with fail
    refine bodyPost_ret ?_ rfl (LapYes.nil 4 X0.out)
    simp [results, Try.results42, go_sem]
  · have D0 : decide ((k : Int) < 0) = false := dec_f (by omega)
    have D1 : decide ((p.sigs.length : Int) ≤ (k : Int)) = true := dec_t (by omega)
    rw [Lp.of_bad hn]
    clear hn
    go_enter Try.func42, Try.ntmps42
    go_wp2_with fail
    refine bodyPost_ret ?_ rfl (LapYes.nil 4 X0.out)
    simp [results, Try.results42, go_sem]
  have hlt : k < p.sigs.length := (List.getElem?_eq_some_iff.1 hx1).1
  have D0 : decide ((k : Int) < 0) = false := dec_f (by omega)
  have D1 : decide ((p.sigs.length : Int) ≤ (k : Int)) = false := dec_f (by omega)
  have N1 : ¬ p.sigs.length ≤ k := by omega
  by_cases he : (p.sigs.length : Int) ≤ ex
  · have D2 : decide ((p.sigs.length : Int) ≤ ex) = true := dec_t he
    rw [Lp.of_exit (y := ⟨way, ex⟩) hn he]
    clear hn he hx1
    go_enter Try.func42, Try.ntmps42
    go_wp2_with fail
    refine bodyPost_ret ?_ rfl (LapYes.nil 4 X0.out)
    simp [results, Try.results42, go_sem]
  have D2 : decide ((p.sigs.length : Int) ≤ ex) = false := dec_f he
  have he2 : ex < p.sigs.length := by omega
  by_cases he0 : ex < 0
  · have D3 : decide (ex < 0) = true := dec_t he0
    rw [Lp.of_nought (w := ⟨way, ex⟩) hn he2 (.inl he0)]
    clear hn he hx1 he2 he0
    go_enter Try.func42, Try.ntmps42
    go_wp2_with fail
    refine bodyPost_ret ?_ rfl (LapYes.nil 0 X0.out)
    simp [results, Try.results42, go_sem]
  have D3 : decide (ex < 0) = false := dec_f he0
  by_cases hov : p.ov = 0
  · have D4 : (p.ov == 0) = true := by rw [beq_iff_eq]; exact hov
    rw [Lp.of_nought (w := ⟨way, ex⟩) hn he2 (.inr hov)]
    clear hn he hx1 he2 he0 hov
    go_enter Try.func42, Try.ntmps42
    go_wp2_with fail
    refine bodyPost_ret ?_ rfl (LapYes.nil 0 X0.out)
    simp [results, Try.results42, go_sem]
  have D4 : (p.ov == 0) = false := by rw [beq_eq_false_iff_ne]; exact hov
  rcases Lp.of_eq (w := ⟨way, ex⟩) hn he2 with ⟨h', -⟩ | ⟨-, -, x, hx, hof⟩
  · rcases h' with h' | h'
    · exact absurd h' he0
    · exact absurd h' hov
  rw [hof]
  obtain ⟨e, rfl⟩ : ∃ e : Nat, ex = e := ⟨ex.toNat, by omega⟩
  simp only at hx
  have hxe : p.sigs[e]? = some x := by
    unfold Cr.sigAt at hx
    rw [if_neg (by omega), Int.toNat_natCast] at hx
    exact hx
  have hel := (List.getElem?_eq_some_iff.1 hxe).1
  obtain ⟨b, o, rfl, hb, on⟩ := HI.out.2.at hlt
  obtain ⟨b', o', hbo, -, on'⟩ := HI.out.2.at hel
  cases hbo
  rw [(List.getElem?_eq_some_iff.1 hx1).2] at on
  rw [(List.getElem?_eq_some_iff.1 hxe).2] at on'
  obtain ⟨-, b1, -⟩ := sig_on on
  obtain ⟨a0, a1, a2⟩ := sig_on on'
  rw [show k * LSig.m = k * 3 from rfl] at b1
  rw [show e * LSig.m = e * 3 from rfl] at a0 a1 a2
  clear on on' hn hx1 hx hxe hof he he0 he2 hov hlt
  obtain ⟨xn, xs, xe⟩ := x
  simp only at a0 a1 a2
  have i0 : (0 : Int) ≤ (e : Int) := Int.natCast_nonneg e
  have i1 : (e : Int) < (p.sigs.length : Int) := by omega
  have i2 : (0 : Int) ≤ (k : Int) := Int.natCast_nonneg k
  have i3 : (k : Int) < (p.sigs.length : Int) := by omega
  have hsg := Lib.hid hel
  clear hel
  generalize hwB : (w.alloc (planO p A c (some ⟨b, o, none⟩) c')).alloc (wayO Aw way.length cw e) = wB at *
  have hz : wB.heap.size = w.heap.size + 1 + 1 := by rw [← hwB]; simp
  have HX := Lib.hid (show (wB.alloc (.cells #[.string (txt xn), .int .i64 xs, .int .i64 xe] 95)).heap[w.heap.size + 1 + 1]? = some (.cells #[.string (txt xn), .int .i64 xs, .int .i64 xe] 95) from by rw [← hz]; exact heap_alloc_new wB _)
  clear hz
  have TX := Lib.hid ((Below.refl wB.heap.size wB).alloc (Nat.le_refl _) (.cells #[.string (txt xn), .int .i64 xs, .int .i64 xe] 95))
  subst hwB
  go_enter Try.func42, Try.ntmps42
  go_upto_region 6 with fail
  clear a0 a1 a2
  generalize (w.alloc (planO p A c (some ⟨b, o, none⟩) c')).alloc (wayO Aw way.length cw e) = wB at *
  generalize wB.alloc (.cells #[.string (txt xn), .int .i64 xs, .int .i64 xe] 95) = w2 at HX TX ⊢
  generalize w.heap.size + 1 + 1 = g2 at HX ⊢
  have KI := Lib.hid (fun W (hW : Below w2.heap.size w2 W) => HI.out.below (TX.out.trans (hW.mono TX.out.size)))
  have HW2 := Lib.hid (HW.out.below rfl TX.out)
  have B2 := Lib.hid (X0.out.trans (TX.out.mono X0.out.size))
  have RP2 := Lib.hid ((TX.out.block _ gp).trans RP.out)
  have RY2 := Lib.hid ((TX.out.block _ gy).trans RY.out)
  have c1 := (TX.out.cell (p := ⟨b, o + k * 3 + 1, none⟩) hb).trans b1
  have gx2 := (Array.getElem?_eq_some_iff.1 HX.out).1
  clear p0 p1 p2 p3 p4 p5 gp y0 y1 gy b1 hb HI HW RP RY X0 TX
  obtain ⟨⟨p0, p1, p2, p3, p4, p5⟩, -, gp⟩ := row6 RP2.out
  obtain ⟨⟨y0, y1⟩, -, gy⟩ := rowY RY2.out
  obtain ⟨⟨t0, t1, t2⟩, -, -⟩ := row3 HX.out
  have HL := Lib.hid (heap_alloc_new w2 (.cells #[.int .i64 p.ov, .int .i64 p.ap, .int .i64 p.se, .int .i64 p.ho, .slice A p.secs.length c, .slice (some ⟨b, o, none⟩) p.sigs.length c', .int .i64 x1.sec, .slice Aw way.length cw, .int .i64 0] 133))
  have TL := Lib.hid ((Below.refl w2.heap.size w2).alloc (Nat.le_refl _) (.cells #[.int .i64 p.ov, .int .i64 p.ap, .int .i64 p.se, .int .i64 p.ho, .slice A p.secs.length c, .slice (some ⟨b, o, none⟩) p.sigs.length c', .int .i64 x1.sec, .slice Aw way.length cw, .int .i64 0] 133))
  go_region
  go_upto_region 7 with fail
  clear p0 p1 p2 p3 p4 p5 y0 y1 t0 t1 t2 c1 gy RY2
  generalize w2.alloc (.cells #[.int .i64 p.ov, .int .i64 p.ap, .int .i64 p.se, .int .i64 p.ho, .slice A p.secs.length c, .slice (some ⟨b, o, none⟩) p.sigs.length c', .int .i64 x1.sec, .slice Aw way.length cw, .int .i64 0] 133) = w3a at HL TL ⊢
  have TL3 := Lib.hid TL.out.drew
  have HL3 := Lib.hid (show w3a.drew.heap[w2.heap.size]? = some (.cells #[.int .i64 p.ov, .int .i64 p.ap, .int .i64 p.se, .int .i64 p.ho, .slice A p.secs.length c, .slice (some ⟨b, o, none⟩) p.sigs.length c', .int .i64 x1.sec, .slice Aw way.length cw, .int .i64 0] 133) from HL.out)
  clear TL HL
  generalize w3a.drew = w3 at HL3 TL3 ⊢
  generalize hg3 : w2.heap.size = g3 at HL3 ⊢
  have HG3 := Lib.hid (Nat.le_of_eq hg3)
  clear hg3
  have HLK := Lib.hid (fun W (hW : Below w3.heap.size w3 W) => show LookAt p A c (some ⟨b, o, none⟩) c' x1.sec (.slice Aw way.length cw) g3 w2 W 0 from ⟨TL3.out.trans (hW.mono TL3.out.size), HG3.out, (hW.block _ (Array.getElem?_eq_some_iff.1 HL3.out).1).trans HL3.out⟩)
  obtain ⟨⟨p0, p1, p2, p3, p4, p5⟩, -, -⟩ := row6 ((TL3.out.block _ gp).trans RP2.out)
  obtain ⟨⟨t0, t1, t2⟩, -, -⟩ := row3 ((TL3.out.block _ gx2).trans HX.out)
  have CN := Lib.hid (fun W (hb : Below w2.heap.size w2 W) => rwNext_any p A c (some ⟨b, o, none⟩) c' xs xe W (KI.out W hb))
  have HFM := Lib.hid (And.intro hf hm)
  have hin := fun h => Lp.next_in hf (s := xs) (e := xe) h
  have HWL := Lib.hid hwl
  have P1 := Lib.hid (show Lp.ofSig p x1.sec way ⟨xn, xs, xe⟩ = if (Wk.next p xs xe).2.2 then (if 400 < (Lp.enter p x1.sec way 16 (Wk.next p xs xe).1 (Wk.next p xs xe).2.1 [] 0 0).2 then ([], 10) else ((Lp.enter p x1.sec way 16 (Wk.next p xs xe).1 (Wk.next p xs xe).2.1 [] 0 0).1.getD [], 0)) else ([], 0) from rfl)
  clear hf hm hwl
  generalize hnx : Wk.next p xs xe = nx at CN hin P1
  obtain ⟨n1, n2, n3⟩ := nx
  clear hnx
  go_wp2_with fail
  refine (CN.out _ TL3.out).mono ?_; rintro e' w4 ⟨rfl, hb4⟩
  clear p0 p1 p2 p3 p4 p5 t0 t1 t2 CN
  have B4 := Lib.hid hb4
  clear hb4
  cases n3 with
  | false =>
    have FIN := Lib.hid (show LapYes (Lp.ofSig p x1.sec way ⟨xn, xs, xe⟩) w (.returned (.tuple #[.slice none 0 0, .int .i64 0])) w4 from by
      rw [P1.out]
      exact LapYes.nil 0 (B2.out.trans ((TL3.out.trans (B4.out.mono TL3.out.size)).mono B2.out.size)))
    go_wp2_with fail
    refine bodyPost_ret ?_ rfl FIN.out
    simp [results, Try.results42, go_sem]
  | true =>
    obtain ⟨i4, f4, hi4, hl4, -, -⟩ := hin rfl
    have CE := Lib.hid (rlEnter_any (g := g3) (KI.out _ (Below.refl _ _)) HFM.out.1 HFM.out.2 HW2.out HWL.out 16 n1 n2 [] none 0 0 0 w4 (HLK.out _ B4.out) (World.ownsRow_nil _ _ _ _) (fun _ => ⟨rfl, rfl⟩) rfl (by decide) ⟨i4, hi4, hl4⟩ ⟨Int.le_refl _, by simp⟩)
    have P2 := Lib.hid (show Lp.ofSig p x1.sec way ⟨xn, xs, xe⟩ = (if 400 < (Lp.enter p x1.sec way 16 n1 n2 [] 0 0).2 then ([], 10) else ((Lp.enter p x1.sec way 16 n1 n2 [] 0 0).1.getD [], 0)) from P1.out)
    clear hin hi4 hl4 P1
    have hel := (Lp.enter_le p x1.sec way 16 n1 n2 [] 0 0).2
    generalize Lp.enter p x1.sec way 16 n1 n2 [] 0 0 = r at CE P2 hel
    obtain ⟨ro, m⟩ := r
    have CI := Lib.hid (show Calls Try.prog 66 #[.pointer (some ⟨g3, 0, none⟩), .int .i64 n1, .int .i64 n2, .slice none 0 0, .int .i64 0] w4 (fun e w' => ∃ B d, e = .returned (.tuple #[.slice B (ro.getD []).length d, .bool ro.isSome]) ∧ OwnS w2.heap.size w' B d (ro.getD []) ∧ LookAt p A c (some ⟨b, o, none⟩) c' x1.sec (.slice Aw way.length cw) g3 w2 w' m ∧ LTame w4 w') from CE.out)
    clear CE
    have P3 := Lib.hid (show Lp.ofSig p x1.sec way ⟨xn, xs, xe⟩ = (if 400 < m then ([], 10) else (ro.getD [], 0)) from P2.out)
    clear P2 hel
    generalize ro.getD [] = l at CI P3
    generalize ro.isSome = ok at CI
    go_wp2_with fail
    refine CI.out.mono ?_; rintro e' w5 ⟨B, d, rfl, ho5, hl5, -⟩
    obtain ⟨⟨-, -, -, -, -, -, -, -, r8⟩, -, gg⟩ := row9 hl5.2.2
    have HO5 := Lib.hid ho5
    have B5 := Lib.hid (B2.out.trans (hl5.1.mono B2.out.size))
    clear ho5 hl5
    by_cases h4 : 400 < m
    · have D : decide (400 < (m : Int)) = true := dec_t (by omega)
      have FIN := Lib.hid (show LapYes (Lp.ofSig p x1.sec way ⟨xn, xs, xe⟩) w (.returned (.tuple #[.slice none 0 0, .int .i64 10])) w5 from by
        rw [P3.out, if_pos h4]
        exact LapYes.nil 10 B5.out)
      clear h4
      go_wp2_with fail
      refine bodyPost_ret ?_ rfl FIN.out
      simp [results, Try.results42, go_sem]
    · have D : decide (400 < (m : Int)) = false := dec_f (by omega)
      have FIN := Lib.hid (show LapYes (Lp.ofSig p x1.sec way ⟨xn, xs, xe⟩) w (.returned (.tuple #[.slice B l.length d, .int .i64 0])) w5 from by
        rw [P3.out, if_neg h4]
        obtain ⟨-, B', d', hv, hc, hS⟩ := TRow.of_own (E := LStp) HO5.out
        cases hv
        exact ⟨B, d, rfl, hS, hc, B5.out⟩)
      clear h4
      go_wp2_with fail
      refine bodyPost_ret ?_ rfl FIN.out
      simp [results, Try.results42, go_sem]
theorem rlOf_any (p : Pl.Plan) (hf : Pl.Fit p) (hm : Lp.Meas p) (A : Option Addr) (c : Nat) (A' : Option Addr) (c' : Nat) (i : Int) (y : Cr.Way) (Aw : Option Addr) (cw : Nat) (w : World) (h : PlanIn w p A A') (hway : LStp.Row w Aw y.steps) (hwl : y.steps.length ≤ 1000) :
    Calls Try.prog 42 #[planV p A c A' c', .int .i64 i, wayV Aw cw y] w (LapYes (Lp.of p i y) w) := rlOf_go p hf hm A c A' c' i y.steps y.exit Aw cw w h hway hwl
end Go.Proofs.Ytbmmcmdopekccaa
