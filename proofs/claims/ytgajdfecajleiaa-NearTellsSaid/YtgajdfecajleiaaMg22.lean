/-
  Texts of this claim, merged: NrPrC.
-/
import Derived.Test.YtgajdfecajleiaaMg16
import Derived.Test.YtgajdfecajleiaaMg21
import Derived.Deep.CutRange
import Derived.Deep.RegionWith
/-
  The walk of the program's layer 11: an end brought nearer.
-/
namespace Go.Proofs.Ytgajdfecajleiaa
open Go.RowKit

section
variable (p : Pl.Plan) (hf : Pl.Fit p) (hm : Lp.Meas p) (hap : 0 ≤ p.ap ∧ p.ap ≤ 1125899906842624)
include hf hm hap
set_option maxHeartbeats 16000000 in
set_option maxRecDepth 100000 in
theorem pnApproach_any (A : Option Addr) (c : Nat) (A' : Option Addr) (c' : Nat) (st : Nat × Nat) (hst : st.2 < 3) (W0 : World) (hI : PlanIn W0 p A A') (b s e : Nat) (T : List Int) (w : World) (hw : NrW W0 w w b T) (hb : W0.heap.size ≤ b) (hT : Nr.Fair p p.ap st T) (hs : s < p.secs.length) (he : e < 3) :
    Calls Try.prog 28 #[planV p A c A' c', .slice (some ⟨b, 0, none⟩) p.secs.length p.secs.length, .int .i64 s, .int .i64 e] w fun r w' => ∃ (more : Bool) (T' : List Int), r = .returned (.bool more) ∧ NrW W0 w w' b T' ∧ Nr.Gone p p.ap st T T' more (Nr.Fixed p T s e) := by
  --[
  have XA := (Below.refl w.heap.size w).alloc (Nat.le_refl _) (planO p A c A' c')
  have RP := Lib.hid (heap_alloc_new w (planO p A c A' c'))
  have HW := Lib.hid (hw.behind XA)
  have HI := Lib.hid hI
  have HT := Lib.hid hT
  have hlen := hT.len
  obtain ⟨b1, o1, rfl, g1, on⟩ := sec_cells hI.1 (List.getElem?_eq_getElem hs)
  have onl := (sec_on on).2.2.1
  rw [show (p.secs[s]).len = Nr.lenAt p s by unfold Nr.lenAt; rw [List.getElem?_eq_getElem hs]; rfl] at onl
  have ONL := Lib.hid (fun W (hW : Below W0.heap.size W0 W) => (hW.cell (p := ⟨b1, o1 + s * 12 + 2, none⟩) g1).trans onl)
  clear on onl
  have hfew := hf.few
  have i0 : (0 : Int) ≤ (s : Int) := Int.natCast_nonneg s
  have i1 : (s : Int) < (p.secs.length : Int) := by omega
  have gp := (Array.getElem?_eq_some_iff.1 RP.out).1
  obtain ⟨⟨p0, p1, p2, p3, p4, p5⟩, -, -⟩ := row6 RP.out
  have CN := Lib.hid (pwNext_any p (some ⟨b1, o1, none⟩) c A' c' s e _ (HI.out.below HW.out.below) hfew)
  have hbw := hw.tab.lt
  have HNX0 := Lib.hid (fun q f (h : Wk.next p s e = (q, f, true)) => next_nat hf (s := s) (k := e) h)
  have HNI := Lib.hid (fun (h : (Wk.next p s e).2.2 = true) => Lp.next_in hf h)
  generalize hnx : Wk.next p s e = nx at CN
  have HNX := Lib.hid hnx
  obtain ⟨qi, fi, ok⟩ := nx
  clear hnx XA hI hT hw
  cases ok with
  | false =>
    clear hs he
    go_enter Try.func28, Try.ntmps28
    go_wp2_with fail
    refine CN.out.mono ?_; rintro e1 w1 ⟨rfl, hb1⟩
    have HW1 := Lib.hid (HW.out.behind hb1)
    clear p0 p1 p2 p3 p4 p5 hb1 CN
    go_wp2_with fail
    go_ret
    exact ⟨false, T, rfl, HW1.out, ⟨HT.out, Nat.le_refl _, (fun h => by cases h), fun _ => ⟨rfl, fun b hn => by rw [HNX.out] at hn; exact absurd (congrArg (fun x => x.2.2) hn) (by simp)⟩⟩⟩
  | true =>
    obtain ⟨Q, F, rfl, rfl, hQ, hF⟩ : ∃ Q F : Nat, qi = (Q : Int) ∧ fi = (F : Int) ∧ Q < p.secs.length ∧ F < 3 := by
      obtain ⟨j, f, h1, h2, h3, h4⟩ := HNI.out (by rw [HNX.out])
      rw [HNX.out] at h1 h3
      exact ⟨j, f, h1, h3, h2, h4⟩
    have q0 : (0 : Int) ≤ (Q : Int) := Int.natCast_nonneg Q
    have q1 : (Q : Int) < (p.secs.length : Int) := by omega
    have f0 : (0 : Int) ≤ (F : Int) := Int.natCast_nonneg F
    have f1 : (F : Int) < 3 := by omega
    have HB := Lib.hid (fun a1 a2 (h1 : a1 < p.secs.length) (h2 : a2 < 3) => Nr.fair_bd hap.1 HT.out (a := (a1, a2)) h1 h2)
    have HLB := Lib.hid (Nr.lenAt_bd hm s)
    have HQ := Lib.hid hQ
    have HF := Lib.hid hF
    have HS := Lib.hid hs
    have HE := Lib.hid he
    clear hQ hF he
    go_enter Try.func28, Try.ntmps28
    go_wp2_with fail
    refine CN.out.mono ?_; rintro e1 w1 ⟨rfl, hb1⟩
    have HW1 := Lib.hid (HW.out.behind hb1)
    have RP1 := Lib.hid ((hb1.block _ gp).trans RP.out)
    generalize w.heap.size = gq at RP1 p0 p1 p2 p3 p4 p5 hbw ⊢
    clear p0 p1 p2 p3 p4 p5 hb1 CN RP gp
    have gp := (Array.getElem?_eq_some_iff.1 RP1.out).1
    obtain ⟨⟨p0, p1, p2, p3, p4, p5⟩, -, -⟩ := row6 RP1.out
    have c0 := HW1.out.tab.cell (s := Q) (e := F) (by rw [hlen]; exact Nr.slot_lt HQ.out HF.out)
    have CO := Lib.hid (pwOuts_any p (some ⟨b1, o1, none⟩) c A' c' s e w1 (HI.out.below HW1.out.below) hfew)
    go_wp2_with fail
    refine CO.out.mono ?_; rintro e2 w2 ⟨B, d, rfl, hR, hb2⟩
    have HW2 := Lib.hid (HW1.out.behind hb2)
    have RP2 := Lib.hid ((hb2.block _ gp).trans RP1.out)
    have HR := Lib.hid hR
    clear p0 p1 p2 p3 p4 p5 hb2 CO RP1 c0 gp hR
    have gp := (Array.getElem?_eq_some_iff.1 RP2.out).1
    go_wp2_with fail
    have HSL := Lib.hid (Wk.outs_len p s e)
    have HTO := Lib.hid (fun x (hx : x ∈ Wk.outs p s e) => Nr.step_to hx (Int.natCast_nonneg e))
    have HND := Lib.hid (fun h => Nr.least_none (T := T) (b := (Q, F)) HNX.out h)
    have HLS := Lib.hid (fun m h1 h2 => Nr.least_less hm hap.1 HT.out HS.out HE.out (b := (Q, F)) HNX.out HQ.out HF.out (m := m) h1 h2)
    have HYB := Lib.hid (HB.out Q F HQ.out HF.out)
    generalize hy : Nr.at_ T (Q, F) = y at HND HLS HYB ⊢
    have HY := Lib.hid hy
    generalize hO : Wk.outs p s e = O at HSL HR HTO HND HLS ⊢
    generalize hla : Nr.lenAt p s = l at ONL HLB HND HLS
    have B0 := Lib.hid (Below.refl w2.heap.size w2)
    have KP := Lib.hid (fun W (hW : Below w2.heap.size w2 W) => (hW.block _ gp).trans RP2.out)
    clear hla hO hy
    go_loopw [12, 14, 36] (fun v12 _ v36 w' => ∃ k : Nat, k ≤ O.length ∧ v36 = .int .i64 k ∧ v12 = .int .i64 (Nr.least T s l y (O.take k)) ∧ Below w2.heap.size w2 w') (fun _ _ v36 _ => O.length - (intOf v36).toNat)
    case atStart => exact ⟨0, Nat.zero_le _, rfl, rfl, B0.out⟩
    case round =>
      obtain ⟨k, hk, rfl, rfl, hb3⟩ := hrel
      have HB3 := Lib.hid hb3
      clear hb3
      by_cases hlt : k < O.length
      · have hx := List.getElem?_eq_getElem hlt
        obtain ⟨b2, o2, rfl, g2, on⟩ := (HR.out.below rfl HB3.out).at hlt
        have hto := HTO.out _ (List.getElem_mem hlt)
        generalize O[k] = x at hx on hto
        obtain ⟨tt, ht⟩ : ∃ tt : Nat, x.t = (tt : Int) := ⟨x.t.toNat, by omega⟩
        have HLT := Lib.hid (Nr.least_take (T := T) (s := s) (l := l) (y := y) hx)
        obtain ⟨r0, r1, r2⟩ := stp_on on
        rw [show k * LStp.m = k * 3 from rfl] at r0 r1 r2
        obtain ⟨x0, x1, x2⟩ := x
        simp only at ht r0 r1 r2 HLT hto
        subst ht
        rw [Int.toNat_natCast] at HLT
        have ht3 : tt < 3 := by omega
        have HW3 := Lib.hid (HW2.out.behind HB3.out)
        have d1 : decide ((k : Int) < (O.length : Int)) = true := dec_t (by omega)
        have j0 : (0 : Int) ≤ (k : Int) := Int.natCast_nonneg k
        have j1 : (k : Int) < (O.length : Int) := by omega
        have t0 : (0 : Int) ≤ (tt : Int) := Int.natCast_nonneg tt
        have t1 : (tt : Int) < 3 := by omega
        have XN := Lib.hid ((Below.refl wr.heap.size wr).alloc (Nat.le_refl _) (.cells #[.int .i64 x0, .int .i64 x1, .int .i64 tt] 51))
        have RX := Lib.hid (heap_alloc_new wr (.cells #[.int .i64 x0, .int .i64 x1, .int .i64 tt] 51))
        clear on hx hto
        go_upto_region 8 with fail
        have HB4 := Lib.hid (HB3.out.trans (XN.out.mono HB3.out.size))
        generalize wr.alloc (.cells #[.int .i64 x0, .int .i64 x1, .int .i64 tt] 51) = w4 at RX HB4 XN ⊢
        generalize wr.heap.size = gx at RX XN ⊢
        have gx4 := (Array.getElem?_eq_some_iff.1 RX.out).1
        have HW4 := Lib.hid (HW2.out.behind HB4.out)
        have k2 := (row3 RX.out).1.2.2
        have c1 := HW4.out.tab.cell (s := s) (e := tt) (by rw [hlen]; exact Nr.slot_lt HS.out ht3)
        obtain ⟨⟨-, -, -, -, p4, -⟩, -, -⟩ := row6 (KP.out _ HB4.out)
        have onl := ONL.out _ HW4.out.below
        have hab := HB.out s tt HS.out ht3
        generalize Nr.at_ T (s, tt) = z at c1 HLT hab
        generalize hm0 : Nr.least T s l y (O.take k) = m0 at HLT ⊢
        have KS := Lib.hid (fun W (hW : Below w4.heap.size w4 W) => And.intro ((hW.cell (p := ⟨gx, 2, none⟩) gx4).trans k2) (And.intro ((hW.cell (p := ⟨b, s * 3 + tt, none⟩) HW4.out.tab.lt).trans c1) (And.intro ((hW.cell (p := ⟨gq, 4, none⟩) (Nat.lt_of_lt_of_le gp HB4.out.size)).trans p4) ((hW.cell (p := ⟨b1, o1 + s * 12 + 2, none⟩) (Nat.lt_of_lt_of_le g1 HW4.out.below.size)).trans onl))))
        have q : IntKind.i64.wrap (z + l) = z + l := by have := HLB.out; rw [IntWalk.i64_in _ (by omega)]
        have T0 := Lib.hid (Below.refl w4.heap.size w4)
        clear r0 r1 r2 hm0
        go_region_held3 (fun W => W.cell? ⟨gx, 2, none⟩ = some (.int .i64 tt) ∧ W.cell? ⟨b, s * 3 + tt, none⟩ = some (.int .i64 z) ∧ W.cell? ⟨gq, 4, none⟩ = some (.slice (some ⟨b1, o1, none⟩) p.secs.length c) ∧ W.cell? ⟨b1, o1 + s * 12 + 2, none⟩ = some (.int .i64 l))
          (first | with_reducible exact KS.out _ T0.out.drew | (go_keep; done))
          (fail)
        have hsl := HSL.out
        go_wp2_with fail
        go_roundw
        case rel => exact ⟨k + 1, by omega, by go_num, by rw [HLT.out], HB4.out.drew⟩
        case measure => simp [intOf]; omega
      · obtain rfl : k = O.length := by omega
        have d1 : decide ((O.length : Int) < (O.length : Int)) = false := dec_f (by omega)
        have HW3 := Lib.hid (HW2.out.behind HB3.out)
        have c0 := HW3.out.tab.cell (s := Q) (e := F) (by rw [hlen]; exact Nr.slot_lt HQ.out HF.out)
        have fz := HW3.out.tab.frozen (Q * 3 + F)
        rw [HY.out] at c0
        rw [List.take_length]
        generalize hm0 : Nr.least T s l y O = m0 at HND ⊢
        by_cases hme : m0 = y
        · have E1 : (m0 == y) = true := by rw [beq_iff_eq]; exact hme
          have HME := Lib.hid (hme ▸ rfl : m0 = y)
          clear hm0 hme
          go_wp2_with fail
          go_ret
          exact ⟨false, T, rfl, HW3.out, ⟨HT.out, Nat.le_refl _, (fun h => by cases h), fun _ => ⟨rfl, HND.out HME.out⟩⟩⟩
        · have E1 : (m0 == y) = false := by rw [beq_eq_false_iff_ne]; exact hme
          obtain ⟨h1, h2, h3, h4⟩ := HLS.out m0 hm0 hme
          obtain ⟨hfr, hms⟩ := HT.out.bet hst (b := (Q, F)) HQ.out HF.out h1 h2 h3 (by rw [HY.out]; exact h4)
          have HFR := Lib.hid hfr
          have HMS := Lib.hid hms
          have HW4 := Lib.hid (HW3.out.set hb Q F m0)
          clear hm0 hme h1 h2 h3 h4 hfr hms
          go_wp2_with fail
          go_ret
          exact ⟨true, Nr.bet T (Q, F) m0, rfl, HW4.out, ⟨HFR.out, Nat.le_of_lt HMS.out, (fun _ => HMS.out), fun h => by cases h⟩⟩
  --]
end
end Go.Proofs.Ytgajdfecajleiaa
