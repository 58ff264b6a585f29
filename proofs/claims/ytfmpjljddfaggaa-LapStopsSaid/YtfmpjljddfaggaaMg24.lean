/-
  Texts of this claim, merged: LpPrB, LpPrC.
-/
import Derived.Test.YtfmpjljddfaggaaMg23
import Derived.Deep.CutRange
import Derived.Deep.RegionHeld3
/-
  The walks of the program's layer 8: how long steps are; what lies behind a step.
-/
namespace Go.Proofs.Ytfmpjljddfaggaa
open Go.RowKit

set_option maxHeartbeats 8000000 in
set_option maxRecDepth 100000 in
theorem plLength_any (p : Pl.Plan) (hm : Lp.Meas p) (A : Option Addr) (c : Nat) (A' : Option Addr) (c' : Nat) (L : List Wk.Stp) (B : Option Addr) (d : Nat) (w : World) (h : PlanIn w p A A') (hL : LStp.Row w B L) (hl : L.length ≤ 1000) :
    Calls Try.prog 13 #[planV p A c A' c', .slice B L.length d] w fun e w' => e = .returned (.int .i64 (Lp.len p L)) ∧ Below w.heap.size w w' := by
  --[
  have XA := (Below.refl w.heap.size w).alloc (Nat.le_refl _) (planO p A c A' c')
  have X0 := Lib.hid XA
  have RP := Lib.hid (heap_alloc_new w (planO p A c A' c'))
  have gp := (Array.getElem?_eq_some_iff.1 RP.out).1
  have HI := Lib.hid (h.below XA)
  have HL := Lib.hid (hL.below rfl XA)
  have KP := Lib.hid (fun W (hW : Below (w.alloc (planO p A c A' c')).heap.size (w.alloc (planO p A c A' c')) W) => (row6 ((hW.block _ gp).trans RP.out)).1)
  have T0 := Lib.hid (Below.refl (w.alloc (planO p A c A' c')).heap.size (w.alloc (planO p A c A' c')))
  have HM := Lib.hid hm
  clear XA h hL hm
  go_enter Try.func13, Try.ntmps13
  go_upto_region 2 with fail
  generalize w.alloc (planO p A c A' c') = w1 at X0 RP gp HI HL KP T0 ⊢
  go_wp2_with fail
  go_loopw [5, 10] (fun v1 v2 w' => ∃ k : Nat, k ≤ L.length ∧ v1 = .int .i64 (Lp.len p (L.take k)) ∧ v2 = .int .i64 k ∧ Below w1.heap.size w1 w') (fun _ v2 _ => L.length - (intOf v2).toNat)
  case atStart => exact ⟨0, Nat.zero_le _, rfl, rfl, T0.out⟩
  case round =>
    obtain ⟨k, hk, rfl, rfl, hB⟩ := hrel
    have HB := Lib.hid hB
    clear hB
    by_cases hlt : k < L.length
    · have hy := List.getElem?_eq_getElem hlt
      obtain ⟨b1, o1, rfl, g1, on⟩ := (HL.out.below rfl HB.out).at hlt
      generalize L[k] = y at hy on
      obtain ⟨r0, r1, r2⟩ := stp_on on
      rw [show k * LStp.m = k * 3 from rfl] at r0 r1 r2
      have d1 : decide ((k : Int) < (L.length : Int)) = true := dec_t (by omega)
      have HN := Lib.hid (Lp.len_take (p := p) hy)
      have hlb := Lp.len_bd HM.out (L.take k)
      have htk : (L.take k).length ≤ 1000 := by rw [List.length_take]; omega
      have hsb := Lp.secLen_bd HM.out y.s
      clear hy on
      obtain ⟨s, f, t⟩ := y
      simp only at r0 r1 r2 hsb HN
      have RX := Lib.hid (heap_alloc_new wr (.cells #[.int .i64 s, .int .i64 f, .int .i64 t] 47))
      have HX := Lib.hid (HB.out.alloc HB.out.size (.cells #[.int .i64 s, .int .i64 f, .int .i64 t] 47))
      go_upto_region 5 with fail
      generalize wr.alloc (.cells #[.int .i64 s, .int .i64 f, .int .i64 t] 47) = w2 at RX HX ⊢
      generalize wr.heap.size = gx at RX ⊢
      clear r0 r1 r2
      obtain ⟨⟨t0, t1, t2⟩, -, -⟩ := row3 RX.out
      obtain ⟨p0, p1, p2, p3, p4, p5⟩ := KP.out _ HX.out
      rcases Wk.sec_ways p s with ⟨hs, hn⟩ | ⟨i, rfl, ⟨hs, hn⟩ | ⟨x, hx, hn⟩⟩
      · have D0 : decide (0 ≤ s) = false := dec_f (by omega)
        have E : Lp.secLen p s = 0 := by unfold Lp.secLen; rw [hn]
        rw [E, Int.add_zero] at HN
        clear hs hn hlb htk hsb E
        go_wp2_with fail
        go_roundw
        case rel => exact ⟨k + 1, by omega, by rw [HN.out], by go_num, HX.out⟩
        case measure => simp [intOf]; omega
      · have D0 : decide (0 ≤ (i : Int)) = true := dec_t (by omega)
        have D1 : decide ((i : Int) < (p.secs.length : Int)) = false := dec_f (by omega)
        have N1 : ¬ i < p.secs.length := by omega
        have E : Lp.secLen p (i : Int) = 0 := by unfold Lp.secLen; rw [hn]
        rw [E, Int.add_zero] at HN
        clear hs hn hlb htk hsb E
        go_wp2_with fail
        go_roundw
        case rel => exact ⟨k + 1, by omega, by rw [HN.out], by go_num, HX.out⟩
        case measure => simp [intOf]; omega
      · have hil := (List.getElem?_eq_some_iff.1 hx).1
        have D0 : decide (0 ≤ (i : Int)) = true := dec_t (by omega)
        have D1 : decide ((i : Int) < (p.secs.length : Int)) = true := dec_t (by omega)
        have i0 : (0 : Int) ≤ (i : Int) := Int.natCast_nonneg i
        have i1 : (i : Int) < (p.secs.length : Int) := by omega
        obtain ⟨bS, oS, rfl, gS, onS⟩ := sec_cells (HI.out.below HX.out).1 hx
        have onl := (sec_on onS).2.2.1
        rw [show x.len = Lp.secLen p (i : Int) from (Lp.secLen_at hx).symm] at onl
        have q : IntKind.i64.wrap (Lp.len p (L.take k) + Lp.secLen p (i : Int)) = Lp.len p (L.take k) + Lp.secLen p (i : Int) := IntWalk.i64_in _ (by omega)
        have HE := Lib.hid (show Lp.len p (L.take k) + Lp.secLen p (i : Int) = Lp.len p (L.take (k + 1)) from HN.out.symm)
        generalize Lp.secLen p (i : Int) = sl at onl q HE
        clear hn hx hlb htk hsb onS HN
        go_wp2_with fail
        go_roundw
        case rel => exact ⟨k + 1, by omega, by rw [HE.out], by go_num, HX.out⟩
        case measure => simp [intOf]; omega
    · obtain rfl : k = L.length := by omega
      have d1 : decide ((L.length : Int) < (L.length : Int)) = false := dec_f (by omega)
      rw [List.take_length]
      go_wp2_with fail
      go_ret
      exact ⟨rfl, X0.out.trans (HB.out.mono X0.out.size)⟩
  --]
/-- One way on behind steps: the overlap ends, or goes on. -/
def Lp.one (p : Pl.Plan) (go : Int → Int → List Wk.Stp → Nat → Option (List Wk.Stp) × Nat) (s sum : Int) (st : List Wk.Stp) (x : Wk.Stp) (n : Nat) : Option (List Wk.Stp) × Nat :=
  if Lp.lasts p sum s x then (some (st ++ [x]), n) else go (Wk.next p s x.t).1 (Wk.next p s x.t).2.1 (st ++ [x]) n
/-- Where the search goes on, by its contract. -/
def FindIH (p : Pl.Plan) (A : Option Addr) (c : Nat) (A' : Option Addr) (c' : Nat) (b : Int) (way : List Wk.Stp) (Aw : Option Addr) (cw g : Nat) (w0 : World) (k : Nat) : Prop :=
  ∀ (s f : Int) (st : List Wk.Stp) (B : Option Addr) (d : Nat) (u : Value) (n : Nat) (wr : World), FindAt p A c A' c' b (.slice Aw way.length cw) g w0 wr n u → OwnS w0.heap.size wr B d st → st.length + k = 16 → n ≤ 400 →
    Calls Try.prog 24 #[.pointer (some ⟨g, 0, none⟩), .slice B st.length d, .int .i64 s, .int .i64 f] wr (FindGives p A c A' c' b (.slice Aw way.length cw) g w0 (Lp.enter p b way k s f st (Lp.len p st) n) B d st u wr)
theorem Lp.lasts_len {p : Pl.Plan} {s : Int} {st : List Wk.Stp} {x : Wk.Stp} {n2 : Bool} (hx : x.s = s) (hn : (Wk.next p s x.t).2.2 = n2) : Lp.lasts p (Lp.len p st + Lp.secLen p s) s x = (!n2 || decide (p.ov ≤ Lp.len p (st ++ [x]))) := by
  unfold Lp.lasts
  rw [hn, Lp.len_snoc, hx]
section
variable {p : Pl.Plan} {A : Option Addr} {c : Nat} {A' : Option Addr} {c' : Nat} {b : Int} {u : Value} {g : Nat} {w0 wr : World} {n : Nat} {way : List Wk.Stp} {Aw : Option Addr} {cw : Nat}
set_option maxHeartbeats 16000000 in
set_option maxRecDepth 100000 in
theorem plLeave_any (hI : PlanIn w0 p A A') (hm : Lp.Meas p) (hsl : p.secs.length ≤ 24) (k : Nat) (IH : FindIH p A c A' c' b way Aw cw g w0 k) (s : Int) (st : List Wk.Stp) (x : Wk.Stp) (hx : x.s = s) (B : Option Addr) (d : Nat) (hh : FindAt p A c A' c' b (.slice Aw way.length cw) g w0 wr n u) (ho : OwnS w0.heap.size wr B d (st ++ [x])) (hl : st.length + (k + 1) = 16) (hn4 : n ≤ 400) (N : Nat) (hN : N = st.length + 1) :
    Calls Try.prog 37 #[.pointer (some ⟨g, 0, none⟩), .slice B N d] wr (FindGives p A c A' c' b (.slice Aw way.length cw) g w0 (Lp.one p (fun s' f' st' n' => Lp.enter p b way k s' f' st' (Lp.len p st + Lp.secLen p s) n') s (Lp.len p st + Lp.secLen p s) st x n) B d (st ++ [x]) u wr) := by
  generalize hr : Lp.one p (fun s' f' st' n' => Lp.enter p b way k s' f' st' (Lp.len p st + Lp.secLen p s) n') s (Lp.len p st + Lp.secLen p s) st x n = r
  have HR := Lib.hid hr
  clear hr
  have hlen : (st ++ [x]).length = N := by rw [List.length_append, hN]; rfl
  have ho' : wr.ownsRow w0.heap.size 47 3 (.slice B N d) N (LStp.all (st ++ [x])) := by have := ho; unfold OwnS at this; rwa [hlen] at this
  obtain ⟨bb, cp, hB, -, -⟩ := ho'.form (by omega)
  obtain rfl : B = some ⟨bb, 0, none⟩ := by cases hB; rfl
  have on := Lies.own_on (E := LStp) (g := bb) ho' (k := st.length) (y := x) (by rw [List.getElem?_append_right (Nat.le_refl _), Nat.sub_self]; rfl)
  obtain ⟨a0, a1, a2⟩ := stp_on on
  rw [show st.length * LStp.m = st.length * 3 from rfl] at a0 a1 a2
  have hbb := (own_lt ho bb rfl).2
  have gg := (Array.getElem?_eq_some_iff.1 hh.2.2).1
  have q1 : IntKind.i64.wrap ((N : Int) - 1) = (st.length : Int) := by rw [IntWalk.i64_in _ (by omega)]; omega
  have HH := Lib.hid hh
  have HO := Lib.hid ho
  have HI := Lib.hid hI
  have HM := Lib.hid hm
  have HIH := Lib.hid IH
  have HL := Lib.hid hl
  have H4 := Lib.hid hn4
  have HN := Lib.hid hlen
  have hN16 : N ≤ 16 := by omega
  have l1 : st.length < N := by omega
  have l2 : (st.length : Int) < (N : Int) := by omega
  have l3 : decide ((st.length : Int) < (N : Int)) = true := dec_t l2
  have HX0 := Lib.hid hx
  clear hh ho ho' hI hm IH hl hn4 hlen hN on hB hx
  have X1 := (Below.refl wr.heap.size wr).alloc (Nat.le_refl _) (.cells #[.int .i64 x.s, .int .i64 x.f, .int .i64 x.t] 47)
  have HX := Lib.hid X1
  have RX := Lib.hid (heap_alloc_new wr (.cells #[.int .i64 x.s, .int .i64 x.f, .int .i64 x.t] 47))
  have KS := Lib.hid (fun W (hb : Below (wr.alloc (.cells #[.int .i64 x.s, .int .i64 x.f, .int .i64 x.t] 47)).heap.size (wr.alloc (.cells #[.int .i64 x.s, .int .i64 x.f, .int .i64 x.t] 47)) W) => show (W.cell? ⟨g, 0, none⟩ = some (.int .i64 p.ov) ∧ W.cell? ⟨g, 1, none⟩ = some (.int .i64 p.ap) ∧ W.cell? ⟨g, 2, none⟩ = some (.int .i64 p.se) ∧ W.cell? ⟨g, 3, none⟩ = some (.int .i64 p.ho) ∧ W.cell? ⟨g, 4, none⟩ = some (.slice A p.secs.length c) ∧ W.cell? ⟨g, 5, none⟩ = some (.slice A' p.sigs.length c')) ∧ W.cell? ⟨wr.heap.size, 0, none⟩ = some (.int .i64 x.s) ∧ W.cell? ⟨wr.heap.size, 2, none⟩ = some (.int .i64 x.t) from by
    have h3 := ((hb.block _ (Array.getElem?_eq_some_iff.1 ((HX.out.block _ gg).trans HH.out.2.2)).1).trans (HX.out.block _ gg)).trans HH.out.2.2
    obtain ⟨⟨r0, r1, r2, r3, r4, r5, -, -, -, -⟩, -, -⟩ := frow10 h3
    obtain ⟨⟨t0, -, t2⟩, -, -⟩ := row3 ((hb.block _ (by simp)).trans RX.out)
    exact ⟨⟨r0, r1, r2, r3, r4, r5⟩, t0, t2⟩)
  have CN := Lib.hid (fun W (hb : Below (wr.alloc (.cells #[.int .i64 x.s, .int .i64 x.f, .int .i64 x.t] 47)).heap.size (wr.alloc (.cells #[.int .i64 x.s, .int .i64 x.f, .int .i64 x.t] 47)) W) => Made.of (w := wr.alloc (.cells #[.int .i64 x.s, .int .i64 x.f, .int .i64 x.t] 47)) hb (pwNext_any p A c A' c' x.s x.t W (HI.out.below ((HH.out.1.trans (HX.out.mono HH.out.1.size)).trans (hb.mono (Nat.le_trans HH.out.1.size HX.out.size)))) hsl))
  have CL := Lib.hid (fun W (hb : Below (wr.alloc (.cells #[.int .i64 x.s, .int .i64 x.f, .int .i64 x.t] 47)).heap.size (wr.alloc (.cells #[.int .i64 x.s, .int .i64 x.f, .int .i64 x.t] 47)) W) => show Calls Try.prog 13 #[planV p A c A' c', .slice (some ⟨bb, 0, none⟩) N d] W (Made (wr.alloc (.cells #[.int .i64 x.s, .int .i64 x.f, .int .i64 x.t] 47)) (.int .i64 (Lp.len p (st ++ [x]))) W) from by
    have h := Made.of (w := wr.alloc (.cells #[.int .i64 x.s, .int .i64 x.f, .int .i64 x.t] 47)) hb (plLength_any p HM.out A c A' c' (st ++ [x]) (some ⟨bb, 0, none⟩) d W (HI.out.below ((HH.out.1.trans (HX.out.mono HH.out.1.size)).trans (hb.mono (Nat.le_trans HH.out.1.size HX.out.size)))) ((OwnS.row HO.out).below rfl (HX.out.trans (hb.mono HX.out.size))) (by rw [HN.out]; omega))
    rwa [HN.out] at h)
  go_enter Try.func37, Try.ntmps37
  go_upto_region 2 with fail
  generalize wr.alloc (.cells #[.int .i64 x.s, .int .i64 x.f, .int .i64 x.t] 47) = w2 at HX KS CN CL ⊢
  clear X1 RX a0 a1 a2 q1 l1 l2 l3 hbb
  have B2 := Lib.hid (Below.refl w2.heap.size w2)
  generalize hnx : Wk.next p x.s x.t = nx at CN
  have HNX := Lib.hid hnx
  obtain ⟨n1, n2, n3⟩ := nx
  clear hnx
  go_cut [6, 7, 8] from 9 to 52 (fun s6 s7 s8 w' => (s6 = .int .i64 n1 ∧ s7 = .int .i64 n2 ∧ s8 = .bool n3) ∧ Below w2.heap.size w2 w')
  case first =>
    --[
    go_region_held3 (fun W => (W.cell? ⟨g, 0, none⟩ = some (.int .i64 p.ov) ∧ W.cell? ⟨g, 1, none⟩ = some (.int .i64 p.ap) ∧ W.cell? ⟨g, 2, none⟩ = some (.int .i64 p.se) ∧ W.cell? ⟨g, 3, none⟩ = some (.int .i64 p.ho) ∧ W.cell? ⟨g, 4, none⟩ = some (.slice A p.secs.length c) ∧ W.cell? ⟨g, 5, none⟩ = some (.slice A' p.sigs.length c')) ∧ W.cell? ⟨wr.heap.size, 0, none⟩ = some (.int .i64 x.s) ∧ W.cell? ⟨wr.heap.size, 2, none⟩ = some (.int .i64 x.t))
      (first | with_reducible exact KS.out _ B2.out.drew | with_reducible exact KS.out _ hacc)
      (first | (go_at_call 23; (with_reducible refine (CN.out _ B2.out.drew).mono ?_); rintro e w' ⟨rfl, hbl, hacc, hz⟩))
    all_goals go_wp2_with fail
    all_goals go_meet
    all_goals exact ⟨⟨rfl, rfl, rfl⟩, hacc⟩
    --]
  case rest =>
    obtain ⟨⟨rfl, rfl, rfl⟩, hb4⟩ := hcut
    have B4 := Lib.hid hb4
    clear hb4 CN B2
    generalize wc = w3 at B4 ⊢
    have HLA := Lib.hid (Lp.lasts_len (st := st) HX0.out (by rw [← HX0.out, HNX.out] : (Wk.next p s x.t).2.2 = n3))
    have HON := Lib.hid (show r = if (!n3 || decide (p.ov ≤ Lp.len p (st ++ [x]))) then (some (st ++ [x]), n) else Lp.enter p b way k n1 n2 (st ++ [x]) (Lp.len p (st ++ [x])) n from by
      rw [← HR.out]
      unfold Lp.one
      rw [HLA.out, ← HX0.out, HNX.out, Lp.len_snoc])
    clear HLA HR
    -- the overlap ends here
    have FIN := Lib.hid (fun W (hb : Below wr.heap.size wr W) (hq : (!n3 || decide (p.ov ≤ Lp.len p (st ++ [x]))) = true) => show FindGives p A c A' c' b (.slice Aw way.length cw) g w0 r (some ⟨bb, 0, none⟩) d (st ++ [x]) u wr (.returned (.bool true)) (W.setCell ⟨g, 9, none⟩ (.slice (some ⟨bb, 0, none⟩) N d)) from by
      rw [HON.out, if_pos hq]
      obtain ⟨f1, f2⟩ := (HH.out.below hb).met (.slice (some ⟨bb, 0, none⟩) N d)
      exact .inr (.inr ⟨H4.out, st ++ [x], some ⟨bb, 0, none⟩, d, rfl, rfl, by rw [HN.out]; exact f1, own_tame (ownsRow_below HO.out hb) f2 (by decide) (by decide)⟩))
    cases n3 with
    | false =>
      --[
      have B5 := Lib.hid (HX.out.trans (B4.out.mono HX.out.size))
      obtain ⟨⟨-, -, -, -, -, -, -, -, -, p9⟩, ⟨-, f9⟩, gg3⟩ := frow10 (HH.out.below B5.out).2.2
      clear gg
      go_upto_region 3 with fail
      go_quiet (fail)
      go_wp2_with fail
      go_ret
      exact FIN.out _ (below_drewN B5.out _) rfl
      --]
    | true =>
      obtain ⟨⟨p0, p1, p2, p3, p4, p5⟩, -, -⟩ := KS.out _ B4.out
      go_upto_region 3 with fail
      generalize hz : decide (Lp.len p (st ++ [x]) < p.ov) = z
      have HZ := Lib.hid hz
      clear hz
      go_cut [42] from 9 to 52 (fun s42 w' => s42 = .bool z ∧ Below w2.heap.size w2 w')
      case first =>
        --[
        go_region_held3 (fun W => (W.cell? ⟨g, 0, none⟩ = some (.int .i64 p.ov) ∧ W.cell? ⟨g, 1, none⟩ = some (.int .i64 p.ap) ∧ W.cell? ⟨g, 2, none⟩ = some (.int .i64 p.se) ∧ W.cell? ⟨g, 3, none⟩ = some (.int .i64 p.ho) ∧ W.cell? ⟨g, 4, none⟩ = some (.slice A p.secs.length c) ∧ W.cell? ⟨g, 5, none⟩ = some (.slice A' p.sigs.length c')) ∧ W.cell? ⟨wr.heap.size, 0, none⟩ = some (.int .i64 x.s) ∧ W.cell? ⟨wr.heap.size, 2, none⟩ = some (.int .i64 x.t))
          (first | with_reducible exact KS.out _ B4.out.drew | with_reducible exact KS.out _ hacc)
          (first | (go_at_call 13; (with_reducible refine (CL.out _ B4.out.drew).mono ?_); rintro e w' ⟨rfl, hbl, hacc, hz⟩))
        all_goals go_wp2_with fail
        all_goals go_meet
        all_goals exact ⟨by rw [← HZ.out], hacc⟩
        --]
      case rest =>
        --[
        obtain ⟨rfl, hb5⟩ := hcut
        have hb := HX.out.trans (hb5.mono HX.out.size)
        have B5 := Lib.hid hb
        clear hb5 B4 KS CL HX gg
        generalize wc = w4 at B5 ⊢
        cases z with
        | true =>
          have hq := of_decide_eq_true HZ.out
          have HG := Lib.hid (show r = Lp.enter p b way k n1 n2 (st ++ [x]) (Lp.len p (st ++ [x])) n from by
            rw [HON.out, if_neg (by simp; omega)])
          have ih := HIH.out n1 n2 (st ++ [x]) (some ⟨bb, 0, none⟩) d u n w4 (HH.out.below B5.out) (ownsRow_below HO.out B5.out) (by have := HL.out; have := HN.out; simp only [List.length_append, List.length_singleton]; omega) H4.out
          rw [HN.out, ← HG.out] at ih
          have CI := Lib.hid ih
          clear ih hq FIN HON HG HZ
          go_wp2_with fail
          refine CI.out.mono ?_; rintro e w5 (⟨h1, rfl, h2⟩ | ⟨h1, h2, rfl, h3, h4, h5⟩ | ⟨h1, l, B', d', h2, rfl, h3, h4⟩)
          · have R := Lib.hid (And.intro h1 h2)
            clear h1 h2
            go_wp2_with fail
            go_ret
            exact .inl ⟨R.out.1, rfl, R.out.2⟩
          · have R := Lib.hid (And.intro h1 (And.intro h2 (And.intro h3 (And.intro h4 (((Below.tame B5.out _ _).seeks _).trans h5)))))
            clear h1 h2 h3 h4 h5
            go_wp2_with fail
            go_ret
            exact .inr (.inl ⟨R.out.1, R.out.2.1, rfl, R.out.2.2.1, R.out.2.2.2.1, R.out.2.2.2.2⟩)
          · have R := Lib.hid (And.intro h1 (And.intro h2 (And.intro h3 h4)))
            clear h1 h2 h3 h4
            go_wp2_with fail
            go_ret
            exact .inr (.inr ⟨R.out.1, l, B', d', R.out.2.1, rfl, R.out.2.2.1, R.out.2.2.2⟩)
        | false =>
          have hq := of_decide_eq_false HZ.out
          have Q := Lib.hid (show (!true || decide (p.ov ≤ Lp.len p (st ++ [x]))) = true from by simp; omega)
          obtain ⟨⟨-, -, -, -, -, -, -, -, -, p9⟩, ⟨-, f9⟩, gg3⟩ := frow10 (HH.out.below B5.out).2.2
          clear hq p0 p1 p2 p3 p4 p5
          go_wp2_with fail
          go_ret
          exact FIN.out _ B5.out Q.out
        --]
end
end Go.Proofs.Ytfmpjljddfaggaa
/-
  The walk of the program's search of layer 8: it enters section by section.
-/
namespace Go.Proofs.Ytfmpjljddfaggaa
open Go.RowKit

namespace Lp
open Go Pl Wk
variable {p : Plan} {go : Int → Int → List Stp → Nat → Option (List Stp) × Nat} {s sum : Int} {st : List Stp} {x : Stp} {l : List Stp} {m m1 : Nat}
theorem seek_one : seek p go s sum st (x :: l) m = match one p go s sum st x m with | (some r, m1) => (some r, m1) | (none, m1) => seek p go s sum st l m1 := by
  unfold one
  cases h : lasts p sum s x with
  | true => rw [seek_last h, if_pos rfl]
  | false =>
    rw [if_neg (by decide)]
    cases hg : go (next p s x.t).1 (next p s x.t).2.1 (st ++ [x]) m with
    | mk o m1 =>
      cases o with
      | none => rw [seek_on h hg]
      | some r => rw [seek_hit h hg]
theorem seek_one_le {B : Nat} (hg : ∀ s f st n, n ≤ (go s f st n).2 ∧ (go s f st n).2 ≤ n + B) : (one p go s sum st x m).2 ≤ (seek p go s sum st (x :: l) m).2 := by
  rw [seek_one]
  generalize one p go s sum st x m = r
  obtain ⟨o, m1⟩ := r
  cases o with
  | none => exact (seek_le hg l m1).1
  | some r => exact Nat.le_refl _
end Lp
section
variable {p : Pl.Plan} {A : Option Addr} {c : Nat} {A' : Option Addr} {c' : Nat} {b : Int} {u : Value} {g : Nat} {w0 wr : World} {n : Nat} {way : List Wk.Stp} {Aw : Option Addr} {cw : Nat}
/-- A row's block is one of steps. -/
theorem own_steps {base : Nat} {w : World} {B : Option Addr} {d : Nat} {st : List Wk.Stp} (h : OwnS base w B d st) (k : Nat) (hk : blk B = some k) : ∃ cs, w.heap[k]? = some (.cells cs 47 (0, 0)) := by
  rcases h.2 with ⟨hv, -⟩ | ⟨g', cap', cur', hv, -, hg', -⟩
  · injection hv with h1 _ _
    subst h1
    cases hk
  · cases hv
    obtain rfl : g' = k := Option.some.inj hk
    exact ⟨cur', hg'⟩
/-- A step more behind steps: what lay there stays. -/
theorem find_more {v : Value} {w : World} {B : Option Addr} {d : Nat} {st : List Wk.Stp} {x : Wk.Stp} {o1 o2 : Obj} {g1 cap1 : Nat} {w8 : World} (hS : FindAt p A c A' c' b v g w0 w n u) (hO : OwnS w0.heap.size w B d st)
    (hown : w8.ownsRow w0.heap.size 47 LStp.m (.slice (some ⟨g1, 0, none⟩) (st.length + 1) cap1) (st.length + 1) (LStp.all st ++ LStp.all [x])) (hkeep : w8.ownsRow w0.heap.size 47 LStp.m (.slice B st.length d) st.length (LStp.all st))
    (hat : (Value.slice B st.length d = .slice (some ⟨g1, 0, none⟩) st.length cap1 ∧ ((w.alloc o1).alloc o2).grownBy w8 (some g1)) ∨ (g1 = ((w.alloc o1).alloc o2).heap.size ∧ ((w.alloc o1).alloc o2).grownBy w8 none)) :
    FindAt p A c A' c' b v g w0 w8 n u ∧ OwnS w0.heap.size w8 (some ⟨g1, 0, none⟩) cap1 (st ++ [x]) ∧ OwnS w0.heap.size w8 B d st ∧ PFind (blk B) w w8 ∧ ((B = some ⟨g1, 0, none⟩ ∧ d = cap1) ∨ w.heap.size ≤ g1) := by
  have b1 := (Below.refl w.heap.size w).alloc (Nat.le_refl _) o1
  have b2 := b1.alloc b1.size o2
  have hS2 := hS.below b2
  have hO2 : OwnS w0.heap.size ((w.alloc o1).alloc o2) B d st := ownsRow_below hO b2
  have e1 : OwnS w0.heap.size w8 (some ⟨g1, 0, none⟩) cap1 (st ++ [x]) := by
    unfold OwnS
    rw [List.length_append, LStp.all_append]
    exact hown
  have s2 := Nat.le_trans hS2.1.size (Nat.le_refl _)
  rcases hat with ⟨hv, hg⟩ | ⟨hv, hg⟩
  · obtain ⟨hB, hd⟩ : B = some ⟨g1, 0, none⟩ ∧ d = cap1 := by cases hv; exact ⟨rfl, rfl⟩
    subst hB
    subst hd
    have hgb : w0.heap.size ≤ g1 := (own_lt hO g1 rfl).1
    exact ⟨hS2.grown hg (hS2.1.grown hg s2 fun k hk => by cases hk; exact hgb) (fun k hk => own_steps hO2 k hk), e1, hkeep, ((Below.tame b2 _ _).seeks _).trans (grown_seeks hg), .inl ⟨rfl, rfl⟩⟩
  · have hz : w.heap.size ≤ g1 := by rw [hv]; exact b2.size
    exact ⟨hS2.grown hg (hS2.1.grown hg s2 fun k hk => by cases hk) (fun k hk => by cases hk), e1, hkeep, ((Below.tame b2 _ _).seeks _).trans ⟨hg.os, hg.tape, hg.output, hg.size, fun bb cs t fr hb _ _ _ => by rw [hg.block bb (Array.getElem?_eq_some_iff.1 hb).1 (by simp)]; exact hb⟩, .inr hz⟩
/-- .. and behind what came of it. -/
theorem find_back {w w8 w9 : World} {B : Option Addr} {d : Nat} {st : List Wk.Stp} {x : Wk.Stp} {g1 cap1 : Nat} (hO : OwnS w0.heap.size w B d st) (hO8 : OwnS w0.heap.size w8 B d st) (hO9 : OwnS w0.heap.size w9 (some ⟨g1, 0, none⟩) cap1 (st ++ [x])) (hp : PFind (blk B) w w8) (hq : PFind (some g1) w8 w9) (hat : (B = some ⟨g1, 0, none⟩ ∧ d = cap1) ∨ w.heap.size ≤ g1) : OwnS w0.heap.size w9 B d st ∧ PFind (blk B) w w9 := by
  constructor
  · rcases hat with ⟨rfl, rfl⟩ | hz
    · have := hO9
      unfold OwnS at this
      rw [List.length_append, LStp.all_append] at this
      exact own_prefix this (LStp.all_len st) Nat.zero_lt_one
    · refine own_seeks hO8 hq (by decide) (by decide) fun k hk e => ?_
      obtain rfl : g1 = k := Option.some.inj e
      have := (own_lt hO g1 (by rw [blk_own] at hk; exact hk)).2
      omega
  · refine Seeks.new hp hq fun k hk => ?_
    obtain rfl : g1 = k := Option.some.inj hk
    rcases hat with ⟨rfl, -⟩ | hz
    · exact .inr rfl
    · exact .inl hz
theorem step_one (w : World) (y : Wk.Stp) {g : Nat} (hg : w.heap.size = g) : LStp.Row (w.alloc (.cells #[.int .i64 y.s, .int .i64 y.f, .int .i64 y.t] 47)) (some ⟨g, 0, none⟩) [y] := hg ▸ Lies.Row.fresh (E := LStp) w [y] 47
set_option maxHeartbeats 16000000 in
set_option maxRecDepth 100000 in
/-- Where the search goes on. -/
theorem plEnter_step {wa : World} (hI : PlanIn w0 p A A') (hm : Lp.Meas p) (hsl : p.secs.length ≤ 24) (hway : LStp.Row w0 Aw way) (hwl : way.length ≤ 1000) (k : Nat) (IH : FindIH p A c A' c' b way Aw cw g w0 k) (s f : Int) (st : List Wk.Stp) (B : Option Addr) (d n : Nat) (hh : FindAt p A c A' c' b (.slice Aw way.length cw) g w0 wa n u) (ho : OwnS w0.heap.size wa B d st) (hl : st.length + (k + 1) = 16) (hn4 : n ≤ 400) (hT : (decide (400 < n + 1) || Lp.bars b way st s) = false) :
    Calls Try.prog 24 #[.pointer (some ⟨g, 0, none⟩), .slice B st.length d, .int .i64 s, .int .i64 f] wa (FindGives p A c A' c' b (.slice Aw way.length cw) g w0 (Lp.seek p (fun s' f' st' n' => Lp.enter p b way k s' f' st' (Lp.len p st + Lp.secLen p s) n') s (Lp.len p st + Lp.secLen p s) st (Wk.outs p s f) (n + 1)) B d st u wa) := by
  rw [Bool.or_eq_false_iff] at hT
  obtain ⟨hT1, hT2⟩ := hT
  have hn5 := of_decide_eq_false hT1
  obtain ⟨⟨-, -, -, -, -, -, -, -, p8, -⟩, ⟨f8, -⟩, gg⟩ := frow10 hh.2.2
  have q1 : IntKind.i64.wrap ((n : Int) + 1) = (n : Int) + 1 := IntWalk.i64_in _ (by omega)
  have HC := Lib.hid hh.came
  have OC := Lib.hid (own_tame ho HC.out.2 (by decide) (by decide))
  have CB := Lib.hid (pBarred_any (hway.below rfl HC.out.1.1) hwl s st B d HC.out.1 (OwnS.row OC.out) (by omega))
  rw [hT2] at CB
  have D : decide (400 < (n : Int) + 1) = false := dec_f (by omega)
  have E : ((st.length : Int) == 16) = false := by rw [beq_eq_false_iff_ne]; omega
  have CO := Lib.hid (fun W (hb : Below w0.heap.size w0 W) => pwOuts_own p A c A' c' s f W (hI.below hb) hsl)
  have HIH := Lib.hid IH
  have HI := Lib.hid hI
  have HM := Lib.hid hm
  have HL := Lib.hid hl
  have hlo' := Wk.outs_len p s f
  have HSX := Lib.hid (fun (x : Wk.Stp) (hx : x ∈ Wk.outs p s f) => Cr.outs_sec hx)
  have HZ0 := Lib.hid (own_lt ho)
  have HN1 := Lib.hid (show n + 1 ≤ 400 from by omega)
  have HLE := Lib.hid (fun s' f' st' (n' : Nat) => show n' ≤ (Lp.enter p b way k s' f' st' (Lp.len p st + Lp.secLen p s) n').2 ∧ (Lp.enter p b way k s' f' st' (Lp.len p st + Lp.secLen p s) n').2 ≤ n' + (2 ^ (k + 1) - 1) from ⟨Nat.le_of_lt (Lp.enter_le p b way k s' f' st' _ n').1, (Lp.enter_le p b way k s' f' st' _ n').2⟩)
  clear hT1 hT2 hn4 hn5 hh ho hI hm IH hl hway hwl
  generalize Wk.outs p s f = L at CO hlo' HSX ⊢
  generalize hgo : (fun (s' f' : Int) (st' : List Wk.Stp) (n' : Nat) => Lp.enter p b way k s' f' st' (Lp.len p st + Lp.secLen p s) n') = go
  have HGO := Lib.hid hgo
  have HLG := Lib.hid (show ∀ s f st n, n ≤ (go s f st n).2 ∧ (go s f st n).2 ≤ n + (2 ^ (k + 1) - 1) from by rw [← hgo]; exact HLE.out)
  clear hgo HLE
  generalize hsm : Lp.len p st + Lp.secLen p s = sm at HGO ⊢
  have HSM := Lib.hid hsm
  clear hsm
  generalize hres : Lp.seek p go s sm st L (n + 1) = res
  have HRES := Lib.hid hres
  clear hres
  obtain ⟨i0, hi, hz0, hz1, hz2⟩ := info_parts infoStp
  go_enter Try.func24, Try.ntmps24
  go_wp2_with fail
  refine CB.out.mono ?_; rintro e w1 ⟨rfl, hb1⟩
  have T1 := Lib.hid (HC.out.2.trans (Below.tame hb1 _ _))
  have H1 := Lib.hid (HC.out.1.below hb1)
  have O1 := Lib.hid (ownsRow_below OC.out hb1)
  clear hb1 p8 f8 gg HC OC CB
  obtain ⟨⟨p0, p1, p2, p3, p4, p5, -, -, -, -⟩, -, gg⟩ := frow10 H1.out.2.2
  go_wp2_with fail
  refine (CO.out _ H1.out.1).mono ?_; rintro e w5 ⟨Al, dl, rfl, hol, hb5⟩
  have T5 := Lib.hid (T1.out.trans (Below.tame hb5 _ _))
  have H5 := Lib.hid (H1.out.below hb5)
  have O5 := Lib.hid (show OwnS w0.heap.size w5 B d st from ownsRow_below O1.out hb5)
  have OL := Lib.hid hol
  have HLB := Lib.hid (show ∀ j, blk Al = some j → blk B ≠ some j from fun j hj hb => by
    have h1 := (own_lt hol j hj).1
    have h2 := (HZ0.out j hb).2
    have h3 := T1.out.size
    omega)
  clear hol hb5 p0 p1 p2 p3 p4 p5 gg D E q1 CO T1 H1 O1
  go_wp2_with fail
  go_loopw [40] (fun i w' => ∃ j m : Nat, j ≤ L.length ∧ i = .int .i64 j ∧ m ≤ 400 ∧ Lp.seek p go s sm st (L.drop j) m = res ∧ FindAt p A c A' c' b (.slice Aw way.length cw) g w0 w' m u ∧ OwnS w0.heap.size w' B d st ∧ PFind (blk B) w5 w') (fun i _ => L.length - (intOf i).toNat)
  case atStart => exact ⟨0, n + 1, Nat.zero_le _, rfl, HN1.out, by rw [List.drop_zero]; exact HRES.out, H5.out, O5.out, Seeks.refl _ _ _ _⟩
  case round =>
    obtain ⟨j, m, hj, rfl, hm4, hsk, hS, hO, hP⟩ := hrel
    by_cases hlt : j < L.length
    · have hdr : L.drop j = L[j] :: L.drop (j + 1) := List.drop_eq_getElem_cons hlt
      have OLr := own_seeks OL.out hP (by decide) (by decide) (fun k hk => HLB.out k (by rw [blk_own] at hk; exact hk))
      obtain ⟨bl, ol, rfl, hbl, on⟩ := (OwnS.row OLr).at hlt
      obtain ⟨a0, a1, a2⟩ := stp_on on
      rw [show j * LStp.m = j * 3 from rfl] at a0 a1 a2
      have hxs := HSX.out L[j] (List.getElem_mem hlt)
      rw [hdr] at hsk
      clear OLr hdr on
      generalize L[j] = x at a0 a1 a2 hsk hxs
      have HSK := Lib.hid hsk
      have HLE1 := Lib.hid (show (Lp.one p go s sm st x m).2 ≤ res.2 from by rw [← hsk]; exact Lp.seek_one_le HLG.out)
      have HXS := Lib.hid hxs
      have HM4 := Lib.hid hm4
      have HS := Lib.hid hS
      have HOr := Lib.hid hO
      have HP := Lib.hid hP
      have OW := Lib.hid (World.ownsRow.alloc (World.ownsRow.alloc hO (.cells #[.int .i64 x.s, .int .i64 x.f, .int .i64 x.t] 47)) (.cells #[.int .i64 x.s, .int .i64 x.f, .int .i64 x.t] 47))
      have NW := Lib.hid (step_one (wr.alloc (.cells #[.int .i64 x.s, .int .i64 x.f, .int .i64 x.t] 47)) x (g := wr.heap.size + 1) (by simp))
      have hst : st.length ≤ 15 := by have := HL.out; omega
      have hws := hS.1.size
      clear hS hO hP hxs hsk hm4
      go_wp2_with (at_builtin; refine wpList_append_keeps LStp _ rfl (.tmp 45) (.tmp 47) 23 rfl w0.heap.size 47 i0 _ 24 Try.underlying23 hi hz0 hz1 hz2 rfl (.slice B st.length d) st.length (LStp.all st) rfl OW.out (some ⟨wr.heap.size + 1, 0, none⟩) 1 1 [x] rfl (by decide) rfl NW.out (by omega) (by omega) (by simp; omega) ?_; intro g1 cap1 w8 hown1 hkeep1 hat1)
      have GM := Lib.hid (find_more HS.out HOr.out hown1 hkeep1 hat1)
      have CL := Lib.hid (show Calls Try.prog 37 #[.pointer (some ⟨g, 0, none⟩), .slice (some ⟨g1, 0, none⟩) (st.length + 1) cap1] w8 (FindGives p A c A' c' b (.slice Aw way.length cw) g w0 (Lp.one p go s sm st x m) (some ⟨g1, 0, none⟩) cap1 (st ++ [x]) u w8) from by
        have h := plLeave_any HI.out HM.out hsl k HIH.out s st x HXS.out (some ⟨g1, 0, none⟩) cap1 GM.out.1 GM.out.2.1 HL.out HM4.out (st.length + 1) rfl
        rw [HSM.out, HGO.out] at h
        exact h)
      clear hown1 hkeep1 hat1 OW NW
      have HSO := Lib.hid (show (match Lp.one p go s sm st x m with | (some r, m1) => (some r, m1) | (none, m1) => Lp.seek p go s sm st (L.drop (j + 1)) m1) = res from by rw [← Lp.seek_one]; exact HSK.out)
      generalize Lp.one p go s sm st x m = q at CL HSO HLE1
      obtain ⟨qo, qm⟩ := q
      refine CL.out.mono ?_; rintro e w9 (⟨h1, rfl, m', u', h2, h3⟩ | ⟨h1, h2, rfl, h3, h4, h5⟩ | ⟨h1, l, B', d', h2, rfl, h3, h4⟩)
      · have R := Lib.hid (show FindGives p A c A' c' b (.slice Aw way.length cw) g w0 res B d st u wa (.returned (.bool true)) w9 from .inl ⟨Nat.lt_of_lt_of_le h1 HLE1.out, rfl, m', u', h2, h3⟩)
        clear h1 h2 h3
        go_wp2_with fail
        go_ret
        exact R.out
      · simp only at h1 h2 h3
        subst h2
        have GB := Lib.hid (find_back HOr.out GM.out.2.2.1 h4 GM.out.2.2.2.1 h5 GM.out.2.2.2.2)
        have R := Lib.hid (And.intro h1 (And.intro (show Lp.seek p go s sm st (L.drop (j + 1)) qm = res from HSO.out) (And.intro h3 (And.intro GB.out.1 (HP.out.trans GB.out.2)))))
        clear h1 h3 h4 h5
        go_wp2_with fail
        go_roundw
        case rel => exact ⟨j + 1, qm, by omega, by go_num, R.out⟩
        case measure => simp [intOf]; omega
      · simp only at h1 h2 h3
        subst h2
        have R := Lib.hid (show FindGives p A c A' c' b (.slice Aw way.length cw) g w0 res B d st u wa (.returned (.bool true)) w9 from by
          have h := HSO.out
          simp only at h
          subst h
          exact .inr (.inr ⟨h1, l, B', d', rfl, rfl, h3, h4⟩))
        clear h1 h3 h4
        go_wp2_with fail
        go_ret
        exact R.out
    · obtain rfl : j = L.length := by omega
      rw [List.drop_length] at hsk
      have R := Lib.hid (show FindGives p A c A' c' b (.slice Aw way.length cw) g w0 res B d st u wa (.returned (.bool false)) wr from by
        subst hsk
        exact .inr (.inl ⟨hm4, rfl, rfl, hS, hO, (T5.out.seeks _).trans hP⟩))
      clear hm4 hsk hS hO hP
      go_wp2_with fail
      go_ret
      exact R.out
/-- The program's search. -/
theorem plEnter_any (hI : PlanIn w0 p A A') (hm : Lp.Meas p) (hsl : p.secs.length ≤ 24) (hway : LStp.Row w0 Aw way) (hwl : way.length ≤ 1000) : ∀ k : Nat, FindIH p A c A' c' b way Aw cw g w0 k
  | 0 => fun s f st B d u n wr hh ho hl hn => plEnter_turn hway hwl s f st B d hh ho (by omega) (by omega) (.inr (by omega))
  | k + 1 => fun s f st B d u n wr hh ho hl hn => by
    cases hT : decide (400 < n + 1) || Lp.bars b way st s with
    | true =>
      rw [Lp.enter, if_pos hT]
      exact plEnter_turn hway hwl s f st B d hh ho (by omega) (by omega) (.inl hT)
    | false =>
      rw [Lp.enter, if_neg (by rw [hT]; decide)]
      exact plEnter_step hI hm hsl hway hwl k (plEnter_any hI hm hsl hway hwl k) s f st B d n hh ho hl hn hT
end
end Go.Proofs.Ytfmpjljddfaggaa
