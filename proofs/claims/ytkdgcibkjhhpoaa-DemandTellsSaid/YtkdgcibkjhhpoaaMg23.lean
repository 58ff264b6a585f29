/-
  Texts of this claim, merged: DmProg.
-/
import Derived.Test.YtkdgcibkjhhpoaaMg22
/-
  The walks of layer 9: what steps ask of points, by the document and by the program.
-/
namespace Go.Proofs.Ytkdgcibkjhhpoaa
open Go.RowKit

namespace Dm
theorem ofSteps_take {p : Pl.Plan} {L : List Wk.Stp} {k : Nat} {y : Wk.Stp} (h : L[k]? = some y) : ofSteps p (L.take (k + 1)) = if 0 < Wk.position p y then put (ofSteps p (L.take k)) ⟨y.s, Wk.position p y⟩ else ofSteps p (L.take k) := by
  rw [List.take_add_one, h]
  unfold ofSteps
  rw [List.foldl_append]
  rfl
theorem put_len (L : List Dem) (x : Dem) : (put L x).length ≤ L.length + 1 := by
  unfold put
  split
  · omega
  · have h : L.takeWhile (low x.pt) ++ L.dropWhile (low x.pt) = L := List.takeWhile_append_dropWhile
    have := congrArg List.length h
    rw [List.length_append] at this
    rw [List.length_append, List.length_cons]
    omega
theorem ofSteps_len (p : Pl.Plan) (L : List Wk.Stp) : ∀ k, (ofSteps p (L.take k)).length ≤ k
  | 0 => by rw [List.take_zero]; exact Nat.le_refl _
  | k + 1 => by
    have ih := ofSteps_len p L k
    cases h : L[k]? with
    | none =>
      rw [List.take_add_one, h]
      show (ofSteps p (L.take k ++ [])).length ≤ _
      rw [List.append_nil]; omega
    | some y =>
      rw [ofSteps_take h]
      split
      · have := put_len (ofSteps p (L.take k)) ⟨y.s, Wk.position p y⟩; omega
      · omega
end Dm
set_option maxHeartbeats 8000000 in
set_option maxRecDepth 100000 in
theorem rdOf_any (p : Pl.Plan) (A : Option Addr) (c : Nat) (A' : Option Addr) (c' : Nat) (L : List Wk.Stp) (B : Option Addr) (d : Nat) (w : World) (h : PlanIn w p A A') (hL : LStp.Row w B L) (hl : L.length ≤ 500) :
    Calls Try.prog 16 #[planV p A c A' c', .slice B L.length d] w (DemsYes (Dm.ofSteps p L) w) := by
  --[
  have XA := (Below.refl w.heap.size w).alloc (Nat.le_refl _) (planO p A c A' c')
  have X0 := Lib.hid XA
  have RP := Lib.hid (heap_alloc_new w (planO p A c A' c'))
  have gp := (Array.getElem?_eq_some_iff.1 RP.out).1
  have HI := Lib.hid (h.below XA)
  have HL := Lib.hid (hL.below rfl XA)
  have KP := Lib.hid (fun W (hW : Below (w.alloc (planO p A c A' c')).heap.size (w.alloc (planO p A c A' c')) W) => (row6 ((hW.block _ gp).trans RP.out)).1)
  have T0 := Lib.hid (Below.refl (w.alloc (planO p A c A' c')).heap.size (w.alloc (planO p A c A' c')))
  clear XA h hL
  go_enter Try.func16, Try.ntmps16
  go_upto_region 2 with fail
  generalize w.alloc (planO p A c A' c') = w1 at X0 RP gp HI HL KP T0 ⊢
  generalize w.heap.size = gq at RP gp KP ⊢
  go_wp2_with fail
  go_loopw [5, 6, 7] (fun v1 v2 _ w' => ∃ (k : Nat) (B' : Option Addr) (d' : Nat), k ≤ L.length ∧ v1 = .slice B' (Dm.ofSteps p (L.take k)).length d' ∧ v2 = .int .i64 k ∧ LDem.Row w' B' (Dm.ofSteps p (L.take k)) ∧ (Dm.ofSteps p (L.take k)).length ≤ d' ∧ Below w1.heap.size w1 w') (fun _ v2 _ _ => L.length - (intOf v2).toNat)
  case atStart => exact ⟨0, none, 0, Nat.zero_le _, rfl, rfl, .inl rfl, Nat.le_refl _, T0.out⟩
  case round =>
    obtain ⟨k, B', d', hk, rfl, rfl, hR, hd, hB⟩ := hrel
    have HB := Lib.hid hB
    have HR := Lib.hid hR
    have HD := Lib.hid hd
    clear hB hR hd
    have HLN := Lib.hid (Dm.ofSteps_len p L k)
    by_cases hlt : k < L.length
    · have hy := List.getElem?_eq_getElem hlt
      obtain ⟨b1, o1, rfl, g1, on⟩ := (HL.out.below rfl HB.out).at hlt
      generalize L[k] = y at hy on
      obtain ⟨r0, r1, r2⟩ := stp_on on
      rw [show k * LStp.m = k * 3 from rfl] at r0 r1 r2
      have d1 : decide ((k : Int) < (L.length : Int)) = true := dec_t (by omega)
      have i0 : (0 : Int) ≤ (k : Int) := Int.natCast_nonneg k
      have i1 : (k : Int) < (L.length : Int) := by omega
      have HN := Lib.hid (Dm.ofSteps_take (p := p) hy)
      have KS := Lib.hid (fun W (hW : Below wr.heap.size wr W) => And.intro (KP.out _ (HB.out.trans (hW.mono HB.out.size))) (And.intro ((hW.cell (p := ⟨b1, o1 + k * 3, none⟩) g1).trans r0) (And.intro ((hW.cell (p := ⟨b1, o1 + k * 3 + 1, none⟩) g1).trans r1) ((hW.cell (p := ⟨b1, o1 + k * 3 + 2, none⟩) g1).trans r2))))
      have R0 := Lib.hid (Below.refl wr.heap.size wr)
      have CP := Lib.hid (fun W (hW : Below wr.heap.size wr W) => Made.of (w := wr) hW (rwPosition_any p A c A' c' y W (HI.out.below (HB.out.trans (hW.mono HB.out.size)))))
      generalize hpos : Wk.position p y = n at CP HN
      obtain ⟨s, f, t⟩ := y
      clear hpos hy on
      simp only at r0 r1 r2
      generalize HQ : Dm.ofSteps p (L.take k) = M at HR HD HLN HN ⊢
      clear HQ
      obtain ⟨⟨p0, p1, p2, p3, p4, p5⟩, -⟩ := KS.out _ R0.out
      go_upto_region 5 with fail
      clear p0 p1 p2 p3 p4 p5 r0 r1 r2
      go_region_held3 (fun W' => (W'.cell? ⟨gq, 0, none⟩ = some (.int .i64 p.ov) ∧ W'.cell? ⟨gq, 1, none⟩ = some (.int .i64 p.ap) ∧ W'.cell? ⟨gq, 2, none⟩ = some (.int .i64 p.se) ∧ W'.cell? ⟨gq, 3, none⟩ = some (.int .i64 p.ho) ∧ W'.cell? ⟨gq, 4, none⟩ = some (.slice A p.secs.length c) ∧ W'.cell? ⟨gq, 5, none⟩ = some (.slice A' p.sigs.length c')) ∧ W'.cell? ⟨b1, o1 + k * 3, none⟩ = some (.int .i64 s) ∧ W'.cell? ⟨b1, o1 + k * 3 + 1, none⟩ = some (.int .i64 f) ∧ W'.cell? ⟨b1, o1 + k * 3 + 2, none⟩ = some (.int .i64 t))
        (first | with_reducible exact KS.out _ R0.out.drew | with_reducible exact KS.out _ h5)
        (first
          | (go_at_call 26; (with_reducible refine (CP.out _ R0.out.drew).mono ?_); rintro e5 w5 ⟨rfl, -, h5, -⟩))
      obtain ⟨-, r0, -, -⟩ := KS.out _ h5
      have HB5 := Lib.hid (HB.out.trans (h5.mono HB.out.size))
      have HR5 := Lib.hid (HR.out.below rfl h5)
      clear h5 CP KS
      by_cases hn : 0 < n
      · have D : decide (0 < n) = true := dec_t hn
        have HN2 := Lib.hid (show Dm.ofSteps p (L.take (k + 1)) = Dm.put M ⟨s, n⟩ from by rw [HN.out, if_pos hn])
        have CU := Lib.hid (rdPut_any B' d' M ⟨s, n⟩ w5 HR5.out (by have := HLN.out; omega) HD.out)
        clear hn HN
        go_wp2_with fail
        refine CU.out.mono ?_; rintro e6 w6 ⟨B6, d6, rfl, hR6, hd6, hb6⟩
        rw [← HN2.out] at hR6 hd6 ⊢
        have HR6 := Lib.hid hR6
        have HD6 := Lib.hid hd6
        have HB6 := Lib.hid (HB5.out.trans (hb6.mono HB5.out.size))
        generalize hq : (Dm.ofSteps p (List.take (k + 1) L)).length = N6
        have HQ6 := Lib.hid hq
        clear hR6 hd6 hb6 CU HN2 hq
        go_wp2_with fail
        go_roundw
        case rel => exact ⟨k + 1, B6, d6, by omega, by rw [HQ6.out], by go_num, HR6.out, HD6.out, HB6.out⟩
        case measure => simp [intOf]; omega
      · have D : decide (0 < n) = false := dec_f hn
        have HN2 := Lib.hid (show Dm.ofSteps p (L.take (k + 1)) = M from by rw [HN.out, if_neg hn])
        clear hn HN
        go_wp2_with fail
        go_roundw
        case rel => exact ⟨k + 1, B', d', by omega, by rw [HN2.out], by go_num, by rw [HN2.out]; exact HR5.out, by rw [HN2.out]; exact HD.out, HB5.out⟩
        case measure => simp [intOf]; omega
    · obtain rfl : k = L.length := by omega
      have d1 : decide ((L.length : Int) < (L.length : Int)) = false := dec_f (by omega)
      rw [List.take_length] at HR HD ⊢
      generalize hq : Dm.ofSteps p L = M at HR HD ⊢
      have HQ := Lib.hid hq
      clear hq
      have HX := Lib.hid (X0.out.trans (HB.out.mono X0.out.size))
      go_wp2_with fail
      go_ret
      rw [HQ.out]
      exact ⟨B', d', rfl, HR.out, HD.out, HX.out⟩
  --]
set_option maxHeartbeats 8000000 in
set_option maxRecDepth 100000 in
theorem pdOf_any (p : Pl.Plan) (hps : p.secs.length ≤ 24) (A : Option Addr) (c : Nat) (A' : Option Addr) (c' : Nat) (L : List Wk.Stp) (B : Option Addr) (d : Nat) (w : World) (h : PlanIn w p A A') (hL : LStp.Row w B L) (hl : L.length ≤ 500) :
    Calls Try.prog 15 #[planV p A c A' c', .slice B L.length d] w (DemsYes (Dm.ofSteps p L) w) := by
  --[
  have XA := (Below.refl w.heap.size w).alloc (Nat.le_refl _) (planO p A c A' c')
  have X0 := Lib.hid XA
  have RP := Lib.hid (heap_alloc_new w (planO p A c A' c'))
  have gp := (Array.getElem?_eq_some_iff.1 RP.out).1
  have HI := Lib.hid (h.below XA)
  have HL := Lib.hid (hL.below rfl XA)
  have KP := Lib.hid (fun W (hW : Below (w.alloc (planO p A c A' c')).heap.size (w.alloc (planO p A c A' c')) W) => (row6 ((hW.block _ gp).trans RP.out)).1)
  have T0 := Lib.hid (Below.refl (w.alloc (planO p A c A' c')).heap.size (w.alloc (planO p A c A' c')))
  clear XA h hL
  go_enter Try.func15, Try.ntmps15
  go_upto_region 2 with fail
  generalize w.alloc (planO p A c A' c') = w1 at X0 RP gp HI HL KP T0 ⊢
  generalize w.heap.size = gq at RP gp KP ⊢
  go_wp2_with fail
  go_loopw [5, 8, 11] (fun v1 _ v2 w' => ∃ (k : Nat) (B' : Option Addr) (d' : Nat), k ≤ L.length ∧ v1 = .slice B' (Dm.ofSteps p (L.take k)).length d' ∧ v2 = .int .i64 k ∧ LDem.Row w' B' (Dm.ofSteps p (L.take k)) ∧ (Dm.ofSteps p (L.take k)).length ≤ d' ∧ Below w1.heap.size w1 w') (fun _ _ v2 _ => L.length - (intOf v2).toNat)
  case atStart => exact ⟨0, none, 0, Nat.zero_le _, rfl, rfl, .inl rfl, Nat.le_refl _, T0.out⟩
  case round =>
    obtain ⟨k, B', d', hk, rfl, rfl, hR, hd, hB⟩ := hrel
    have HB := Lib.hid hB
    have HR := Lib.hid hR
    have HD := Lib.hid hd
    clear hB hR hd
    have HLN := Lib.hid (Dm.ofSteps_len p L k)
    by_cases hlt : k < L.length
    · have hy := List.getElem?_eq_getElem hlt
      obtain ⟨b1, o1, rfl, g1, on⟩ := (HL.out.below rfl HB.out).at hlt
      generalize L[k] = y at hy on
      obtain ⟨r0, r1, r2⟩ := stp_on on
      rw [show k * LStp.m = k * 3 from rfl] at r0 r1 r2
      have d1 : decide ((k : Int) < (L.length : Int)) = true := dec_t (by omega)
      have i0 : (0 : Int) ≤ (k : Int) := Int.natCast_nonneg k
      have i1 : (k : Int) < (L.length : Int) := by omega
      have HN := Lib.hid (Dm.ofSteps_take (p := p) hy)
      obtain ⟨s, f, t⟩ := y
      simp only at r0 r1 r2
      have RX := Lib.hid (heap_alloc_new wr (.cells #[.int .i64 s, .int .i64 f, .int .i64 t] 34))
      have HX := Lib.hid (HB.out.alloc HB.out.size (.cells #[.int .i64 s, .int .i64 f, .int .i64 t] 34))
      have HR2 := Lib.hid (HR.out.below rfl ((Below.refl wr.heap.size wr).alloc (Nat.le_refl _) (.cells #[.int .i64 s, .int .i64 f, .int .i64 t] 34)))
      go_upto_region 5 with fail
      generalize wr.alloc (.cells #[.int .i64 s, .int .i64 f, .int .i64 t] 34) = w2 at RX HX HR2 ⊢
      generalize wr.heap.size = gx at RX ⊢
      clear r0 r1 r2
      obtain ⟨⟨t0, t1, t2⟩, -, gx2⟩ := row3 RX.out
      obtain ⟨p0, p1, p2, p3, p4, p5⟩ := KP.out _ HX.out
      have CP := Lib.hid (pwPosition_any p A c A' c' ⟨s, f, t⟩ w2 (HI.out.below HX.out) hps)
      generalize hpos : Wk.position p ⟨s, f, t⟩ = n at CP HN
      generalize hq : Dm.ofSteps p (L.take k) = M at HR2 HD HLN HN ⊢
      clear hpos hy on hq
      go_wp2_with fail
      refine CP.out.mono ?_; rintro e5 w5 ⟨rfl, h5⟩
      obtain ⟨⟨t0', t1', t2'⟩, -, -⟩ := row3 ((h5.block _ (Array.getElem?_eq_some_iff.1 RX.out).1).trans RX.out)
      have HB5 := Lib.hid (HX.out.trans (h5.mono HX.out.size))
      have HR5 := Lib.hid (HR2.out.below rfl h5)
      clear h5 CP t0 t1 t2 p0 p1 p2 p3 p4 p5
      by_cases hn : 0 < n
      · have D : decide (0 < n) = true := dec_t hn
        have HN2 := Lib.hid (show Dm.ofSteps p (L.take (k + 1)) = Dm.put M ⟨s, n⟩ from by rw [HN.out, if_pos hn])
        have CU := Lib.hid (pdPut_any B' d' M ⟨s, n⟩ w5 HR5.out (by have := HLN.out; omega) HD.out)
        clear hn HN
        go_wp2_with fail
        refine CU.out.mono ?_; rintro e6 w6 ⟨B6, d6, rfl, hR6, hd6, hb6⟩
        rw [← HN2.out] at hR6 hd6 ⊢
        have HR6 := Lib.hid hR6
        have HD6 := Lib.hid hd6
        have HB6 := Lib.hid (HB5.out.trans (hb6.mono HB5.out.size))
        generalize hq : (Dm.ofSteps p (List.take (k + 1) L)).length = N6
        have HQ6 := Lib.hid hq
        clear hR6 hd6 hb6 CU HN2 hq
        go_wp2_with fail
        go_roundw
        case rel => exact ⟨k + 1, B6, d6, by omega, by rw [HQ6.out], by go_num, HR6.out, HD6.out, HB6.out⟩
        case measure => simp [intOf]; omega
      · have D : decide (0 < n) = false := dec_f hn
        have HN2 := Lib.hid (show Dm.ofSteps p (L.take (k + 1)) = M from by rw [HN.out, if_neg hn])
        clear hn HN
        go_wp2_with fail
        go_roundw
        case rel => exact ⟨k + 1, B', d', by omega, by rw [HN2.out], by go_num, by rw [HN2.out]; exact HR5.out, by rw [HN2.out]; exact HD.out, HB5.out⟩
        case measure => simp [intOf]; omega
    · obtain rfl : k = L.length := by omega
      have d1 : decide ((L.length : Int) < (L.length : Int)) = false := dec_f (by omega)
      rw [List.take_length] at HR HD ⊢
      generalize hq : Dm.ofSteps p L = M at HR HD ⊢
      have HQ := Lib.hid hq
      clear hq
      have HX := Lib.hid (X0.out.trans (HB.out.mono X0.out.size))
      go_wp2_with fail
      go_ret
      rw [HQ.out]
      exact ⟨B', d', rfl, HR.out, HD.out, HX.out⟩
  --]
end Go.Proofs.Ytkdgcibkjhhpoaa
