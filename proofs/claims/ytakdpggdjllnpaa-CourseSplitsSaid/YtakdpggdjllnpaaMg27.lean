/-
  Texts of this claim, merged: CourseSplitsWalk.
-/
import Derived.Test.YtakdpggdjllnpaaMg22
/-
  The walk of the law CourseSplits: it returns true.
-/
namespace Go.Proofs.Ytakdpggdjllnpaa
open Go.RowKit

namespace Cr
open Go Pl Wk
theorem chain_sec {p : Plan} {b : Int} : ∀ {k : Nat} {t : List Stp} {s f : Int} {st : List Stp} {z : Int}, Chain p b s f st t z → ∀ x, t[k]? = some x → ∃ s' f' : Int, x ∈ outs p s' f'
  | _, [], _, _, _, _, h, _, _ => by unfold Chain at h; exact h.elim
  | 0, y :: t, s, f, st, z, h, x, hx => by
    obtain rfl : y = x := by simpa using hx
    unfold Chain at h
    exact ⟨s, f, h.1.2.2⟩
  | k + 1, y :: t, s, f, st, z, h, x, hx => by
    have hx' : t[k]? = some x := by simpa using hx
    unfold Chain at h
    obtain ⟨-, h4⟩ := h
    rcases h4 with ⟨-, rfl, -⟩ | ⟨-, h4⟩
    · simp at hx'
    · exact chain_sec h4 x hx'
/-- A step through a section goes out of an end that it has. -/
theorem outs_in {p : Plan} {s f : Int} {x : Stp} (h : x ∈ outs p s f) : ∃ (i e : Nat) (s0 : Sec), x.s = i ∧ x.t = e ∧ e < 3 ∧ p.secs[i]? = some s0 := by
  have hs := outs_sec h
  unfold outs at h
  cases hq : secAt p s with
  | none => rw [hq] at h; cases h
  | some y =>
    rw [hq] at h
    simp only at h
    unfold secAt at hq
    split at hq
    · cases hq
    · rename_i h0
      refine ⟨s.toNat, x.t.toNat, y, by rw [hs]; omega, ?_⟩
      have ht : x.t = 0 ∨ x.t = 1 ∨ x.t = 2 := by
        split at h
        · split at h
          · simp only [List.mem_cons, List.not_mem_nil, or_false] at h
            rcases h with rfl | rfl
            · exact .inr (.inl rfl)
            · exact .inr (.inr rfl)
          · split at h
            · rw [List.mem_singleton] at h; rw [h]; exact .inl rfl
            · cases h
        · split at h
          · rename_i hf
            rw [List.mem_singleton] at h
            rw [h]
            simp only
            omega
          · cases h
      exact ⟨by omega, by omega, hq⟩
/-- What a signal more at an end by which a way goes on does. -/
theorem way_split {p : Plan} {j : Nat} (hj : j < p.sigs.length) {w : Way} (hw : w ∈ (of p j).1) {k : Nat} {x : Stp} (hx : w.steps[k]? = some x) (nm : Nm) : ∃ (i e : Nat) (s0 : Sec), x.s = i ∧ x.t = e ∧ e < 3 ∧ p.secs[i]? = some s0 ∧ (k + 1 < w.steps.length →
    (of (splitP p i e nm) j).2 = 0 ∧ (⟨w.steps.take (k + 1), p.sigs.length⟩ : Way) ∈ (of (splitP p i e nm) j).1 ∧ ((⟨w.steps.drop (k + 1), w.exit⟩ : Way) ∈ (of (splitP p i e nm) p.sigs.length).1 ∨ (of (splitP p i e nm) p.sigs.length).2 = 10)) := by
  have hg := List.getElem?_eq_getElem hj
  rw [of_some (show sigAt p j = some p.sigs[j] from by unfold sigAt; rw [if_neg (by omega), Int.toNat_natCast, hg])] at hw
  obtain ⟨-, -, -, h4⟩ := of_way hw
  obtain ⟨s', f', hm⟩ := chain_sec h4 x hx
  obtain ⟨i, e, s0, h1, h2, h3, h5⟩ := outs_in hm
  obtain ⟨xs, xf, xt⟩ := x
  simp only at h1 h2
  subst h1
  subst h2
  exact ⟨i, e, s0, rfl, rfl, h3, h5, fun hk => of_split hg hw hk hx nm h5 h3⟩
end Cr
theorem own_void (w : World) (t : TypeId) (size : Nat) {g base : Nat} (hg : w.heap.size = g) (hb : base ≤ g) : (w.alloc (.cells #[] t)).ownsRow base t size (.slice (some ⟨g, 0, none⟩) 0 0) 0 [] := by
  subst hg
  exact ⟨by simp, .inr ⟨w.heap.size, 0, #[], rfl, hb, heap_alloc_new _ _, Nat.le_refl _, by unfold maxLen; omega, by simp, by simp⟩⟩
theorem sec_store {w : World} {base g n cap : Nat} {L : List Pl.Sec} (h : w.ownsRow base 53 12 (.slice (some ⟨g, 0, none⟩) n cap) n (LSec.all L)) {i e : Nat} {s : Pl.Sec} (hs : L[i]? = some s) (he : e < 3) (v : Int) :
    (∃ u, w.cell? ⟨g, i * 12 + 3 + e * 3 + 2, none⟩ = some (.int .i64 u)) ∧ w.frozen? ⟨g, i * 12 + 3 + e * 3 + 2, none⟩ = false ∧ g < w.heap.size ∧ base ≤ g ∧ (w.setCell ⟨g, i * 12 + 3 + e * 3 + 2, none⟩ (.int .i64 v)).ownsRow base 53 12 (.slice (some ⟨g, 0, none⟩) n cap) n (LSec.all (L.set i (Cr.posted s e v))) := by
  have e1 : i * 12 + 3 + e * 3 + 2 = i * 12 + (3 + e * 3 + 2) := by omega
  have hee : e = 0 ∨ e = 1 ∨ e = 2 := by omega
  have on := Lies.own_on (E := LSec) h hs
  have hst := (h.stored (i * 12 + (3 + e * 3 + 2)) (.int .i64 v)).1
  have hsc : (LSec.all L).set (i * 12 + (3 + e * 3 + 2)) (.int .i64 v) = LSec.all (L.set i (Cr.posted s e v)) := Lies.set_cell (E := LSec) L i (3 + e * 3 + 2) s (Cr.posted s e v) hs (show 3 + e * 3 + 2 < 12 by omega) (.int .i64 v) (by rcases hee with rfl | rfl | rfl <;> rfl)
  rw [hsc] at hst
  obtain ⟨hb, hlt⟩ := h.lt g rfl
  refine ⟨⟨(s.get e).sig, ?_⟩, ?_, hlt, hb, ?_⟩
  · rw [e1]
    exact on (3 + e * 3 + 2) _ (by rcases hee with rfl | rfl | rfl <;> rfl)
  · rcases h.2 with ⟨h', -⟩ | ⟨g', cap', cur, h', -, hg, -⟩
    · cases h'
    · obtain rfl : g = g' := by cases h'; rfl
      exact frozen_of_row w g _ cur _ hg
  · rw [e1]; exact hst
theorem row_news {α : Type} {E : Lies α} {w : World} {b o : Nat} {L : List α} (h : E.Row w (some ⟨b, o, none⟩) L) : ∀ j u, (E.all L)[j]? = some u → w.cell? ((⟨b, o, none⟩ : Addr).add j) = some u := by
  rcases h with rfl | ⟨b', o', hA, -, h⟩
  · intro j u hj
    simp [Lies.all] at hj
  · cases hA
    exact Lies.news h
abbrev zigO (i e : Int) : Obj := .cells #[.string ⟨#[122, 122, 122, 122, 122, 122, 122, 122]⟩, .int .i64 i, .int .i64 e] 36
/-- A station with a signal more, in memory. -/
theorem split_plan {wX w4 : World} {p : Pl.Plan} {i e : Nat} {s0 : Pl.Sec} {nm : Pl.Nm} {gQ g1 cap1 g3 cap3 gB gD : Nat} {A' : Option Addr} {c' : Nat} (hq : w4.heap[gQ]? = some (planO p (some ⟨g1, 0, none⟩) cap1 A' c')) (hS : w4.ownsRow gB 53 12 (.slice (some ⟨g1, 0, none⟩) p.secs.length cap1) p.secs.length (LSec.all (p.secs.set i (Cr.posted s0 e p.sigs.length))))
    (hG : w4.ownsRow gD 36 3 (.slice (some ⟨g3, 0, none⟩) (p.sigs.length + 1) cap3) (p.sigs.length + 1) (LSig.all p.sigs ++ sigCells ⟨nm, i, e⟩)) (hb : Below wX.heap.size wX w4) (hgq : wX.heap.size ≤ gQ) (hs0 : p.secs[i]? = some s0) :
    (w4.setCell ⟨gQ, 5, none⟩ (.slice (some ⟨g3, 0, none⟩) (p.sigs.length + 1) cap3)).heap[gQ]? = some (planO (Cr.splitP p i e nm) (some ⟨g1, 0, none⟩) cap1 (some ⟨g3, 0, none⟩) cap3) ∧ PlanIn (w4.setCell ⟨gQ, 5, none⟩ (.slice (some ⟨g3, 0, none⟩) (p.sigs.length + 1) cap3)) (Cr.splitP p i e nm) (some ⟨g1, 0, none⟩) (some ⟨g3, 0, none⟩) ∧ Below wX.heap.size wX (w4.setCell ⟨gQ, 5, none⟩ (.slice (some ⟨g3, 0, none⟩) (p.sigs.length + 1) cap3)) := by
  have e1 : (Cr.splitP p i e nm).secs = p.secs.set i (Cr.posted s0 e p.sigs.length) := Cr.split_secs hs0
  have e2 : (Cr.splitP p i e nm).sigs = p.sigs ++ [⟨nm, i, e⟩] := rfl
  have l1 : (Cr.splitP p i e nm).secs.length = p.secs.length := by rw [e1, List.length_set]
  have l2 : (Cr.splitP p i e nm).sigs.length = p.sigs.length + 1 := by rw [e2, List.length_append]; rfl
  refine ⟨?_, ⟨?_, ?_⟩, hb.setCell (p := ⟨gQ, 5, none⟩) hgq _⟩
  · rw [heap_setCell_same _ _ _ _ _ _ hq]
    unfold planO
    rw [l1, l2]
    rfl
  · rw [e1]
    obtain ⟨-, A, c, hv, -, hR⟩ := Lies.Row.of_own (E := LSec) (set_pown (i := 5) (u := .slice (some ⟨g3, 0, none⟩) (p.sigs.length + 1) cap3) hq hS (by decide))
    cases hv
    exact hR
  · rw [e2]
    have hG' := set_pown (i := 5) (u := .slice (some ⟨g3, 0, none⟩) (p.sigs.length + 1) cap3) hq hG (by decide)
    rw [show LSig.all p.sigs ++ sigCells ⟨nm, i, e⟩ = LSig.all (p.sigs ++ [⟨nm, i, e⟩]) from by rw [LSig.all_append, LSig.all_one]; rfl] at hG'
    obtain ⟨-, A, c, hv, -, hR⟩ := Lies.Row.of_own (E := LSig) hG'
    cases hv
    exact hR
/-- Was that way met among the first ones? -/
def metW (l : List Cr.Way) (st : List Wk.Stp) (ex : Int) (j : Nat) : Bool := (l.take j).any fun q => decide (q.exit = ex) && decide (q.steps = st)
theorem metW_next {l : List Cr.Way} {st : List Wk.Stp} {ex : Int} {q : Cr.Way} {j : Nat} (h : l[j]? = some q) : metW l st ex (j + 1) = (metW l st ex j || (decide (q.exit = ex) && decide (q.steps = st))) := by
  unfold metW
  rw [List.take_add_one, h, List.any_append]
  simp
theorem metW_all {l : List Cr.Way} {st : List Wk.Stp} {ex : Int} (h : (⟨st, ex⟩ : Cr.Way) ∈ l) : metW l st ex l.length = true := by
  unfold metW
  rw [List.take_length, List.any_eq_true]
  exact ⟨_, h, by simp⟩
/-- The last of some steps. -/
theorem row_drop {w : World} {b o : Nat} {L : List Wk.Stp} (h : LStp.Row w (some ⟨b, o, none⟩) L) (k : Nat) : LStp.Row w (some ⟨b, o + k * 3, none⟩) (L.drop k) := by
  rcases h with rfl | ⟨b', o', hA, hb, h⟩
  · exact .inl List.drop_nil
  · cases hA
    refine .inr ⟨b, o + k * 3, rfl, hb, fun j y hj => ?_⟩
    rw [List.getElem?_drop] at hj
    have := h (k + j) y hj
    rwa [show o + (k + j) * LStp.m = o + k * 3 + j * LStp.m from by rw [show LStp.m = 3 from rfl, Nat.add_mul]; omega] at this
abbrev bytO (a b c : Int) : Obj := .cells #[.int .u8 a, .int .u8 b, .int .u8 c] 48
set_option maxHeartbeats 8000000 in
set_option maxRecDepth 100000 in
theorem courseSplits_walk (s : ByteArray) (x y z : Int) (W : World) (_ws : s.size ≤ maxLen) (wx : (Lit.int .u8 x).wf = true) (wy : (Lit.int .u8 y).wf = true) (wz : (Lit.int .u8 z).wf = true) :
    Calls Try.prog 6 #[.string s, .agg #[.int .u8 x, .int .u8 y, .int .u8 z]] W fun e w' => e = .returned (.bool true) ∧ Below W.heap.size W w' := by
  have AW := Lib.hid crAwake_any
  have bx := wf_u8 wx
  have by' := wf_u8 wy
  have bz := wf_u8 wz
  clear wx wy wz
  have XB := Lib.hid ((Below.refl W.heap.size W).alloc (Nat.le_refl _) (bytO x y z))
  have RB := Lib.hid (heap_alloc_new W (bytO x y z))
  cases hm : madeP s.data.toList with
  | none =>
    have CM := Lib.hid (fun W => made_none hm W)
    clear hm bx by' bz
    go_enter Try.func6, Try.ntmps6
    go_wp2_with fail
    refine (CM.out _).mono ?_; rintro e w1 ⟨p, S, cS, G, cG, rfl, hb1⟩
    have B1 := Lib.hid ((XB.out.trans (hb1.mono XB.out.size)).alloc (XB.out.trans (hb1.mono XB.out.size)).size (planO p S cS G cG))
    clear hb1
    go_wp2_with fail
    refine (AW.out _).mono ?_; rintro e w2 ⟨rfl, hb2⟩
    go_wp2
    go_ret
    exact ⟨rfl, B1.out.trans (hb2.mono B1.out.size)⟩
  | some p =>
    have CM := Lib.hid (fun W => made_some hm W)
    obtain ⟨hfit, -⟩ := madeP_some hm
    have hfew := hfit.few
    have hgfew := hfit.gfew
    clear hm hfit
    by_cases hz : p.sigs.length = 0
    · have DZ : ((p.sigs.length : Int) == 0) = true := by rw [beq_iff_eq]; omega
      clear hz bx by' bz
      go_enter Try.func6, Try.ntmps6
      go_wp2_with fail
      refine (CM.out _).mono ?_; rintro e w1 ⟨S, cS, G, cG, rfl, pin, hb1⟩
      have B1 := Lib.hid ((XB.out.trans (hb1.mono XB.out.size)).alloc (XB.out.trans (hb1.mono XB.out.size)).size (planO p S cS G cG))
      obtain ⟨⟨p0, p1, p2, p3, p4, p5⟩, -, gp⟩ := row6 (heap_alloc_new w1 (planO p S cS G cG))
      clear hb1 pin
      go_wp2_with fail
      refine (AW.out _).mono ?_; rintro e w2 ⟨rfl, hb2⟩
      go_wp2
      go_ret
      exact ⟨rfl, B1.out.trans (hb2.mono B1.out.size)⟩
    have DZ : ((p.sigs.length : Int) == 0) = false := by rw [beq_eq_false_iff_ne]; omega
    by_cases hz2 : p.sigs.length = 12
    · have DT : ((p.sigs.length : Int) == 12) = true := by rw [beq_iff_eq]; omega
      clear hz2 hz bx by' bz
      go_enter Try.func6, Try.ntmps6
      go_wp2_with fail
      refine (CM.out _).mono ?_; rintro e w1 ⟨S, cS, G, cG, rfl, pin, hb1⟩
      have B1 := Lib.hid ((XB.out.trans (hb1.mono XB.out.size)).alloc (XB.out.trans (hb1.mono XB.out.size)).size (planO p S cS G cG))
      obtain ⟨⟨p0, p1, p2, p3, p4, p5⟩, -, gp⟩ := row6 (heap_alloc_new w1 (planO p S cS G cG))
      clear hb1 pin
      go_wp2_with fail
      refine (AW.out _).mono ?_; rintro e w2 ⟨rfl, hb2⟩
      go_wp2
      go_ret
      exact ⟨rfl, B1.out.trans (hb2.mono B1.out.size)⟩
    have DT : ((p.sigs.length : Int) == 12) = false := by rw [beq_eq_false_iff_ne]; omega
    go_enter Try.func6, Try.ntmps6
    go_wp2_with fail
    refine (CM.out _).mono ?_; rintro e w1 ⟨S, cS, G, cG, rfl, pin, hb1⟩
    have X1 := (Below.refl w1.heap.size w1).alloc (Nat.le_refl _) (planO p S cS G cG)
    have B5 := Lib.hid ((XB.out.trans (hb1.mono XB.out.size)).trans (X1.mono (XB.out.trans (hb1.mono XB.out.size)).size))
    have I5 := Lib.hid (pin.below X1)
    have RP := Lib.hid (heap_alloc_new w1 (planO p S cS G cG))
    have RB5 := Lib.hid ((X1.block _ (Array.getElem?_eq_some_iff.1 ((hb1.block _ (Array.getElem?_eq_some_iff.1 RB.out).1).trans RB.out)).1).trans ((hb1.block _ (Array.getElem?_eq_some_iff.1 RB.out).1).trans RB.out))
    have gx := (Array.getElem?_eq_some_iff.1 RP.out).1
    have gb := (Array.getElem?_eq_some_iff.1 RB5.out).1
    clear hb1 X1 pin CM XB RB
    generalize hw5 : w1.alloc (planO p S cS G cG) = w5 at B5 I5 RP RB5 gx gb
    have KP := Lib.hid (fun W' (hW : Below w5.heap.size w5 W') => (row6 ((hW.block _ gx).trans RP.out)).1)
    have KB := Lib.hid (fun W' (hW : Below w5.heap.size w5 W') => (row3 ((hW.block _ gb).trans RB5.out)).1)
    have T0 := Lib.hid (Below.refl w5.heap.size w5)
    subst hw5
    go_upto_region 2 with fail
    generalize w1.alloc (planO p S cS G cG) = w5 at B5 I5 KP KB T0 gx gb RP RB5 ⊢
    obtain ⟨p0, p1, p2, p3, p4, p5⟩ := KP.out _ T0.out
    have hjl : p.sigs.length - 1 < p.sigs.length := by omega
    obtain ⟨bG, oG, rfl, gG, onG⟩ := I5.out.2.at hjl
    obtain ⟨a0, -, -⟩ := sig_on onG
    rw [show (p.sigs.length - 1) * LSig.m = (p.sigs.length - 1) * 3 from rfl] at a0
    have qn : IntKind.i64.wrap ((p.sigs.length : Int) - 1) = ((p.sigs.length - 1 : Nat) : Int) := by rw [IntWalk.i64_in _ (by omega)]; omega
    generalize (p.sigs[p.sigs.length - 1]).name = nm at a0
    clear onG
    cases hN : ((txt nm).toList == [122, 122, 122, 122, 122, 122, 122, 122]) with
    | true =>
      --[
      clear bx by' bz
      go_wp2_with fail
      refine (AW.out _).mono ?_; rintro e w2 ⟨rfl, hb2⟩
      go_wp2
      go_ret
      exact ⟨rfl, B5.out.trans (hb2.mono B5.out.size)⟩
      --]
    | false =>
      obtain ⟨q1, hj⟩ := rem_len bx.1 hz
      have q0 : IntKind.i64.wrap x = x := IntWalk.i64_in _ (by omega)
      have q2 : IntKind.i64.wrap ((x.toNat % p.sigs.length : Nat) : Int) = ((x.toNat % p.sigs.length : Nat) : Int) := IntWalk.i64_in _ (by omega)
      generalize x.toNat % p.sigs.length = j at q1 q2 hj
      have hlen := Cr.of_len p j
      have HER := Lib.hid (show ((Cr.of p j).2 = 10 ∧ (Cr.of p j).1 = []) ∨ (Cr.of p j).2 = 0 from by
        rw [Cr.of_some (show Cr.sigAt p j = some p.sigs[j] from by unfold Cr.sigAt; rw [if_neg (by omega), Int.toNat_natCast, List.getElem?_eq_getElem hj])]
        rcases Cr.ofSig_ways p p.sigs[j] with ⟨h1, h2⟩ | ⟨h1, -, -⟩
        · exact .inl ⟨h1, h2⟩
        · exact .inr h1)
      have HST := Lib.hid (fun y (hy : y ∈ (Cr.of p j).1) => Cr.of_steps hy)
      have HSP := Lib.hid (fun (w : Cr.Way) (hw : w ∈ (Cr.of p j).1) (k : Nat) (t : Wk.Stp) (ht : w.steps[k]? = some t) (nm : Pl.Nm) => Cr.way_split hj hw ht nm)
      have C1 := Lib.hid (fun W' (hW : Below w5.heap.size w5 W') => WaysMade.of (W0 := w5) hW (pcOf_any p S cS (some ⟨bG, oG, none⟩) cG j W' (I5.out.below hW) hfew hgfew))
      generalize Cr.of p j = u at C1 hlen HST HER HSP
      obtain ⟨L, er⟩ := u
      have hlen' : L.length ≤ 65536 := hlen
      obtain ⟨k0, k1, k2⟩ := KB.out _ T0.out
      clear hlen
      go_wp2_with fail
      refine (C1.out _ T0.out).mono ?_; rintro e w6 ⟨A1, c1, rfl, hW1, hbl, hb6, hz6⟩
      have Q1 := Lib.hid hW1
      have T6 := Lib.hid hb6
      have B6 := Lib.hid (B5.out.trans (hb6.mono B5.out.size))
      have hs11 : p.sigs.length ≤ 11 := by omega
      clear hW1 hb6 hbl hz6 C1 q0 q1 q2 bx k0 k1 k2 p0 p1 p2 p3 p4 p5 a0 hN qn hjl DT hz2
      by_cases hL : L.length = 0
      · have he : er = 10 ∨ er = 0 := by
          rcases HER.out with ⟨h, -⟩ | h
          · exact .inl h
          · exact .inr h
        obtain rfl : L = [] := List.eq_nil_of_length_eq_zero hL
        clear HSP HST HER Q1
        --[
        rcases he with rfl | rfl
        · go_wp2_with fail
          refine (AW.out _).mono ?_; rintro e w8 ⟨rfl, hb8⟩
          go_wp2
          go_ret
          exact ⟨rfl, B6.out.trans (hb8.mono B6.out.size)⟩
        · go_wp2_with fail
          refine (AW.out _).mono ?_; rintro e w8 ⟨rfl, hb8⟩
          go_wp2
          go_ret
          exact ⟨rfl, B6.out.trans (hb8.mono B6.out.size)⟩
        --]
      obtain rfl : er = 0 := by
        rcases HER.out with ⟨-, h⟩ | h
        · have h' : L = [] := h
          rw [h'] at hL
          exact absurd rfl hL
        · exact h
      have DL : ((L.length : Int) == 0) = false := by rw [beq_eq_false_iff_ne]; omega
      obtain ⟨q4, hl⟩ := rem_len by'.1 hL
      have q3 : IntKind.i64.wrap y = y := IntWalk.i64_in _ (by omega)
      have q5 : IntKind.i64.wrap ((y.toNat % L.length : Nat) : Int) = ((y.toNat % L.length : Nat) : Int) := IntWalk.i64_in _ (by omega)
      generalize y.toNat % L.length = l at q4 q5 hl
      have hwm := List.getElem_mem hl
      obtain ⟨bW, oW, S1, u1, rfl, gW, c0, c1', R1, hcap⟩ := Q1.out.at (List.getElem?_eq_getElem hl)
      have HSQ := Lib.hid (HSP.out _ hwm)
      have h16 : (L[l]).steps.length ≤ 16 := HST.out _ hwm
      generalize L[l] = va at c0 c1' R1 hcap HSQ h16
      have HA := Lib.hid (heap_alloc_new w6 (.cells #[.slice S1 va.steps.length u1, .int .i64 va.exit] 39))
      have XA := (Below.refl w6.heap.size w6).alloc (Nat.le_refl _) (.cells #[.slice S1 va.steps.length u1, .int .i64 va.exit] 39)
      have TA := Lib.hid (T6.out.trans (XA.mono T6.out.size))
      have RA := Lib.hid (R1.below rfl XA)
      obtain ⟨k0, k1, k2⟩ := KB.out _ T6.out
      clear hwm R1 XA HSP HST HER Q1
      go_upto_region 9 with fail
      generalize hwA : w6.alloc (.cells #[.slice S1 va.steps.length u1, .int .i64 va.exit] 39) = wA at HA TA RA ⊢
      clear hwA c0 c1' k0 k1 k2 q3 q4 q5 by' DL hL hl
      generalize w6.heap.size = gw at HA ⊢
      have gA := (Array.getElem?_eq_some_iff.1 HA.out).1
      have KA := Lib.hid (fun W' (hW : Below wA.heap.size wA W') => And.intro (cell_of_row W' gw 0 _ _ _ ((hW.block _ gA).trans HA.out)) (cell_of_row W' gw 1 _ _ _ ((hW.block _ gA).trans HA.out)))
      have BA := Lib.hid (B5.out.trans (TA.out.mono B5.out.size))
      have W0 := Lib.hid (Below.refl wA.heap.size wA)
      obtain ⟨y0, y1⟩ := KA.out _ W0.out
      clear T6 B6
      by_cases h2 : va.steps.length < 2
      · have d2 : decide ((va.steps.length : Int) < 2) = true := dec_t (by omega)
        clear HSQ
        --[
        go_wp2_with fail
        refine (AW.out _).mono ?_; rintro e w8 ⟨rfl, hb8⟩
        go_wp2
        go_ret
        exact ⟨rfl, BA.out.trans (hb8.mono BA.out.size)⟩
        --]
      have d2 : decide ((va.steps.length : Int) < 2) = false := dec_f (by omega)
      have hz1 : va.steps.length - 1 ≠ 0 := by omega
      have DK : (((va.steps.length - 1 : Nat) : Int) == 0) = false := by rw [beq_eq_false_iff_ne]; omega
      have q6 : IntKind.i64.wrap ((va.steps.length : Int) - 1) = ((va.steps.length - 1 : Nat) : Int) := by rw [IntWalk.i64_in _ (by omega)]; omega
      have q3 : IntKind.i64.wrap z = z := IntWalk.i64_in _ (by omega)
      obtain ⟨q4, hk⟩ := rem_len bz.1 hz1
      have q5 : IntKind.i64.wrap ((z.toNat % (va.steps.length - 1) : Nat) : Int) = ((z.toNat % (va.steps.length - 1) : Nat) : Int) := IntWalk.i64_in _ (by omega)
      generalize z.toNat % (va.steps.length - 1) = k at q4 q5 hk
      have hkl : k < va.steps.length := by omega
      obtain ⟨b1, o1, rfl, g1, on1⟩ := RA.out.at hkl
      obtain ⟨i, e, s0, hi, he, he3, hs0, hsp⟩ := HSQ.out k _ (List.getElem?_eq_getElem hkl) [122, 122, 122, 122, 122, 122, 122, 122]
      generalize va.steps[k] = t at on1 hi he
      obtain ⟨r0, r1, r2⟩ := stp_on on1
      rw [show k * LStp.m = k * 3 from rfl] at r0 r1 r2
      obtain ⟨ts, tf, tt⟩ := t
      simp only at r0 r1 r2 hi he
      subst hi
      subst he
      have HSPL := Lib.hid (hsp (by omega))
      have HS0 := Lib.hid hs0
      have hil : i < p.secs.length := (List.getElem?_eq_some_iff.1 hs0).1
      obtain ⟨k0, k1, k2⟩ := KB.out _ TA.out
      obtain ⟨p0, p1, p2, p3, p4, p5⟩ := KP.out _ TA.out
      clear on1 hsp HSQ hs0
      have HX := Lib.hid (heap_alloc_new wA (stpO ⟨i, tf, e⟩))
      have TX := Lib.hid ((Below.refl wA.heap.size wA).alloc (Nat.le_refl _) (stpO ⟨i, tf, e⟩))
      go_upto_region 13 with fail
      clear r0 r1 r2 k0 k1 k2 p0 p1 p2 p3 p4 p5 y0 y1 q3 q4 q5 q6 bz d2 hz1 h2 DK
      generalize wA.alloc (.cells #[.int .i64 i, .int .i64 tf, .int .i64 e] 43) = wX at HX TX ⊢
      generalize wA.heap.size = gX at HX ⊢
      obtain ⟨bS, oS, rfl, gS, -⟩ := (I5.out.1.below rfl (TA.out.trans (TX.out.mono TA.out.size))).at hil
      have TX5 := Lib.hid (TA.out.trans (TX.out.mono TA.out.size))
      obtain ⟨p0, p1, p2, p3, p4, p5⟩ := KP.out _ TX5.out
      have HQ := Lib.hid (heap_alloc_new wX (planO p (some ⟨bS, oS, none⟩) cS (some ⟨bG, oG, none⟩) cG))
      have TQ := Lib.hid ((Below.refl wX.heap.size wX).alloc (Nat.le_refl _) (planO p (some ⟨bS, oS, none⟩) cS (some ⟨bG, oG, none⟩) cG))
      go_upto_region 14 with fail
      clear p0 p1 p2 p3 p4 p5
      generalize wX.alloc (.cells #[.int .i64 p.ov, .int .i64 p.ap, .int .i64 p.se, .int .i64 p.ho, .slice (some ⟨bS, oS, none⟩) p.secs.length cS, .slice (some ⟨bG, oG, none⟩) p.sigs.length cG] 25) = w9 at HQ TQ ⊢
      generalize hgQ : wX.heap.size = gQ at HQ ⊢
      have hgq := Lib.hid (Nat.le_of_eq hgQ)
      clear hgQ
      obtain ⟨p0, p1, p2, p3, p4, p5⟩ := KP.out _ (TX5.out.trans (TQ.out.mono TX5.out.size))
      obtain ⟨i0, hi, hz0, hz1, hz2⟩ := info_parts infoSec
      have gp9 : w1.heap.size < w9.heap.size := Nat.lt_of_lt_of_le gx (TX5.out.trans (TQ.out.mono TX5.out.size)).size
      have gq9 := (Array.getElem?_eq_some_iff.1 HQ.out).1
      have OE := Lib.hid (own_void w9 53 12 (g := w9.heap.size) (base := w9.heap.size) rfl (Nat.le_refl _))
      have X9 := (Below.refl w9.heap.size w9).alloc (Nat.le_refl _) (.cells #[] 53)
      have HR := Lib.hid ((I5.out.1.below rfl (TX5.out.trans (TQ.out.mono TX5.out.size))).below rfl X9)
      clear X9
      go_upto_region 15 with (at_builtin; refine wpList_append_row LSec _ rfl (.tmp 103) (.tmp 105) 22 rfl w9.heap.size 53 i0 _ 104 Try.underlying22 hi hz0 hz1 hz2 rfl _ _ _ rfl OE.out (some ⟨bS, oS, none⟩) cS p.secs.length p.secs rfl (by omega) rfl HR.out (by omega) (by omega) (by simp) ?_; intro g1' cap1 w10 hown1 hg1 hat1; have hq10 := (hg1.block gQ (by simp; omega) (fun h => by have h' : gQ = w9.heap.size := Option.some.inj h; omega)).trans ((heap_alloc_old _ _ gq9).trans HQ.out); have f10 := (row6 hq10).2.1.2.2.2.2.1; have c10 := (row6 hq10).1.2.2.2.2.1)
      rw [Nat.zero_add, List.nil_append] at hown1
      have B10 := (TQ.out.alloc TQ.out.size (.cells #[] 53)).grown hg1 (TQ.out.alloc TQ.out.size (.cells #[] 53)).size (fun k hk => by cases hk; exact TQ.out.size)
      have HO := Lib.hid (set_pown (i := 4) (u := .slice (some ⟨g1', 0, none⟩) p.secs.length cap1) hq10 hown1 (by decide))
      have TB := Lib.hid (B10.setCell (p := ⟨gQ, 4, none⟩) hgq.out (.slice (some ⟨g1', 0, none⟩) p.secs.length cap1))
      have HQB := Lib.hid (show (w10.setCell ⟨gQ, 4, none⟩ (.slice (some ⟨g1', 0, none⟩) p.secs.length cap1)).heap[gQ]? = some (planO p (some ⟨g1', 0, none⟩) cap1 (some ⟨bG, oG, none⟩) cG) from by rw [heap_setCell_same _ _ _ _ _ _ hq10]; rfl)
      clear hown1 hg1 hat1 hq10 f10 c10 B10 OE HR hi hz0 hz1 hz2 i0 gp9 gq9 p0 p1 p2 p3 p4 p5
      have HB1 := Lib.hid (show wX.heap.size ≤ w9.heap.size from TQ.out.size)
      generalize w10.setCell ⟨gQ, 4, none⟩ (.slice (some ⟨g1', 0, none⟩) p.secs.length cap1) = w11 at HO TB HQB ⊢
      generalize w9.heap.size = gB at HO HB1
      clear HQ TQ
      obtain ⟨⟨u, s1⟩, s2, s3, s4, s5⟩ := sec_store HO.out HS0.out he3 p.sigs.length
      have HS5 := Lib.hid s5
      have HXB := Lib.hid ((TB.out.block _ (Array.getElem?_eq_some_iff.1 HX.out).1).trans HX.out)
      obtain ⟨⟨x0, -, x2⟩, -, gxb⟩ := row3 HXB.out
      obtain ⟨-, -, -, -, -, p5⟩ := KP.out _ (TX5.out.trans (TB.out.mono TX5.out.size))
      obtain ⟨⟨-, -, -, -, v4, -⟩, -, gqb⟩ := row6 HQB.out
      have he3' : (e : Int) < 3 := by omega
      have TB1 := Lib.hid (TB.out.drew.setCell (p := ⟨g1', i * 12 + 3 + e * 3 + 2, none⟩) (Nat.le_trans HB1.out s4) (.int .i64 p.sigs.length))
      have HQB1 := Lib.hid (show (w11.drew.setCell ⟨g1', i * 12 + 3 + e * 3 + 2, none⟩ (.int .i64 p.sigs.length)).heap[gQ]? = some (planO p (some ⟨g1', 0, none⟩) cap1 (some ⟨bG, oG, none⟩) cG) from by
        rw [heap_setCell_other _ _ _ _ (fun h => own_block HO.out HQB.out (by decide) (by rw [h]; rfl))]
        exact HQB.out)
      clear s5
      go_cut [13] from 103 to 121 (fun s13 w' => s13 = .pointer (some ⟨gQ, 0, none⟩) ∧ Below wX.heap.size wX w' ∧ w'.heap[gQ]? = some (planO p (some ⟨g1', 0, none⟩) cap1 (some ⟨bG, oG, none⟩) cG) ∧ w'.ownsRow gB 53 12 (.slice (some ⟨g1', 0, none⟩) p.secs.length cap1) p.secs.length (LSec.all (p.secs.set i (Cr.posted s0 e p.sigs.length))))
      case first =>
        go_region
        all_goals go_wp2_with fail
        all_goals go_meet
        all_goals exact ⟨rfl, TB1.out, HQB1.out, HS5.out⟩
      case rest =>
      obtain ⟨rfl, hb12, hq12, ho12⟩ := hcut
      have TC := Lib.hid hb12
      have HQC := Lib.hid hq12
      have HOC := Lib.hid ho12
      clear hb12 hq12 ho12 x0 x2 gxb p5 v4 gqb s1 s2 s3 TB1 HQB1 HS5 HXB TB HQB HO
      generalize wc = w12 at TC HQC HOC ⊢
      have HXC := Lib.hid ((TC.out.block _ (Array.getElem?_eq_some_iff.1 HX.out).1).trans HX.out)
      obtain ⟨⟨x0, -, x2⟩, -, gxc⟩ := row3 HXC.out
      have TC5 := Lib.hid (TX5.out.trans (TC.out.mono TX5.out.size))
      obtain ⟨-, -, -, -, -, p5⟩ := KP.out _ TC5.out
      have gpc : w1.heap.size < w12.heap.size := Nat.lt_of_lt_of_le gx TC5.out.size
      obtain ⟨⟨-, -, -, -, -, v5⟩, -, gqc⟩ := row6 HQC.out
      have RG := Lib.hid (I5.out.below TC5.out).2
      obtain ⟨i0, hi, hz0, hz1, hz2⟩ := info_parts infoSig
      have XA := Lib.hid ((Below.refl w12.heap.size w12).alloc (Nat.le_refl _) (.cells #[] 36))
      have XAB := Lib.hid (XA.out.alloc XA.out.size (zigO i e))
      have XB := Lib.hid ((Below.refl w12.heap.size w12).alloc (Nat.le_refl _) (zigO i e))
      have XBA := Lib.hid (XB.out.alloc XB.out.size (.cells #[] 36))
      have RAB := Lib.hid (show ((w12.alloc (.cells #[] 36)).alloc (zigO i e)).heap[w12.heap.size + 1]? = some (zigO i e) from by
        have := heap_alloc_new (w12.alloc (.cells #[] 36)) (zigO i e)
        rwa [show (w12.alloc (.cells #[] 36)).heap.size = w12.heap.size + 1 by simp] at this)
      have RBA := Lib.hid ((heap_alloc_old (w12.alloc (zigO i e)) (.cells #[] 36) (show w12.heap.size < (w12.alloc (zigO i e)).heap.size by simp)).trans (heap_alloc_new w12 (zigO i e)))
      have hgfew' := hgfew
      have hn0 : 0 < p.sigs.length := by omega
      go_upto_region 16 with fail
      go_cut [13] from 103 to 133 (fun s13 w' => s13 = .pointer (some ⟨gQ, 0, none⟩) ∧ ∃ g3 cap3, w'.heap[gQ]? = some (planO (Cr.splitP p i e [122, 122, 122, 122, 122, 122, 122, 122]) (some ⟨g1', 0, none⟩) cap1 (some ⟨g3, 0, none⟩) cap3) ∧ PlanIn w' (Cr.splitP p i e [122, 122, 122, 122, 122, 122, 122, 122]) (some ⟨g1', 0, none⟩) (some ⟨g3, 0, none⟩) ∧ Below wX.heap.size wX w')
      case first =>
        --[
        have KS := Lib.hid (fun W' (hW : Below wX.heap.size wX W') => show W'.cell? ⟨w1.heap.size, 5, none⟩ = some (.slice (some ⟨bG, oG, none⟩) p.sigs.length cG) ∧ W'.cell? ⟨gX, 0, none⟩ = some (.int .i64 i) ∧ W'.cell? ⟨gX, 2, none⟩ = some (.int .i64 e) from
          ⟨(KP.out _ (TX5.out.trans (hW.mono TX5.out.size))).2.2.2.2.2, (row3 ((hW.block _ (Array.getElem?_eq_some_iff.1 HX.out).1).trans HX.out)).1.1, (row3 ((hW.block _ (Array.getElem?_eq_some_iff.1 HX.out).1).trans HX.out)).1.2.2⟩)
        have TCS := Lib.hid (fun W' (hW : Below w12.heap.size w12 W') => TC.out.trans (hW.mono TC.out.size))
        go_region_held3 (fun W' => W'.cell? ⟨w1.heap.size, 5, none⟩ = some (.slice (some ⟨bG, oG, none⟩) p.sigs.length cG) ∧ W'.cell? ⟨gX, 0, none⟩ = some (.int .i64 i) ∧ W'.cell? ⟨gX, 2, none⟩ = some (.int .i64 e))
          (first | with_reducible exact KS.out _ TC.out.drew | with_reducible exact KS.out _ (TCS.out _ hb4) | with_reducible exact KS.out _ (TCS.out _ hb3) | (go_keep; done) | with_reducible exact KS.out _ ((TCS.out _ hb4).setCell (p := ⟨gQ, 5, none⟩) hgq.out _))
          (first
          | (refine step_append_lies _ (by rfl) (.tmp 121) (.tmp 123) 23 (by rfl) w12.heap.size 36 i0 _ 3 32 Try.underlying23 hi hz0 hz1 hz2 rfl (by decide) (.slice (some ⟨w12.heap.size, 0, none⟩) 0 0) 0 [] (by rfl) ((own_void w12 36 3 rfl (Nat.le_refl _)).drew) ⟨bG, oG, none⟩ p.sigs.length cG (LSig.all p.sigs) (by rfl) (LSig.all_len p.sigs) (row_news (RG.out.below rfl (XA.out.drew))) (LSig.all_single p.sigs) (by omega) (by unfold maxLen; omega) (by omega) (by first | omega | (simp; done) | (simp; omega)) _ rfl ?_
             intro g2 cap2 w3 hown1 hg1 hat1 hlt1
             rw [Nat.zero_add, List.nil_append] at hown1
             have hb3 : Below w12.heap.size w12 w3 := Below.grown (XA.out.drew) hg1 (by first | omega | (simp; done) | (simp; omega)) (fun k hk => by cases hk; first | omega | (simp; done) | (simp; omega))
             have e0 := (hb3.cell (p := ⟨gX, 0, none⟩) gxc).trans x0
             have e2 := (hb3.cell (p := ⟨gX, 2, none⟩) gxc).trans x2
             have hq3 := (hb3.block gQ gqc).trans HQC.out
             have c3 := (row6 hq3).1.2.2.2.2.2
             have f3 := (row6 hq3).2.1.2.2.2.2.2
             have hgl3 := hb3.size)
          | (refine step_append_lies _ (by rfl) (.tmp 121) (.tmp 123) 23 (by rfl) w12.heap.size 36 i0 _ 3 32 Try.underlying23 hi hz0 hz1 hz2 rfl (by decide) (.slice (some ⟨w12.heap.size, 0, none⟩) 0 0) 0 [] (by rfl) (((own_void w12 36 3 rfl (Nat.le_refl _)).alloc _).drew) ⟨bG, oG, none⟩ p.sigs.length cG (LSig.all p.sigs) (by rfl) (LSig.all_len p.sigs) (row_news (RG.out.below rfl (XAB.out.drew))) (LSig.all_single p.sigs) (by omega) (by unfold maxLen; omega) (by omega) (by first | omega | (simp; done) | (simp; omega)) _ rfl ?_
             intro g2 cap2 w3 hown1 hg1 hat1 hlt1
             rw [Nat.zero_add, List.nil_append] at hown1
             have hb3 : Below w12.heap.size w12 w3 := Below.grown (XAB.out.drew) hg1 (by first | omega | (simp; done) | (simp; omega)) (fun k hk => by cases hk; first | omega | (simp; done) | (simp; omega))
             have e0 := (hb3.cell (p := ⟨gX, 0, none⟩) gxc).trans x0
             have e2 := (hb3.cell (p := ⟨gX, 2, none⟩) gxc).trans x2
             have hq3 := (hb3.block gQ gqc).trans HQC.out
             have c3 := (row6 hq3).1.2.2.2.2.2
             have f3 := (row6 hq3).2.1.2.2.2.2.2
             have hgl3 := hb3.size
             have hx3 : w3.heap[w12.heap.size + 1]? = some (zigO i e) := (hg1.block _ (by first | omega | (simp; done) | (simp; omega)) (fun h => by simp [Value.ownBlock] at h)).trans RAB.out)
          | (refine step_append_lies _ (by rfl) (.tmp 121) (.tmp 123) 23 (by rfl) w12.heap.size 36 i0 _ 3 32 Try.underlying23 hi hz0 hz1 hz2 rfl (by decide) (.slice (some ⟨w12.heap.size + 1, 0, none⟩) 0 0) 0 [] (by rfl) ((own_void (w12.alloc (zigO i e)) 36 3 (by simp) (by simp)).drew) ⟨bG, oG, none⟩ p.sigs.length cG (LSig.all p.sigs) (by rfl) (LSig.all_len p.sigs) (row_news (RG.out.below rfl (XBA.out.drew))) (LSig.all_single p.sigs) (by omega) (by unfold maxLen; omega) (by omega) (by first | omega | (simp; done) | (simp; omega)) _ rfl ?_
             intro g2 cap2 w3 hown1 hg1 hat1 hlt1
             rw [Nat.zero_add, List.nil_append] at hown1
             have hb3 : Below w12.heap.size w12 w3 := Below.grown (XBA.out.drew) hg1 (by first | omega | (simp; done) | (simp; omega)) (fun k hk => by cases hk; first | omega | (simp; done) | (simp; omega))
             have e0 := (hb3.cell (p := ⟨gX, 0, none⟩) gxc).trans x0
             have e2 := (hb3.cell (p := ⟨gX, 2, none⟩) gxc).trans x2
             have hq3 := (hb3.block gQ gqc).trans HQC.out
             have c3 := (row6 hq3).1.2.2.2.2.2
             have f3 := (row6 hq3).2.1.2.2.2.2.2
             have hgl3 := hb3.size
             have hx3 : w3.heap[w12.heap.size]? = some (zigO i e) := (hg1.block _ (by first | omega | (simp; done) | (simp; omega)) (fun h => by simp [Value.ownBlock] at h)).trans RBA.out)
          | (refine step_append_lies _ (by rfl) (.tmp 124) (.tmp 130) 23 (by rfl) w12.heap.size 36 i0 _ 3 32 Try.underlying23 hi hz0 hz1 hz2 rfl (by decide) (.slice (some ⟨g2, 0, none⟩) p.sigs.length cap2) p.sigs.length (LSig.all p.sigs) (by first | rfl | simp [Act.eval, Nat.zero_add]) (by first | exact hown1 | exact hown1.alloc _) ⟨w3.heap.size, 0, none⟩ 1 1 (sigCells ⟨[122, 122, 122, 122, 122, 122, 122, 122], i, e⟩) (by rfl) (by rfl) (World.news_of_block (heap_alloc_new w3 (zigO i e))) (LSig.one _) (by omega) (by unfold maxLen; omega) (by omega) (by first | omega | (simp; done) | (simp; omega)) _ rfl ?_
             intro g3 cap3 w4 hown2 hg2 hat2 hlt2
             have hb4 : Below w12.heap.size w12 w4 := Below.grown (hb3.alloc hb3.size _) hg2 (by first | omega | (simp; done) | (simp; omega)) (fun k hk => (hown1.lt k hk).1)
             have hq4 := (hb4.block gQ gqc).trans HQC.out
             have c4 := (row6 hq4).1.2.2.2.2.2
             have f4 := (row6 hq4).2.1.2.2.2.2.2)
          | (refine step_append_lies _ (by rfl) (.tmp 124) (.tmp 130) 23 (by rfl) w12.heap.size 36 i0 _ 3 32 Try.underlying23 hi hz0 hz1 hz2 rfl (by decide) (.slice (some ⟨g2, 0, none⟩) p.sigs.length cap2) p.sigs.length (LSig.all p.sigs) (by first | rfl | simp [Act.eval, Nat.zero_add]) (by first | exact hown1 | exact hown1.alloc _) ⟨w12.heap.size + 1, 0, none⟩ 1 1 (sigCells ⟨[122, 122, 122, 122, 122, 122, 122, 122], i, e⟩) (by rfl) (by rfl) (World.news_of_block hx3) (LSig.one _) (by omega) (by unfold maxLen; omega) (by omega) (by first | omega | (simp; done) | (simp; omega)) _ rfl ?_
             intro g3 cap3 w4 hown2 hg2 hat2 hlt2
             have hb4 : Below w12.heap.size w12 w4 := Below.grown hb3 hg2 (by first | omega | (simp; done) | (simp; omega)) (fun k hk => (hown1.lt k hk).1)
             have hq4 := (hb4.block gQ gqc).trans HQC.out
             have c4 := (row6 hq4).1.2.2.2.2.2
             have f4 := (row6 hq4).2.1.2.2.2.2.2)
          | (refine step_append_lies _ (by rfl) (.tmp 124) (.tmp 130) 23 (by rfl) w12.heap.size 36 i0 _ 3 32 Try.underlying23 hi hz0 hz1 hz2 rfl (by decide) (.slice (some ⟨g2, 0, none⟩) p.sigs.length cap2) p.sigs.length (LSig.all p.sigs) (by first | rfl | simp [Act.eval, Nat.zero_add]) (by first | exact hown1 | exact hown1.alloc _) ⟨w12.heap.size, 0, none⟩ 1 1 (sigCells ⟨[122, 122, 122, 122, 122, 122, 122, 122], i, e⟩) (by rfl) (by rfl) (World.news_of_block hx3) (LSig.one _) (by omega) (by unfold maxLen; omega) (by omega) (by first | omega | (simp; done) | (simp; omega)) _ rfl ?_
             intro g3 cap3 w4 hown2 hg2 hat2 hlt2
             have hb4 : Below w12.heap.size w12 w4 := Below.grown hb3 hg2 (by first | omega | (simp; done) | (simp; omega)) (fun k hk => (hown1.lt k hk).1)
             have hq4 := (hb4.block gQ gqc).trans HQC.out
             have c4 := (row6 hq4).1.2.2.2.2.2
             have f4 := (row6 hq4).2.1.2.2.2.2.2))
        all_goals go_wp2_with fail
        all_goals go_meet
        all_goals (refine ⟨rfl, g3, cap3, ?_⟩; exact split_plan hq4 (ownsRow_below HOC.out hb4) hown2 (TC.out.trans (hb4.mono TC.out.size)) hgq.out HS0.out)
        --]
      case rest =>
      obtain ⟨rfl, g3, cap3, hq13, hp13, hb13⟩ := hcut
      have TD := Lib.hid hb13
      have HQD := Lib.hid hq13
      have ID := Lib.hid hp13
      have HL2 := Lib.hid (show (Cr.splitP p i e [122, 122, 122, 122, 122, 122, 122, 122]).secs.length ≤ 24 ∧ (Cr.splitP p i e [122, 122, 122, 122, 122, 122, 122, 122]).sigs.length ≤ 12 from ⟨by rw [Cr.split_secs HS0.out, List.length_set]; exact hfew, by rw [show (Cr.splitP p i e [122, 122, 122, 122, 122, 122, 122, 122]).sigs = p.sigs ++ [⟨[122, 122, 122, 122, 122, 122, 122, 122], i, e⟩] from rfl, List.length_append, List.length_singleton]; omega⟩)
      clear hq13 hp13 hb13 x0 x2 gxc p5 gpc v5 gqc RG hi hz0 hz1 hz2 i0 XA XAB XB XBA RAB RBA hgfew' hn0 HOC HQC HXC TC TC5
      generalize wc = w13 at TD HQD ID ⊢
      generalize Cr.splitP p i e [122, 122, 122, 122, 122, 122, 122, 122] = p2 at HSPL HQD ID HL2
      have hlen2 := Cr.of_len p2 j
      have hlen3 := Cr.of_len p2 p.sigs.length
      have HST2 := Lib.hid (fun y (hy : y ∈ (Cr.of p2 j).1) => Cr.of_steps hy)
      have HST3 := Lib.hid (fun y (hy : y ∈ (Cr.of p2 p.sigs.length).1) => Cr.of_steps hy)
      have C2 := Lib.hid (fun W' (hW : Below w13.heap.size w13 W') => WaysMade.of (W0 := w13) hW (pcOf_any p2 (some ⟨g1', 0, none⟩) cap1 (some ⟨g3, 0, none⟩) cap3 j W' (ID.out.below hW) HL2.out.1 HL2.out.2))
      have C3 := Lib.hid (fun W' (hW : Below w13.heap.size w13 W') => WaysMade.of (W0 := w13) hW (pcOf_any p2 (some ⟨g1', 0, none⟩) cap1 (some ⟨g3, 0, none⟩) cap3 p.sigs.length W' (ID.out.below hW) HL2.out.1 HL2.out.2))
      obtain ⟨hr1, hm1, hm2⟩ := HSPL.out
      have HM1 := Lib.hid hm1
      have HM2 := Lib.hid hm2
      clear hm1 hm2 HSPL
      have qk : IntKind.i64.wrap ((k : Int) + 1) = ((k + 1 : Nat) : Int) := by rw [IntWalk.i64_in _ (by omega)]; omega
      generalize hkk : k + 1 = kk at HM1 HM2 qk
      have hk0 : (0 : Int) ≤ (kk : Int) := by omega
      have hk1 : (kk : Int) ≤ (u1 : Int) := by omega
      have hk2 : (kk : Int) ≤ (va.steps.length : Int) := by omega
      have hk3 : ¬ u1 = kk := by omega
      generalize Cr.of p2 j = u2 at C2 hr1 HM1 hlen2 HST2
      generalize Cr.of p2 p.sigs.length = u3 at C3 HM2 hlen3 HST3
      obtain ⟨L2, er2⟩ := u2
      obtain rfl : er2 = 0 := hr1
      obtain ⟨L3, er3⟩ := u3
      have hlen2' : L2.length ≤ 65536 := hlen2
      have hlen3' : L3.length ≤ 65536 := hlen3
      clear hlen2 hlen3
      obtain ⟨⟨q0, q1, q2, q3, q4, q5⟩, -, gqd⟩ := row6 HQD.out
      go_wp2_with fail
      refine (C2.out _ (Below.refl _ _)).mono ?_; rintro e' w14 ⟨A2, c2, rfl, hW2, hbl2, hb14, hz14⟩
      have Q2 := Lib.hid hW2
      have T14 := Lib.hid hb14
      have HQE := Lib.hid ((hb14.block _ gqd).trans HQD.out)
      clear q0 q1 q2 q3 q4 q5 hW2 hbl2 hb14 hz14
      have TX13 := Lib.hid (TX5.out.trans (TD.out.mono TX5.out.size))
      obtain ⟨⟨q0, q1, q2, q3, q4, q5⟩, -, gqe⟩ := row6 HQE.out
      obtain ⟨-, -, -, -, -, p5⟩ := KP.out _ (TX13.out.trans (T14.out.mono TX13.out.size))
      go_wp2_with fail
      refine (C3.out _ T14.out).mono ?_; rintro e' w15 ⟨A3, c3, rfl, hW3, hbl3, hb15, hz15⟩
      have T15 := Lib.hid (T14.out.trans (hbl3.mono T14.out.size))
      have Q2' := Lib.hid (Q2.out.below hbl3)
      have Q3 := Lib.hid hW3
      have T5 := Lib.hid (TX13.out.trans (T15.out.mono TX13.out.size))
      have TAw := Lib.hid (TX.out.trans ((TD.out.trans (T15.out.mono TD.out.size)).mono TX.out.size))
      have B15 := Lib.hid (B5.out.trans (T5.out.mono B5.out.size))
      clear q0 q1 q2 q3 q4 q5 p5 hW3 hbl3 hb15 hz15 C2 C3 Q2
      have KP15 := Lib.hid (fun W' (hW : Below w15.heap.size w15 W') => KP.out _ (T5.out.trans (hW.mono T5.out.size)))
      have KA15 := Lib.hid (fun W' (hW : Below w15.heap.size w15 W') => KA.out _ (TAw.out.trans (hW.mono TAw.out.size)))
      have RA15 := Lib.hid (RA.out.below rfl TAw.out)
      have E0 := Lib.hid (Below.refl w15.heap.size w15)
      go_wp2_with fail
      go_loopw [18, 20] (fun v1 v2 w' => ∃ n : Nat, n ≤ L2.length ∧ v1 = .bool (metW L2 (va.steps.take kk) p.sigs.length n) ∧ v2 = .int .i64 n ∧ Below w15.heap.size w15 w') (fun _ v2 _ => L2.length - (intOf v2).toNat)
      case atStart => exact ⟨0, Nat.zero_le _, rfl, rfl, E0.out⟩
      case round =>
        obtain ⟨n, hn, rfl, rfl, hB⟩ := hrel
        have HB := Lib.hid hB
        clear hB
        by_cases hlt : n < L2.length
        · have hw := List.getElem?_eq_getElem hlt
          have hwm := List.getElem_mem hlt
          obtain ⟨bM, oM, S2, v2, rfl, gM, m0, m1, R2, -⟩ := (Q2'.out.below HB.out).at hw
          have HN := Lib.hid (metW_next (st := va.steps.take kk) (ex := p.sigs.length) hw)
          have h16b : (L2[n]).steps.length ≤ 16 := HST2.out _ hwm
          generalize L2[n] = y2 at hw m0 m1 R2 HN h16b
          have d1 : decide ((n : Int) < (L2.length : Int)) = true := dec_t (by omega)
          have R2' := Lib.hid R2
          clear hw hwm R2
          have BR := Lib.hid (fun W' (hW : Below wr.heap.size wr W') => HB.out.trans (hW.mono HB.out.size))
          obtain ⟨-, -, -, -, -, p5⟩ := KP15.out _ HB.out
          obtain ⟨y0, y1⟩ := KA15.out _ HB.out
          go_upto_region 23 with fail
          cases hsn : metW L2 (va.steps.take kk) p.sigs.length n with
          | true =>
            --[
            rw [hsn, Bool.true_or] at HN
            clear hsn
            go_quiet (fail)
            go_wp2_with fail
            go_roundw
            case rel => exact ⟨n + 1, by omega, by rw [HN.out], by go_num, below_drewN HB.out _⟩
            case measure => simp [intOf]; omega
            --]
          | false =>
            rw [hsn, Bool.false_or] at HN
            clear hsn
            by_cases he : y2.exit = p.sigs.length
            · --[
              have he' : (y2.exit == (p.sigs.length : Int)) = true := by rw [beq_iff_eq]; exact he
              rw [decide_eq_true he, Bool.true_and] at HN
              have R0 := Lib.hid (Below.refl wr.heap.size wr)
              have KK := Lib.hid (fun W' (hW : Below wr.heap.size wr W') => show W'.cell? ⟨bM, oM + n * 2, none⟩ = some (.slice S2 y2.steps.length v2) ∧ W'.cell? ⟨bM, oM + n * 2 + 1, none⟩ = some (.int .i64 y2.exit) ∧ W'.cell? ⟨w1.heap.size, 5, none⟩ = some (.slice (some ⟨bG, oG, none⟩) p.sigs.length cG) ∧ W'.cell? ⟨gw, 0, none⟩ = some (.slice (some ⟨b1, o1, none⟩) va.steps.length u1) from
                ⟨(hW.cell (p := ⟨bM, oM + n * 2, none⟩) gM).trans m0, (hW.cell (p := ⟨bM, oM + n * 2 + 1, none⟩) gM).trans m1, (KP15.out _ (BR.out _ hW)).2.2.2.2.2, (KA15.out _ (BR.out _ hW)).1⟩)
              have CM := Lib.hid (fun W' (hW : Below wr.heap.size wr W') => Made.of (w := wr) hW (show Calls Try.prog 16 #[.slice S2 y2.steps.length v2, .slice (some ⟨b1, o1, none⟩) kk u1] W' (fun e w' => e = .returned (.bool (decide (y2.steps = va.steps.take kk))) ∧ Below W'.heap.size W' w') from by
                have h := rwSame_all y2.steps (va.steps.take kk) S2 v2 (some ⟨b1, o1, none⟩) u1 W' (R2'.out.below rfl hW) ((row_take RA15.out kk).below rfl (BR.out _ hW)) (by omega)
                rw [List.length_take, Nat.min_eq_left (by omega)] at h
                exact h))
              clear y0 y1 p5 m0 m1
              go_region_held3 (fun W' => W'.cell? ⟨bM, oM + n * 2, none⟩ = some (.slice S2 y2.steps.length v2) ∧ W'.cell? ⟨bM, oM + n * 2 + 1, none⟩ = some (.int .i64 y2.exit) ∧ W'.cell? ⟨w1.heap.size, 5, none⟩ = some (.slice (some ⟨bG, oG, none⟩) p.sigs.length cG) ∧ W'.cell? ⟨gw, 0, none⟩ = some (.slice (some ⟨b1, o1, none⟩) va.steps.length u1))
                (first | with_reducible exact KK.out _ R0.out.drew | with_reducible exact KK.out _ hacc)
                (first | (go_at_call 16; (with_reducible refine (CM.out _ R0.out.drew).mono ?_); rintro e w' ⟨rfl, hbl, hacc, hz⟩))
              all_goals go_wp2_with fail
              all_goals go_roundw
              case rel => exact ⟨n + 1, by omega, by rw [HN.out], by go_num, BR.out _ hacc⟩
              case measure => simp [intOf]; omega
              --]
            · --[
              have he' : (y2.exit == (p.sigs.length : Int)) = false := by rw [beq_eq_false_iff_ne]; exact he
              rw [decide_eq_false he, Bool.false_and] at HN
              go_quiet (fail)
              go_wp2_with fail
              go_roundw
              case rel => exact ⟨n + 1, by omega, by rw [HN.out], by go_num, below_drewN HB.out _⟩
              case measure => simp [intOf]; omega
              --]
        · obtain rfl : n = L2.length := by omega
          rw [metW_all HM1.out]
          have BR := Lib.hid (fun W' (hW : Below wr.heap.size wr W') => HB.out.trans (hW.mono HB.out.size))
          have Q3' := Lib.hid (Q3.out.below HB.out)
          have F0 := Lib.hid (Below.refl wr.heap.size wr)
          clear Q2' HST2 HM1
          generalize wr = wE at HB BR Q3' F0 ⊢
          go_wp2_with fail
          go_loopw [19, 21] (fun v1 v2 w' => ∃ n : Nat, n ≤ L3.length ∧ v1 = .bool (metW L3 (va.steps.drop kk) va.exit n) ∧ v2 = .int .i64 n ∧ Below wE.heap.size wE w') (fun _ v2 _ => L3.length - (intOf v2).toNat)
          case atStart => exact ⟨0, Nat.zero_le _, rfl, rfl, F0.out⟩
          case round =>
            obtain ⟨n, hn, rfl, rfl, hB⟩ := hrel
            have BE := BR
            clear BR HB
            have HB := Lib.hid hB
            clear hB
            by_cases hlt : n < L3.length
            · have hw := List.getElem?_eq_getElem hlt
              have hwm := List.getElem_mem hlt
              obtain ⟨bM, oM, S2, v2, rfl, gM, m0, m1, R2, -⟩ := (Q3'.out.below HB.out).at hw
              have HN := Lib.hid (metW_next (st := va.steps.drop kk) (ex := va.exit) hw)
              have h16b : (L3[n]).steps.length ≤ 16 := HST3.out _ hwm
              generalize L3[n] = y2 at hw m0 m1 R2 HN h16b
              have d1 : decide ((n : Int) < (L3.length : Int)) = true := dec_t (by omega)
              have R2' := Lib.hid R2
              clear hw hwm R2
              have BR := Lib.hid (fun W' (hW : Below wr.heap.size wr W') => BE.out _ (HB.out.trans (hW.mono HB.out.size)))
              have BQ := Lib.hid (fun W' (hW : Below wr.heap.size wr W') => HB.out.trans (hW.mono HB.out.size))
              obtain ⟨-, -, -, -, -, p5⟩ := KP15.out _ (BE.out _ HB.out)
              obtain ⟨y0, y1⟩ := KA15.out _ (BE.out _ HB.out)
              go_upto_region 27 with fail
              cases hsn : metW L3 (va.steps.drop kk) va.exit n with
              | true =>
                --[
                rw [hsn, Bool.true_or] at HN
                clear hsn
                go_quiet (fail)
                go_wp2_with fail
                go_roundw
                case rel => exact ⟨n + 1, by omega, by rw [HN.out], by go_num, below_drewN HB.out _⟩
                case measure => simp [intOf]; omega
                --]
              | false =>
                rw [hsn, Bool.false_or] at HN
                clear hsn
                by_cases he : y2.exit = va.exit
                · --[
                  have he' : (y2.exit == va.exit) = true := by rw [beq_iff_eq]; exact he
                  rw [decide_eq_true he, Bool.true_and] at HN
                  have R0 := Lib.hid (Below.refl wr.heap.size wr)
                  have KK := Lib.hid (fun W' (hW : Below wr.heap.size wr W') => show W'.cell? ⟨bM, oM + n * 2, none⟩ = some (.slice S2 y2.steps.length v2) ∧ W'.cell? ⟨bM, oM + n * 2 + 1, none⟩ = some (.int .i64 y2.exit) ∧ W'.cell? ⟨gw, 1, none⟩ = some (.int .i64 va.exit) ∧ W'.cell? ⟨gw, 0, none⟩ = some (.slice (some ⟨b1, o1, none⟩) va.steps.length u1) from
                    ⟨(hW.cell (p := ⟨bM, oM + n * 2, none⟩) gM).trans m0, (hW.cell (p := ⟨bM, oM + n * 2 + 1, none⟩) gM).trans m1, (KA15.out _ (BR.out _ hW)).2, (KA15.out _ (BR.out _ hW)).1⟩)
                  have CM := Lib.hid (fun W' (hW : Below wr.heap.size wr W') => Made.of (w := wr) hW (show Calls Try.prog 16 #[.slice S2 y2.steps.length v2, .slice (some ⟨b1, o1 + kk * 3, none⟩) (va.steps.length - kk : Nat) (u1 - kk : Nat)] W' (fun e w' => e = .returned (.bool (decide (y2.steps = va.steps.drop kk))) ∧ Below W'.heap.size W' w') from by
                    have h := rwSame_all y2.steps (va.steps.drop kk) S2 v2 (some ⟨b1, o1 + kk * 3, none⟩) (u1 - kk) W' (R2'.out.below rfl hW) ((row_drop RA15.out kk).below rfl (BR.out _ hW)) (by omega)
                    rw [List.length_drop] at h
                    exact h))
                  clear y0 y1 p5 m0 m1
                  go_region_held3 (fun W' => W'.cell? ⟨bM, oM + n * 2, none⟩ = some (.slice S2 y2.steps.length v2) ∧ W'.cell? ⟨bM, oM + n * 2 + 1, none⟩ = some (.int .i64 y2.exit) ∧ W'.cell? ⟨gw, 1, none⟩ = some (.int .i64 va.exit) ∧ W'.cell? ⟨gw, 0, none⟩ = some (.slice (some ⟨b1, o1, none⟩) va.steps.length u1))
                    (first | with_reducible exact KK.out _ R0.out.drew | with_reducible exact KK.out _ hacc)
                    (first | (go_at_call 16; (with_reducible refine (CM.out _ R0.out.drew).mono ?_); rintro e w' ⟨rfl, hbl, hacc, hz⟩))
                  all_goals go_wp2_with fail
                  all_goals go_roundw
                  case rel => exact ⟨n + 1, by omega, by rw [HN.out], by go_num, BQ.out _ hacc⟩
                  case measure => simp [intOf]; omega
                  --]
                · --[
                  have he' : (y2.exit == va.exit) = false := by rw [beq_eq_false_iff_ne]; exact he
                  rw [decide_eq_false he, Bool.false_and] at HN
                  go_quiet (fail)
                  go_wp2_with fail
                  go_roundw
                  case rel => exact ⟨n + 1, by omega, by rw [HN.out], by go_num, below_drewN HB.out _⟩
                  case measure => simp [intOf]; omega
                  --]
            · obtain rfl : n = L3.length := by omega
              have T6 := Lib.hid (BE.out _ HB.out)
              have BW := Lib.hid (B15.out.trans (T6.out.mono B15.out.size))
              rcases HM2.out with hm2 | hm2
              · rw [metW_all hm2]
                go_wp2_with fail
                refine (AW.out _).mono ?_; rintro e w8 ⟨rfl, hb8⟩
                go_wp2
                go_ret
                exact ⟨rfl, BW.out.trans (hb8.mono BW.out.size)⟩
              · obtain rfl : er3 = 10 := hm2
                generalize metW L3 (va.steps.drop kk) va.exit L3.length = bb
                cases bb with
                | true =>
                  go_wp2_with fail
                  refine (AW.out _).mono ?_; rintro e w8 ⟨rfl, hb8⟩
                  go_wp2
                  go_ret
                  exact ⟨rfl, BW.out.trans (hb8.mono BW.out.size)⟩
                | false =>
                  go_wp2_with fail
                  refine (AW.out _).mono ?_; rintro e w8 ⟨rfl, hb8⟩
                  go_wp2
                  go_ret
                  exact ⟨rfl, BW.out.trans (hb8.mono BW.out.size)⟩
end Go.Proofs.Ytakdpggdjllnpaa
