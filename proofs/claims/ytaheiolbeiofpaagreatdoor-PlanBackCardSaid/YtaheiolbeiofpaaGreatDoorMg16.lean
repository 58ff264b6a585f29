/-
  Texts of this claim, merged: PlDrD, PlDrE, PlDrF, PlDrG.
-/
import Derived.Test.YtaheiolbeiofpaaGreatDoorMg15
import Derived.Deep.RegionLaw
/-
  The walk of the program's draft of layer 5: the end that is named.
-/
namespace Go.Proofs.YtaheiolbeiofpaaGreatDoor
open Go.RowKit

/-- What the named end's call leaves. -/
def SpotGives (L : List Pl.Sec) (t : It.Tp) (w : World) (e : Ending) (w' : World) : Prop := e = .returned (.tuple #[.agg #[.int .i64 (endI L t).1, .int .i64 (endI L t).2.1], .int .i64 (endI L t).2.2]) ∧ Below w.heap.size w w'
theorem SpotGives.mk {L : List Pl.Sec} {t : It.Tp} {w w' : World} {e : Ending} (a b c : Int) (h : endI L t = (a, b, c)) (he : e = .returned (.tuple #[.agg #[.int .i64 a, .int .i64 b], .int .i64 c])) (hb : Below w.heap.size w w') : SpotGives L t w e w' := by
  refine ⟨?_, hb⟩
  rw [h]; exact he
def UnusedGives (L : List Pl.Sec) (t : It.Tp) (w : World) (x : Ending) (w' : World) : Prop := ∃ a b c, x = .returned (.tuple #[.agg #[.int .i64 a, .int .i64 b], .int .i64 c]) ∧ FreeIs L t (a, b, c) ∧ Below w.heap.size w w'
theorem UnusedGives.mk {L : List Pl.Sec} {t : It.Tp} {w w' : World} {x : Ending} (a b c : Int) (h : FreeIs L t (a, b, c)) (he : x = .returned (.tuple #[.agg #[.int .i64 a, .int .i64 b], .int .i64 c])) (hb : Below w.heap.size w w') : UnusedGives L t w x w' := ⟨a, b, c, he, h, hb⟩
theorem two_blocks (w : World) (a b : Obj) : ((w.alloc a).alloc b).heap[w.heap.size]? = some a ∧ ((w.alloc a).alloc b).heap[w.heap.size + 1]? = some b ∧ Below w.heap.size w ((w.alloc a).alloc b) ∧ ((w.alloc a).alloc b).heap.size = w.heap.size + 2 := by
  have s1 : (w.alloc a).heap.size = w.heap.size + 1 := by simp
  refine ⟨?_, ?_, ((Below.refl _ _).alloc (Nat.le_refl _) _).alloc (by omega) _, by simp⟩
  · rw [heap_alloc_old _ _ (by omega)]; exact heap_alloc_new _ _
  · rw [← s1]; exact heap_alloc_new _ _
/-- What the search through a section's ends keeps. -/
def SpotLoop (tt ts tS : TypeId) (w : World) (gs : Nat) (s : Pl.Sec) (t : It.Tp) (wr : World) : Prop :=
  Below w.heap.size w wr ∧ wr.heap[w.heap.size]? = some (.cells #[.string (txt t.n), .int .u8 t.c.toNat] tt (0, 0)) ∧ wr.heap[w.heap.size + 1]? = some (.cells #[.int .i64 0, .int .i64 0] ts (0, 0)) ∧ wr.heap[gs]? = some (.cells (secCells s).toArray tS (0, 0))
theorem SpotLoop.start {tt ts : TypeId} {w w' : World} {t : It.Tp} (hb : Below w.heap.size w w') (h0 : w'.heap[w.heap.size]? = some (.cells #[.string (txt t.n), .int .u8 t.c.toNat] tt (0, 0))) (h1 : w'.heap[w.heap.size + 1]? = some (.cells #[.int .i64 0, .int .i64 0] ts (0, 0))) (s : Pl.Sec) (tS : TypeId) :
    SpotLoop tt ts tS w w'.heap.size s t (w'.alloc (.cells (secCells s).toArray tS)) :=
  ⟨hb.alloc hb.size _, (heap_alloc_old _ _ (Array.getElem?_eq_some_iff.1 h0).1).trans h0, (heap_alloc_old _ _ (Array.getElem?_eq_some_iff.1 h1).1).trans h1, heap_alloc_new _ _⟩
theorem SpotLoop.drewN {tt ts tS : TypeId} {w wr : World} {gs : Nat} {s : Pl.Sec} {t : It.Tp} (h : SpotLoop tt ts tS w gs s t wr) (n : Nat) : SpotLoop tt ts tS w gs s t (wr.drewN n) := ⟨below_drewN h.1 n, h.2⟩
theorem SpotLoop.drew {tt ts tS : TypeId} {w wr : World} {gs : Nat} {s : Pl.Sec} {t : It.Tp} (h : SpotLoop tt ts tS w gs s t wr) : SpotLoop tt ts tS w gs s t wr.drew := ⟨h.1.drew, h.2⟩
set_option maxHeartbeats 8000000 in
set_option maxRecDepth 100000 in
theorem pSpot_any (g : Nat) (M : List It.Itm) (vS vG : Value) (LS : List Pl.Sec) (LG : List Pl.Sig) (t : It.Tp) (w : World) (h : DrX tyD tyS tyG w g M vS vG LS LG) (hl : LS.length ≤ 1000) (hc : t.c ≠ 0) :
    Calls Tryz.prog 51 #[.pointer (some ⟨g, 0, none⟩), .agg #[.string (txt t.n), .int .u8 t.c.toNat]] w (SpotGives LS t w) := by
  obtain ⟨hrow, hS, hG, hap⟩ := h
  obtain ⟨-, A, cp, rfl, hcap, hR⟩ := Lies.Row.of_own hS
  obtain ⟨-, -, ⟨s10, -⟩, -, hg⟩ := draft_row hrow
  clear hS hG hap hcap hrow
  obtain ⟨R0, R1, XX, XS⟩ := two_blocks w (.cells #[.string (txt t.n), .int .u8 t.c.toNat] 41) (.cells #[.int .i64 0, .int .i64 0] 90)
  have X0 := Lib.hid XX
  have FN := Lib.hid (fun W (h : Below w.heap.size w W) => Made.of h (pFind_any A cp LS t.n W (hR.below rfl h) (by omega)))
  have K4 : ((w.alloc (.cells #[.string (txt t.n), .int .u8 t.c.toNat] 41)).alloc (.cells #[.int .i64 0, .int .i64 0] 90)).cell? ⟨g, 10, none⟩ = some (.slice A LS.length cp) := by
    rw [XX.cell (show (⟨g, 10, none⟩ : Addr).block < w.heap.size from hg)]; exact s10
  obtain ⟨⟨k0, k1⟩, g2⟩ := row2c R0
  have g1 : g < ((w.alloc (.cells #[.string (txt t.n), .int .u8 t.c.toNat] 41)).alloc (.cells #[.int .i64 0, .int .i64 0] 90)).heap.size := Nat.lt_trans hg g2
  have HR0 := Lib.hid R0
  have HR1 := Lib.hid R1
  have gR1 : w.heap.size + 1 < ((w.alloc (.cells #[.string (txt t.n), .int .u8 t.c.toNat] 41)).alloc (.cells #[.int .i64 0, .int .i64 0] 90)).heap.size := by rw [XS]; omega
  clear XX R0 R1
  rcases Pl.find_cases LS t.n with ⟨hf, _⟩ | ⟨i, s, hf, hs, hsn⟩
  · have P := Lib.hid (endI_no (L := LS) (t := t) (by rw [hf]; decide))
    rw [hf] at FN
    clear hf hR hl hc
    go_enter Tryz.func51, Tryz.ntmps51
    go_wp2_with fail
    go_region_held3 (fun w' => w'.cell? ⟨g, 10, none⟩ = some (.slice A LS.length cp) ∧ w'.cell? ⟨w.heap.size, 0, none⟩ = some (.string (txt t.n)))
      (first | exact ⟨K4, k0⟩ | exact ⟨(hcell _ _ g1).trans K4, (hcell _ _ g2).trans k0⟩)
      (first
        | (go_at_call 13; (with_reducible refine (FN.out _ X0.out.drew).mono ?_); rintro e w' ⟨rfl, hbl, hacc, hz⟩; have hcell := (bcell hbl).1))
    all_goals (have hcell := 0; obtain ⟨⟨e0, e1⟩, ⟨f0, f1⟩, ge⟩ := row2f ((hbl.block _ gR1).trans HR1.out))
    all_goals have BF := Lib.hid hacc
    all_goals clear hcell hbl hacc
    all_goals go_wp2_with fail
    all_goals refine bodyPost_ret ?_ rfl (SpotGives.mk _ _ _ P.out rfl ?_)
    all_goals first | (simp [results, Tryz.results51, go_sem, *]; done) | ((repeat (with_reducible refine Below.setCell ?_ (by exact Nat.le_succ _) _)); exact BF.out)
  · have E := Lib.hid (endI_at hf hs)
    rw [hf] at FN
    obtain ⟨hi, hsi⟩ := List.getElem?_eq_some_iff.1 hs
    obtain ⟨b, o, hA, hb, on⟩ := hR.at hi
    rw [hsi] at on
    obtain ⟨a0, a1, a2, a3, a4, a5, a6, a7, a8, a9, a10, a11⟩ := sec_on on
    rw [show i * LSec.m = i * 12 from rfl] at a0 a1 a2 a3 a4 a5 a6 a7 a8 a9 a10 a11
    subst hA
    have HON := Lib.hid on
    have HS3 := Lib.hid (show ∀ k : Nat, k < 3 → letterI s.pt k = Pl.letter s.pt k from fun k hk => letterI_nat _ _ hk)
    clear hf hs hR hl on hsi hsn
    go_enter Tryz.func51, Tryz.ntmps51
    go_wp2_with fail
    go_region_held3 (fun w' => w'.cell? ⟨g, 10, none⟩ = some (.slice (some ⟨b, o, none⟩) LS.length cp) ∧ w'.cell? ⟨w.heap.size, 0, none⟩ = some (.string (txt t.n)))
      (first | exact ⟨K4, k0⟩ | exact ⟨(hcell _ _ g1).trans K4, (hcell _ _ g2).trans k0⟩)
      (first
        | (go_at_call 13; (with_reducible refine (FN.out _ X0.out.drew).mono ?_); rintro e w' ⟨rfl, hbl, hacc, hz⟩; have hcell := (bcell hbl).1))
    all_goals (have BS := Lib.hid (SpotLoop.start hacc ((hbl.block _ g2).trans HR0.out) ((hbl.block _ gR1).trans HR1.out) s 51))
    all_goals (have A4 := (hacc.cell (show (⟨g, 10, none⟩ : Addr).block < w.heap.size from hg)).trans s10)
    all_goals (obtain ⟨a0, a1, a2, a3, a4, a5, a6, a7, a8, a9, a10, a11⟩ := sec_on (HON.out.below hb hacc))
    all_goals (rw [show i * LSec.m = i * 12 from rfl] at a0 a1 a2 a3 a4 a5 a6 a7 a8 a9 a10 a11)
    all_goals go_wp2_with fail
    all_goals clear a0 a1 a2 a3 a4 a5 a6 a7 a8 a9 a10 a11 A4
    generalize w'.heap.size = gs at BS ⊢
    go_loopw [26] (fun v wr => ∃ k : Nat, k ≤ 3 ∧ v = .int .i64 k ∧ (∀ j < k, Pl.letter s.pt j ≠ t.c) ∧ SpotLoop 41 90 51 w gs s t wr) (fun v _ => 3 - (intOf v).toNat)
    case atStart => exact ⟨0, Nat.zero_le _, rfl, fun j hj => absurd hj (Nat.not_lt_zero j), BS.out⟩
    case round =>
      clear BS
      obtain ⟨k, hk, rfl, h0, hB⟩ := hrel
      have H0 := Lib.hid h0
      have HB := Lib.hid hB
      obtain ⟨⟨q0, q1⟩, ⟨e0, e1⟩, gq⟩ := row2f hB.2.2.1
      obtain ⟨⟨c0, c1⟩, gc⟩ := row2c hB.2.1
      have p1 := (sec_on (heap_sec hB.2.2.2)).2.1
      rw [Nat.zero_add] at p1
      clear h0 hB
      by_cases hlt : k < 3
      · have d3 : decide ((k : Int) < 3) = true := dec_t (by omega)
        have LT := Lib.hid (fun W => (pLetter_any s.pt k W))
        rw [HS3.out k hlt] at LT
        by_cases he : Pl.letter s.pt k = t.c
        · have h1 := u8_eqB he
          have P := Lib.hid (E.out.trans (by rw [endAt_hit hc hlt H0.out he]))
          clear he
          go_wp2_with fail
          go_region_held3 (fun w' => w'.cell? ⟨gs, 1, none⟩ = some (.bool s.pt) ∧ w'.cell? ⟨w.heap.size, 1, none⟩ = some (.int .u8 t.c.toNat))
            (exact ⟨p1, c1⟩)
            (first
              | (go_at_call 15; (with_reducible refine (LT.out _).mono ?_); rintro e w' ⟨rfl, rfl⟩))
          all_goals go_wp2_with fail
          all_goals refine bodyPost_ret ?_ rfl (SpotGives.mk _ _ _ P.out rfl ?_)
          all_goals first | (simp [results, Tryz.results51, go_sem, *]; done) | (refine Below.drew ?_; (repeat (with_reducible refine Below.setCell ?_ (by exact Nat.le_succ _) _)); exact HB.out.1)
        · have h1 := u8_neB he
          have N := Lib.hid (show ∀ j < k + 1, Pl.letter s.pt j ≠ t.c from fun j hj => by
            rcases Nat.lt_or_ge j k with h | h
            · exact H0.out j h
            · obtain rfl : j = k := by omega
              exact he)
          clear he
          go_wp2_with fail
          go_region_held3 (fun w' => w'.cell? ⟨gs, 1, none⟩ = some (.bool s.pt) ∧ w'.cell? ⟨w.heap.size, 1, none⟩ = some (.int .u8 t.c.toNat))
            (exact ⟨p1, c1⟩)
            (first
              | (go_at_call 15; (with_reducible refine (LT.out _).mono ?_); rintro e w' ⟨rfl, rfl⟩))
          all_goals go_wp2_with fail
          all_goals go_roundw
          case rel => exact ⟨k + 1, by omega, by go_num, N.out, HB.out.drew⟩
          case measure => simp [intOf]; omega
      · have d3 : decide ((k : Int) < 3) = false := dec_f (by omega)
        have P := Lib.hid (E.out.trans (by rw [endAt_miss fun j hj => H0.out j (by omega)]))
        go_wp2_with fail
        refine bodyPost_ret ?_ rfl (SpotGives.mk _ _ _ P.out rfl ?_)
        · simp [results, Tryz.results51, go_sem, *]
        · (repeat (with_reducible refine Below.setCell ?_ (by exact Nat.le_succ _) _)); exact HB.out.1
set_option maxHeartbeats 8000000 in
set_option maxRecDepth 100000 in
theorem pUnused_any (g : Nat) (M : List It.Itm) (vS vG : Value) (LS : List Pl.Sec) (LG : List Pl.Sig) (t : It.Tp) (w : World) (h : DrX tyD tyS tyG w g M vS vG LS LG) (hl : LS.length ≤ 1000) (hc : t.c ≠ 0) :
    Calls Tryz.prog 78 #[.pointer (some ⟨g, 0, none⟩), .agg #[.string (txt t.n), .int .u8 t.c.toNat]] w (UnusedGives LS t w) := by
  obtain ⟨R0, R1, XX, XS⟩ := two_blocks w (.cells #[.string (txt t.n), .int .u8 t.c.toNat] 41) (.cells #[.int .i64 0, .int .i64 0] 90)
  have X0 := Lib.hid XX
  have HR1 := Lib.hid R1
  have gR1 : w.heap.size + 1 < ((w.alloc (.cells #[.string (txt t.n), .int .u8 t.c.toNat] 41)).alloc (.cells #[.int .i64 0, .int .i64 0] 90)).heap.size := by rw [XS]; omega
  have SP := Lib.hid (pSpot_any g M vS vG LS LG t _ (h.below XX) hl hc)
  have HH := Lib.hid h
  clear XX R0 R1 h
  rcases Pl.find_cases LS t.n with ⟨hf, _⟩ | ⟨i, s, hf, hs, hsn⟩
  · have P := Lib.hid (FreeIs.none hf)
    have E := endI_no (L := LS) (t := t) (by rw [hf]; decide)
    unfold SpotGives at SP
    rw [E] at SP
    clear hf E
    go_enter Tryz.func78, Tryz.ntmps78
    go_wp2_with fail
    refine SP.out.mono ?_; rintro e w1 ⟨rfl, hb1⟩
    obtain ⟨⟨e0, e1⟩, ⟨f0, f1⟩, ge⟩ := row2f ((hb1.block _ gR1).trans HR1.out)
    have BF := Lib.hid (X0.out.trans (hb1.mono X0.out.size))
    clear hb1
    go_wp2_with fail
    refine bodyPost_ret ?_ rfl (UnusedGives.mk _ _ _ P.out rfl ?_)
    · simp [results, Tryz.results78, go_sem, *]
    · refine Below.alloc ?_ (by simpa using BF.out.size) _; (repeat (with_reducible refine Below.setCell ?_ (by exact Nat.le_succ _) _)); exact BF.out
  · have E := endI_at hf hs
    unfold SpotGives at SP
    rw [E] at SP
    cases he : Pl.endAt s.pt t.c with
    | none =>
      have P := Lib.hid (FreeIs.noEnd i s hf hs he)
      rw [he] at SP
      clear hf hs he E hsn
      go_enter Tryz.func78, Tryz.ntmps78
      go_wp2_with fail
      refine SP.out.mono ?_; rintro e w1 ⟨rfl, hb1⟩
      obtain ⟨⟨e0, e1⟩, ⟨f0, f1⟩, ge⟩ := row2f ((hb1.block _ gR1).trans HR1.out)
      have BF := Lib.hid (X0.out.trans (hb1.mono X0.out.size))
      clear hb1
      go_wp2_with fail
      refine bodyPost_ret ?_ rfl (UnusedGives.mk _ _ _ P.out rfl ?_)
      · simp [results, Tryz.results78, go_sem, *]
      · refine Below.alloc ?_ (by simpa using BF.out.size) _; (repeat (with_reducible refine Below.setCell ?_ (by exact Nat.le_succ _) _)); exact BF.out
    | some e =>
      have h3 := endAt_lt he
      rw [he] at SP
      by_cases ht : (s.get e).goes = -2
      · have P := Lib.hid (FreeIs.free i e s hf hs he ht)
        have TO := Lib.hid (fun W hX => pTo_any g M vS vG LS LG W hX hs h3 hl)
        rw [ht] at TO
        clear hf hs he E hsn ht
        go_enter Tryz.func78, Tryz.ntmps78
        go_wp2_with fail
        refine SP.out.mono ?_; rintro e w1 ⟨rfl, hb1⟩
        have BF := Lib.hid (X0.out.trans (hb1.mono X0.out.size))
        have BA := Lib.hid ((Below.refl w1.heap.size w1).alloc (Nat.le_refl _) (.cells #[.int .i64 i, .int .i64 e] 90))
        have TT := Lib.hid (TO.out _ ((HH.out.below BF.out).below BA.out))
        have HR2 := Lib.hid ((hb1.block _ gR1).trans HR1.out)
        clear hb1
        go_wp2_with fail
        refine TT.out.mono ?_; rintro e w2 ⟨rfl, hb2⟩
        obtain ⟨⟨e0, e1⟩, ⟨f0, f1⟩, ge⟩ := row2f ((hb2.block _ (by have := (Array.getElem?_eq_some_iff.1 HR2.out).1; simp; omega)).trans ((heap_alloc_old _ _ (Array.getElem?_eq_some_iff.1 HR2.out).1).trans HR2.out))
        obtain ⟨⟨n0, n1⟩, gn⟩ := row2c ((hb2.block _ (by simp)).trans (heap_alloc_new w1 (.cells #[.int .i64 i, .int .i64 e] 90)))
        have BF2 := Lib.hid ((BF.out.alloc BF.out.size (.cells #[.int .i64 i, .int .i64 e] 90)).trans (hb2.mono (by simp; exact Nat.le_succ_of_le BF.out.size)))
        clear hb2
        go_wp2_with fail
        refine bodyPost_ret ?_ rfl (UnusedGives.mk _ _ _ P.out rfl ?_)
        · simp [results, Tryz.results78, go_sem, *]
        · (repeat (with_reducible refine Below.setCell ?_ (by exact Nat.le_succ _) _)); exact BF2.out
      · have P := Lib.hid (FreeIs.used i e s hf hs he ht)
        have h2 : ((s.get e).goes != -2) = true := by rw [bne_iff_ne]; exact ht
        have TO := Lib.hid (fun W hX => pTo_any g M vS vG LS LG W hX hs h3 hl)
        clear hf hs he E hsn ht
        go_enter Tryz.func78, Tryz.ntmps78
        go_wp2_with fail
        refine SP.out.mono ?_; rintro e w1 ⟨rfl, hb1⟩
        have BF := Lib.hid (X0.out.trans (hb1.mono X0.out.size))
        have BA := Lib.hid ((Below.refl w1.heap.size w1).alloc (Nat.le_refl _) (.cells #[.int .i64 i, .int .i64 e] 90))
        have TT := Lib.hid (TO.out _ ((HH.out.below BF.out).below BA.out))
        have HR2 := Lib.hid ((hb1.block _ gR1).trans HR1.out)
        clear hb1
        go_wp2_with fail
        refine TT.out.mono ?_; rintro e w2 ⟨rfl, hb2⟩
        obtain ⟨⟨e0, e1⟩, ⟨f0, f1⟩, ge⟩ := row2f ((hb2.block _ (by have := (Array.getElem?_eq_some_iff.1 HR2.out).1; simp; omega)).trans ((heap_alloc_old _ _ (Array.getElem?_eq_some_iff.1 HR2.out).1).trans HR2.out))
        obtain ⟨⟨n0, n1⟩, gn⟩ := row2c ((hb2.block _ (by simp)).trans (heap_alloc_new w1 (.cells #[.int .i64 i, .int .i64 e] 90)))
        have BF2 := Lib.hid ((BF.out.alloc BF.out.size (.cells #[.int .i64 i, .int .i64 e] 90)).trans (hb2.mono (by simp; exact Nat.le_succ_of_le BF.out.size)))
        clear hb2
        go_wp2_with fail
        refine bodyPost_ret ?_ rfl (UnusedGives.mk _ _ _ P.out rfl ?_)
        · simp [results, Tryz.results78, go_sem, *]
        · (repeat (with_reducible refine Below.setCell ?_ (by exact Nat.le_succ _) _)); exact BF2.out
end Go.Proofs.YtaheiolbeiofpaaGreatDoor
/-
  The walks of the program's draft of layer 5: a number, a stop, a join more.
-/
namespace Go.Proofs.YtaheiolbeiofpaaGreatDoor
open Go.RowKit

theorem dFree {M : List It.Itm} {t : It.Tp} {r : Int × Int × Int} (h : FreeIs (Pl.dS M) t r) : FreeIs (Pl.wS M) t r := by
  have hf : Pl.find (Pl.dS M) t.n = Pl.find (Pl.wS M) t.n := by unfold Pl.find Pl.dS; rw [List.findIdx?_map]; rfl
  have hat : ∀ {i : Nat} {s : Pl.Sec}, (Pl.dS M)[i]? = some s → ∃ u, (Pl.wS M)[i]? = some u ∧ s = Pl.clr u := fun {i s} hs => by
    rw [Pl.dS, List.getElem?_map, Option.map_eq_some_iff] at hs
    obtain ⟨u, h1, h2⟩ := hs
    exact ⟨u, h1, h2.symm⟩
  have hto : ∀ (u : Pl.Sec) (e : Nat), ((Pl.clr u).get e).goes = (u.get e).goes := fun u e => by rw [Pl.clr_get]; rfl
  cases h with
  | none h => exact .none (hf ▸ h)
  | noEnd i s h hs he =>
    obtain ⟨u, hu, rfl⟩ := hat hs
    exact .noEnd i u (hf ▸ h) hu he
  | used i e s h hs he ht =>
    obtain ⟨u, hu, rfl⟩ := hat hs
    exact .used i e u (hf ▸ h) hu he (hto u e ▸ ht)
  | free i e s h hs he ht =>
    obtain ⟨u, hu, rfl⟩ := hat hs
    exact .free i e u (hf ▸ h) hu he (hto u e ▸ ht)
theorem dFree_err {M : List It.Itm} (hM : Pl.Ok M) {t : It.Tp} {a b c : Int} (h : FreeIs (Pl.dS M) t (a, b, c)) : c = Pl.tipErr M (Pl.ments M) t ∧
    (c = 0 → ∃ (i e : Nat) (y : It.Itm), a = i ∧ b = e ∧ (Pl.secs M)[i]? = some y ∧ e < Pl.nEnds (Pl.isPt y) ∧ t = Pl.tip y e) := freeIs_err hM (dFree h)
theorem DrAt.row {tD tS tG : TypeId} {w w' : World} {g : Nat} {M K : List It.Itm} {vS vG : Value} {LS : List Pl.Sec} {LG : List Pl.Sig} (h : DrX tD tS tG w g M vS vG LS LG)
    (hrow : w'.heap[g]? = some (.cells (draftCells K vS vG) tD (0, 0))) (hk : ∀ b, b ≠ g → b < w.heap.size → w'.heap[b]? = w.heap[b]?) (e1 : Pl.dS K = LS) (e2 : Pl.wG K = LG) : DrAt tD tS tG w' g K := by
  obtain ⟨-, hS, hG, hap⟩ := h
  refine ⟨vS, vG, hrow, ?_, ?_, hap⟩
  · rw [e1]
    refine ⟨hS.1, ?_⟩
    rcases hS.2 with hn | ⟨b, cap, cur, rfl, hbb, hgg, rest⟩
    · exact .inl hn
    · exact .inr ⟨b, cap, cur, rfl, hbb, by rw [hk b (by omega) (Array.getElem?_eq_some_iff.1 hgg).1]; exact hgg, rest⟩
  · rw [e2]
    refine ⟨hG.1, ?_⟩
    rcases hG.2 with hn | ⟨b, cap, cur, rfl, hbb, hgg, rest⟩
    · exact .inl hn
    · exact .inr ⟨b, cap, cur, rfl, hbb, by rw [hk b (by omega) (Array.getElem?_eq_some_iff.1 hgg).1]; exact hgg, rest⟩
theorem draft_num1 {M : List It.Itm} {x : It.Itm} (h : toldB M 1 = false) (hk : x.k = 1) (vS vG : Value) : ((draftCells M vS vG).setIfInBounds 1 (.bool true)).setIfInBounds 6 (.int .i64 x.n) = draftCells (M ++ [x]) vS vG := by
  have h0 := toldB_ne h
  simp [draftCells, toldB_snoc, hk, Pl.num_snoc (M := M) (x := x) _ (by rw [hk]; exact h0)]
theorem draft_num2 {M : List It.Itm} {x : It.Itm} (h : toldB M 2 = false) (hk : x.k = 2) (vS vG : Value) : ((draftCells M vS vG).setIfInBounds 2 (.bool true)).setIfInBounds 7 (.int .i64 x.n) = draftCells (M ++ [x]) vS vG := by
  have h0 := toldB_ne h
  simp [draftCells, toldB_snoc, hk, Pl.num_snoc (M := M) (x := x) _ (by rw [hk]; exact h0)]
theorem draft_num3 {M : List It.Itm} {x : It.Itm} (h : toldB M 3 = false) (hk : x.k = 3) (vS vG : Value) : ((draftCells M vS vG).setIfInBounds 3 (.bool true)).setIfInBounds 8 (.int .i64 x.n) = draftCells (M ++ [x]) vS vG := by
  have h0 := toldB_ne h
  simp [draftCells, toldB_snoc, hk, Pl.num_snoc (M := M) (x := x) _ (by rw [hk]; exact h0)]
theorem draft_num4 {M : List It.Itm} {x : It.Itm} (h : toldB M 4 = false) (hk : x.k = 4) (vS vG : Value) : ((draftCells M vS vG).setIfInBounds 4 (.bool true)).setIfInBounds 9 (.int .i64 x.n) = draftCells (M ++ [x]) vS vG := by
  have h0 := toldB_ne h
  simp [draftCells, toldB_snoc, hk, Pl.num_snoc (M := M) (x := x) _ (by rw [hk]; exact h0)]
theorem number_drew {w W : World} {g : Nat} {cs : Array Value} {tw : TypeId} (hrow : w.heap[g]? = some (.cells cs tw (0, 0))) (hb : Below w.heap.size w W) (a b : Nat) (u v : Value) :
    (((W.setCell ⟨g, a, none⟩ u).setCell ⟨g, b, none⟩ v).drew.heap[g]? = some (.cells ((cs.setIfInBounds a u).setIfInBounds b v) tw (0, 0))) ∧
    (∀ c, c ≠ g → c < w.heap.size → ((W.setCell ⟨g, a, none⟩ u).setCell ⟨g, b, none⟩ v).drew.heap[c]? = w.heap[c]?) ∧ Below g w ((W.setCell ⟨g, a, none⟩ u).setCell ⟨g, b, none⟩ v).drew := by
  have hg := (Array.getElem?_eq_some_iff.1 hrow).1
  refine ⟨?_, fun c hc hlt => ?_, ?_⟩
  · exact heap_setCell_same _ _ _ _ _ _ (heap_setCell_same _ _ _ _ _ _ ((hb.block g hg).trans hrow))
  · show ((W.setCell ⟨g, a, none⟩ u).setCell ⟨g, b, none⟩ v).heap[c]? = _
    rw [heap_setCell_other _ ⟨g, b, none⟩ c v (by simpa using fun e => hc e), heap_setCell_other _ ⟨g, a, none⟩ c u (by simpa using fun e => hc e)]
    exact hb.block c hlt
  · exact (((hb.mono (Nat.le_of_lt hg)).setCell (Nat.le_refl _) _).setCell (Nat.le_refl _) _).drew
set_option maxHeartbeats 8000000 in
set_option maxRecDepth 100000 in
theorem pNumber_any (g : Nat) (M : List It.Itm) (x : It.Itm) (w : World) (h : DrAt tyD tyS tyG w g M) (hk : It.isNum x.k = true) :
    Calls Tryz.prog 48 #[.pointer (some ⟨g, 0, none⟩), itemV x] w (DrGives tyD tyS tyG g M x (if toldB M x.k then 3 else 0) w) := by
  obtain ⟨e1, e2⟩ := Pl.d_num (M := M) hk
  obtain ⟨vS, vG, hX⟩ := h
  obtain ⟨⟨s1, s2, s3, s4⟩, ⟨n1, n2, n3, n4⟩, -, hfz, hg⟩ := draft_row hX.1
  have hx : x.k = 1 ∨ x.k = 2 ∨ x.k = 3 ∨ x.k = 4 := by
    unfold It.isNum at hk
    have := of_decide_eq_true hk
    omega
  have N1 := World.new_ne _ _ s1
  have HB := Lib.hid ((Below.refl g w).alloc (Nat.le_of_lt hg) (.cells (cells7 x).toArray 44))
  have CN1 := Lib.hid (fun h hk => draft_num1 (M := M) (x := x) h hk vS vG)
  have CN2 := Lib.hid (fun h hk => draft_num2 (M := M) (x := x) h hk vS vG)
  have CN3 := Lib.hid (fun h hk => draft_num3 (M := M) (x := x) h hk vS vG)
  have CN4 := Lib.hid (fun h hk => draft_num4 (M := M) (x := x) h hk vS vG)
  have E1 := Lib.hid e1
  have E2 := Lib.hid e2
  have HX := Lib.hid hX
  clear e1 e2 hX hk
  obtain ⟨k, nm, n, t0, t1⟩ := x
  have hxk : k = 1 ∨ k = 2 ∨ k = 3 ∨ k = 4 := hx
  clear hx
  rcases hxk with rfl | rfl | rfl | rfl
  · have fa := hfz 1
    have fb := hfz 6
    clear hfz
    cases ht : toldB M 1
    · rw [ht] at s1
      have HT := Lib.hid ht
      clear ht
      go_enter Tryz.func48, Tryz.ntmps48
      go_wp2_with fail
      go_quiet (fail)
      go_wp2_with fail
      go_region
      go_wp2_with fail
      go_region
      go_wp2_with fail
      go_ret
      have H3 := number_drew HX.out.1 (below_drewN ((Below.refl w.heap.size w).alloc (Nat.le_refl _) (.cells (cells7 ⟨1, nm, n, t0, t1⟩).toArray 44)) (nq + 1)) 1 6 (.bool true) (.int .i64 n)
      rw [CN1.out HT.out (by first | rfl | trivial)] at H3
      exact ⟨rfl, fun _ => DrAt.row HX.out H3.1 H3.2.1 E1.out E2.out, H3.2.2⟩
    · rw [ht] at s1
      have HT := Lib.hid ht
      clear ht
      go_enter Tryz.func48, Tryz.ntmps48
      go_wp2_with fail
      go_quiet (fail)
      go_wp2_with fail
      go_ret
      exact ⟨rfl, fun h => by simp at h, below_drewN HB.out _⟩
  · have fa := hfz 2
    have fb := hfz 7
    clear hfz
    cases ht : toldB M 2
    · rw [ht] at s2
      have HT := Lib.hid ht
      clear ht
      go_enter Tryz.func48, Tryz.ntmps48
      go_wp2_with fail
      go_quiet (fail)
      go_wp2_with fail
      go_region
      go_wp2_with fail
      go_region
      go_wp2_with fail
      go_ret
      have H3 := number_drew HX.out.1 (below_drewN ((Below.refl w.heap.size w).alloc (Nat.le_refl _) (.cells (cells7 ⟨2, nm, n, t0, t1⟩).toArray 44)) (nq + 1)) 2 7 (.bool true) (.int .i64 n)
      rw [CN2.out HT.out (by first | rfl | trivial)] at H3
      exact ⟨rfl, fun _ => DrAt.row HX.out H3.1 H3.2.1 E1.out E2.out, H3.2.2⟩
    · rw [ht] at s2
      have HT := Lib.hid ht
      clear ht
      go_enter Tryz.func48, Tryz.ntmps48
      go_wp2_with fail
      go_quiet (fail)
      go_wp2_with fail
      go_ret
      exact ⟨rfl, fun h => by simp at h, below_drewN HB.out _⟩
  · have fa := hfz 3
    have fb := hfz 8
    clear hfz
    cases ht : toldB M 3
    · rw [ht] at s3
      have HT := Lib.hid ht
      clear ht
      go_enter Tryz.func48, Tryz.ntmps48
      go_wp2_with fail
      go_quiet (fail)
      go_wp2_with fail
      go_region
      go_wp2_with fail
      go_region
      go_wp2_with fail
      go_ret
      have H3 := number_drew HX.out.1 (below_drewN ((Below.refl w.heap.size w).alloc (Nat.le_refl _) (.cells (cells7 ⟨3, nm, n, t0, t1⟩).toArray 44)) (nq + 1)) 3 8 (.bool true) (.int .i64 n)
      rw [CN3.out HT.out (by first | rfl | trivial)] at H3
      exact ⟨rfl, fun _ => DrAt.row HX.out H3.1 H3.2.1 E1.out E2.out, H3.2.2⟩
    · rw [ht] at s3
      have HT := Lib.hid ht
      clear ht
      go_enter Tryz.func48, Tryz.ntmps48
      go_wp2_with fail
      go_quiet (fail)
      go_wp2_with fail
      go_ret
      exact ⟨rfl, fun h => by simp at h, below_drewN HB.out _⟩
  · have fa := hfz 4
    have fb := hfz 9
    clear hfz
    cases ht : toldB M 4
    · rw [ht] at s4
      have HT := Lib.hid ht
      clear ht
      go_enter Tryz.func48, Tryz.ntmps48
      go_wp2_with fail
      go_quiet (fail)
      go_wp2_with fail
      go_region
      go_wp2_with fail
      go_region
      go_wp2_with fail
      go_ret
      have H3 := number_drew HX.out.1 (below_drewN ((Below.refl w.heap.size w).alloc (Nat.le_refl _) (.cells (cells7 ⟨4, nm, n, t0, t1⟩).toArray 44)) (nq + 1)) 4 9 (.bool true) (.int .i64 n)
      rw [CN4.out HT.out (by first | rfl | trivial)] at H3
      exact ⟨rfl, fun _ => DrAt.row HX.out H3.1 H3.2.1 E1.out E2.out, H3.2.2⟩
    · rw [ht] at s4
      have HT := Lib.hid ht
      clear ht
      go_enter Tryz.func48, Tryz.ntmps48
      go_wp2_with fail
      go_quiet (fail)
      go_wp2_with fail
      go_ret
      exact ⟨rfl, fun h => by simp at h, below_drewN HB.out _⟩
set_option maxHeartbeats 8000000 in
set_option maxRecDepth 100000 in
theorem pStop_any (g : Nat) (M : List It.Itm) (x : It.Itm) (w : World) (h : DrAt tyD tyS tyG w g M) (hM : Pl.Ok M) (hr : It.right x = true) (h8 : x.k = 8) :
    Calls Tryz.prog 46 #[.pointer (some ⟨g, 0, none⟩), .agg #[.string (txt x.e0.n), .int .u8 x.e0.c.toNat]] w (DrGives tyD tyS tyG g M x (Pl.tipErr M (Pl.ments M) x.e0) w) := by
  have hc0 := letter_ne (Pl.right_stop hr h8).2
  have hl : (Pl.dS M).length ≤ 1000 := by rw [Pl.dS_len]; have := hM.few; omega
  obtain ⟨vS, vG, hX⟩ := h
  have hg := (Array.getElem?_eq_some_iff.1 hX.1).1
  have X0 := Lib.hid ((Below.refl w.heap.size w).alloc (Nat.le_refl _) (.cells #[.string (txt x.e0.n), .int .u8 x.e0.c.toNat] 41))
  have UN := Lib.hid (pUnused_any g M vS vG (Pl.dS M) (Pl.wG M) x.e0 (w.alloc (.cells #[.string (txt x.e0.n), .int .u8 x.e0.c.toNat] 41)) (hX.below X0.out) hl hc0)
  have HX := Lib.hid hX
  have HL := Lib.hid hl
  have H8 := Lib.hid h8
  clear hX hc0 hl h8 hr
  go_enter Tryz.func46, Tryz.ntmps46
  go_wp2_with fail
  refine UN.out.mono ?_; rintro e w1 ⟨a, b, c, rfl, hfree, hb1⟩
  obtain ⟨hcE, hcs⟩ := dFree_err hM hfree
  have hb01 := X0.out.trans (hb1.mono X0.out.size)
  have hB := Lib.hid (hb01.mono (Nat.le_of_lt hg))
  by_cases hc : c = 0
  · obtain ⟨i, e, y, rfl, rfl, hy, he, ht⟩ := hcs hc
    subst hc
    have he3 : e < 3 := by unfold Pl.nEnds at he; split at he <;> omega
    have BA := Lib.hid (hb01.alloc hb01.size (.cells #[.int .i64 i, .int .i64 e] 90))
    have LD := Lib.hid (pLead_any g M vS vG (Pl.dS M) (Pl.wG M) _ (HX.out.below BA.out) (Pl.dS_of hy) he3 HL.out (-1) 0)
    have hm : x.e0 ∉ Pl.ments M := (Pl.tipErr_zero.1 hcE.symm).2.2
    have E := Lib.hid (Pl.d_stop hM H8.out hm hy he ht)
    have hCE := Lib.hid hcE
    have BG := Lib.hid (BA.out.mono (Nat.le_of_lt hg))
    clear hfree hcs hb1 hb01 hy he ht hm hcE hM
    go_wp2_with fail
    refine LD.out.mono ?_; rintro e' w2 ⟨rfl, hD, hb2, -⟩
    have BF := Lib.hid (BG.out.trans hb2)
    have HD := Lib.hid hD
    clear hD hb2
    go_wp2_with fail
    go_ret
    refine ⟨by rw [← hCE.out]; rfl, fun _ => ⟨vS, vG, ?_⟩, BF.out⟩
    rw [E.out.1, E.out.2]
    obtain ⟨d1, d2, d3, d4⟩ := HD.out
    exact ⟨by rw [draft_keep (by unfold It.isNum; rw [H8.out]; decide)]; exact d1, d2, d3, d4⟩
  · have hcn : (c != 0) = true := by rw [bne_iff_ne]; exact hc
    have hCE := Lib.hid hcE
    have hz := hb01.size
    clear hfree hcs hb1 hb01 hcE hM
    go_wp2_with fail
    go_ret
    exact ⟨by rw [← hCE.out]; rfl, fun h => absurd (hCE.out.trans h) hc, hB.out.alloc (by omega) _⟩
end Go.Proofs.YtaheiolbeiofpaaGreatDoor
/-
  The walk of the program's draft of layer 5: a join more.
-/
namespace Go.Proofs.YtaheiolbeiofpaaGreatDoor
open Go.RowKit

theorem join_two {M : List It.Itm} {x : It.Itm} {c : Int} (h0 : Pl.tipErr M (Pl.ments M) x.e0 = 0) (h1 : Pl.tipErr M (Pl.ments M) x.e1 = c) (hc : c ≠ 0) : Pl.joinErr M x = c := by
  unfold Pl.joinErr
  rw [h0]
  simp only [ne_eq, not_true_eq_false, if_false]
  rw [← h1] at hc ⊢
  unfold Pl.tipErr at hc ⊢
  by_cases a : x.e1.n ∉ Pl.nmS M
  · rw [if_pos a, if_pos a]
  · rw [if_neg a, if_neg a]
    by_cases b : Pl.endAt (Pl.ptOf M x.e1.n) x.e1.c = none
    · rw [if_pos b, if_pos b]
    · rw [if_neg b, if_neg b]
      rw [if_neg a, if_neg b] at hc
      by_cases d : x.e1 ∈ Pl.ments M
      · rw [if_pos d, if_pos (List.mem_append_left _ d)]
      · rw [if_neg d] at hc; exact absurd rfl hc
theorem join_same {M : List It.Itm} {x : It.Itm} (h0 : Pl.tipErr M (Pl.ments M) x.e0 = 0) (h1 : Pl.tipErr M (Pl.ments M) x.e1 = 0) (h : x.e0 = x.e1) : Pl.joinErr M x = 6 := by
  obtain ⟨a, b, -⟩ := Pl.tipErr_zero.1 h1
  unfold Pl.joinErr
  rw [h0]
  simp only [ne_eq, not_true_eq_false, if_false]
  unfold Pl.tipErr
  rw [if_neg (fun hn => hn a), if_neg (by intro hn; rw [hn] at b; cases b), if_pos (by rw [h]; simp)]
theorem join_good {M : List It.Itm} {x : It.Itm} (h0 : Pl.tipErr M (Pl.ments M) x.e0 = 0) (h1 : Pl.tipErr M (Pl.ments M) x.e1 = 0) (h : x.e0 ≠ x.e1) : Pl.joinErr M x = 0 := by
  obtain ⟨a, b, c⟩ := Pl.tipErr_zero.1 h1
  unfold Pl.joinErr
  rw [h0]
  simp only [ne_eq, not_true_eq_false, if_false]
  exact Pl.tipErr_zero.2 ⟨a, b, fun hm => by
    rcases List.mem_append.1 hm with hm | hm
    · exact c hm
    · simp at hm; exact h hm.symm⟩
theorem tip_same {M : List It.Itm} (hM : Pl.Ok M) {i j e f : Nat} {y z : It.Itm} (hy : (Pl.secs M)[i]? = some y) (hz : (Pl.secs M)[j]? = some z) (he : e < Pl.nEnds (Pl.isPt y)) (hf : f < Pl.nEnds (Pl.isPt z)) : Pl.tip y e = Pl.tip z f ↔ i = j ∧ e = f := by
  constructor
  · intro h
    have hn : y.name = z.name := congrArg It.Tp.n h
    have p1 := Pl.pos_sec hM.names hy
    have p2 := Pl.pos_sec hM.names hz
    rw [hn] at p1
    have hij : i = j := by omega
    subst hij
    rw [hy] at hz
    cases hz
    exact ⟨rfl, Pl.letter_inj he hf (congrArg It.Tp.c h)⟩
  · rintro ⟨rfl, rfl⟩
    rw [hy] at hz
    cases hz; rfl
set_option maxHeartbeats 8000000 in
set_option maxRecDepth 100000 in
theorem pJoin_any (g : Nat) (M : List It.Itm) (x : It.Itm) (w : World) (h : DrAt tyD tyS tyG w g M) (hM : Pl.Ok M) (hr : It.right x = true) (h7 : x.k = 7) :
    Calls Tryz.prog 45 #[.pointer (some ⟨g, 0, none⟩), .agg #[.string (txt x.e0.n), .int .u8 x.e0.c.toNat, .string (txt x.e1.n), .int .u8 x.e1.c.toNat]] w (DrGives tyD tyS tyG g M x (Pl.joinErr M x) w) := by
  have hc0 := letter_ne (Pl.right_join hr h7).2.1
  have hc1 := letter_ne (Pl.right_join hr h7).2.2
  have hl : (Pl.dS M).length ≤ 1000 := by rw [Pl.dS_len]; have := hM.few; omega
  obtain ⟨vS, vG, hX⟩ := h
  have hg := (Array.getElem?_eq_some_iff.1 hX.1).1
  have X0 := Lib.hid ((Below.refl w.heap.size w).alloc (Nat.le_refl _) (.cells #[.string (txt x.e0.n), .int .u8 x.e0.c.toNat, .string (txt x.e1.n), .int .u8 x.e1.c.toNat] 42))
  have U0 := Lib.hid (pUnused_any g M vS vG (Pl.dS M) (Pl.wG M) x.e0 _ (hX.below X0.out) hl hc0)
  have U1 := Lib.hid (fun W hW => pUnused_any g M vS vG (Pl.dS M) (Pl.wG M) x.e1 W hW hl hc1)
  have hc4 : (w.alloc (.cells #[.string (txt x.e0.n), .int .u8 x.e0.c.toNat, .string (txt x.e1.n), .int .u8 x.e1.c.toNat] 42)).heap[w.heap.size]? = some (.cells #[.string (txt x.e0.n), .int .u8 x.e0.c.toNat, .string (txt x.e1.n), .int .u8 x.e1.c.toNat] 42 (0, 0)) := heap_alloc_new _ _
  have HC4 := Lib.hid hc4
  have HX := Lib.hid hX
  have HL := Lib.hid hl
  have H7 := Lib.hid h7
  clear hX hc0 hc1 hl h7 hr hc4
  go_enter Tryz.func45, Tryz.ntmps45
  go_wp2_with fail
  refine U0.out.mono ?_; rintro e w1 ⟨a, b, c, rfl, hfree, hb1⟩
  obtain ⟨hcE, hcs⟩ := dFree_err hM hfree
  have hb01 := X0.out.trans (hb1.mono X0.out.size)
  have hB := Lib.hid (hb01.mono (Nat.le_of_lt hg))
  by_cases hc : c = 0
  · obtain ⟨i, e, y, rfl, rfl, hy, he, ht⟩ := hcs hc
    subst hc
    have BA := Lib.hid (hb01.alloc hb01.size (.cells #[.int .i64 i, .int .i64 e] 90))
    have UU := Lib.hid (U1.out _ (HX.out.below BA.out))
    have HT1 := (hb1.block _ (by simp)).trans HC4.out
    obtain ⟨c2, c3⟩ : w1.cell? ⟨w.heap.size, 2, none⟩ = some (.string (txt x.e1.n)) ∧ w1.cell? ⟨w.heap.size, 3, none⟩ = some (.int .u8 x.e1.c.toNat) := ⟨cell_of_row _ _ 2 _ _ _ HT1, cell_of_row _ _ 3 _ _ _ HT1⟩
    have gT := (Array.getElem?_eq_some_iff.1 HT1).1
    have HS1 := Lib.hid (show (w1.alloc (.cells #[.int .i64 i, .int .i64 e] 90)).heap[w1.heap.size]? = some (.cells #[.int .i64 i, .int .i64 e] 90 (0, 0)) from heap_alloc_new _ _)
    have HY := Lib.hid hy
    have HE := Lib.hid he
    have HT := Lib.hid ht
    have hCE := Lib.hid hcE
    clear hfree hcs hb1 hb01 hy he ht hcE HT1
    go_wp2_with fail
    refine UU.out.mono ?_; rintro e' w2 ⟨a2, b2, c2', rfl, hfree2, hb2⟩
    obtain ⟨hcE2, hcs2⟩ := dFree_err hM hfree2
    have hb02 := BA.out.trans (hb2.mono BA.out.size)
    have hB2 := Lib.hid (hb02.mono (Nat.le_of_lt hg))
    have hz2 := hb02.size
    by_cases hc2 : c2' = 0
    · obtain ⟨j, f, z, rfl, rfl, hz, hf, hu⟩ := hcs2 hc2
      subst hc2
      obtain ⟨⟨s0, s1⟩, gs⟩ := row2c ((hb2.block _ (by simp)).trans HS1.out)
      by_cases hs : i = j ∧ e = f
      · obtain ⟨rfl, rfl⟩ := hs
        have P := Lib.hid (join_same hCE.out.symm hcE2.symm (by rw [HT.out, hu]; exact (tip_same hM HY.out hz HE.out hf).2 ⟨rfl, rfl⟩))
        clear hfree2 hcs2 hb2 hb02 hz hf hu hcE2 hM
        go_wp2_with fail
        go_ret
        exact ⟨by rw [P.out]; rfl, fun h => (by rw [P.out] at h; cases h), hB2.out.alloc (by omega) _⟩
      · have he3 : e < 3 := by have := HE.out; unfold Pl.nEnds at this; split at this <;> omega
        have hf3 : f < 3 := by unfold Pl.nEnds at hf; split at hf <;> omega
        have hne : x.e0 ≠ x.e1 := by rw [HT.out, hu]; exact fun h => hs ((tip_same hM HY.out hz HE.out hf).1 h)
        have P := Lib.hid (join_good hCE.out.symm hcE2.symm hne)
        have D := Lib.hid (Pl.d_join hM H7.out (Pl.tipErr_zero.1 hCE.out.symm).2.2 (Pl.tipErr_zero.1 hcE2.symm).2.2 hne HY.out hz HE.out hf HT.out hu)
        have BA2 := Lib.hid (hb02.alloc hb02.size (.cells #[.int .i64 j, .int .i64 f] 90))
        have HX2 := HX.out.below BA2.out
        have L1 := Lib.hid (pLead_any g M vS vG (Pl.dS M) (Pl.wG M) _ HX2 (Pl.dS_of HY.out) he3 HL.out j f)
        obtain ⟨s2, hs2⟩ : ∃ s2, ((Pl.dS M).modify i (Pl.ledTo e j f))[j]? = some s2 := ⟨_, List.getElem?_eq_getElem (by rw [List.length_modify]; exact (List.getElem?_eq_some_iff.1 (Pl.dS_of hz)).1)⟩
        have L2 := Lib.hid (fun W hW => pLead_any g M vS vG ((Pl.dS M).modify i (Pl.ledTo e j f)) (Pl.wG M) W hW hs2 hf3 (by rw [List.length_modify]; exact HL.out) i e)
        have hown : ∀ b, w.heap.size ≤ b → vS.ownBlock ≠ some b := fun b hb h => by have := (HX.out.2.1.lt b h).2; omega
        have HT1 := Lib.hid (show (w2.alloc (.cells #[.int .i64 j, .int .i64 f] 90)).heap[w1.heap.size]? = some (.cells #[.int .i64 i, .int .i64 e] 90 (0, 0)) from (heap_alloc_old _ _ gs).trans ((hb2.block _ (by simp)).trans HS1.out))
        have HT2 := Lib.hid (show (w2.alloc (.cells #[.int .i64 j, .int .i64 f] 90)).heap[w2.heap.size]? = some (.cells #[.int .i64 j, .int .i64 f] 90 (0, 0)) from heap_alloc_new _ _)
        have HN1 := Lib.hid (hown w1.heap.size (by omega))
        have HN2 := Lib.hid (hown w2.heap.size hz2)
        have gn2 : w1.heap.size ≠ w2.heap.size := by omega
        have BG := Lib.hid (BA2.out.mono (Nat.le_of_lt hg))
        have hT := HT1.out
        have HK := Lib.hid hM
        clear hfree2 hcs2 hb2 hb02 hz hf hu hcE2 hM HX2 hs2 hown hne hT
        by_cases hij : i = j
        · have hef : e ≠ f := fun h => hs ⟨hij, h⟩
          have q2 : ((e : Int) == (f : Int)) = false := by rw [beq_eq_false_iff_ne]; omega
          have q1 : ((i : Int) == (j : Int)) = true := by rw [beq_iff_eq]; omega
          clear hs hij hef
          go_wp2_with fail
          refine L1.out.mono ?_; rintro e' w3 ⟨rfl, hD, hb3, ha3⟩
          obtain ⟨⟨x0, x1⟩, gx⟩ := row2c ((ha3.1 _ (by simp; omega) HN1.out).trans HT1.out)
          obtain ⟨⟨y0, y1⟩, gy⟩ := row2c ((ha3.1 _ (by simp) HN2.out).trans HT2.out)
          have LL := Lib.hid (L2.out _ hD)
          have BF := Lib.hid (BG.out.trans hb3)
          clear hD hb3 ha3
          go_wp2_with fail
          refine LL.out.mono ?_; rintro e' w4 ⟨rfl, hD, hb4, -⟩
          have HD := Lib.hid hD
          have BF2 := Lib.hid (BF.out.trans hb4)
          clear hD hb4
          go_wp2_with fail
          go_ret
          refine ⟨by rw [P.out]; rfl, fun _ => ⟨vS, vG, ?_⟩, BF2.out⟩
          rw [D.out.1, D.out.2]
          obtain ⟨d1, d2, d3, d4⟩ := HD.out
          exact ⟨by rw [draft_keep (by unfold It.isNum; rw [H7.out]; decide)]; exact d1, d2, d3, d4⟩
        · have q1 : ((i : Int) == (j : Int)) = false := by rw [beq_eq_false_iff_ne]; omega
          clear hs hij
          go_wp2_with fail
          refine L1.out.mono ?_; rintro e' w3 ⟨rfl, hD, hb3, ha3⟩
          obtain ⟨⟨x0, x1⟩, gx⟩ := row2c ((ha3.1 _ (by simp; omega) HN1.out).trans HT1.out)
          obtain ⟨⟨y0, y1⟩, gy⟩ := row2c ((ha3.1 _ (by simp) HN2.out).trans HT2.out)
          have LL := Lib.hid (L2.out _ hD)
          have BF := Lib.hid (BG.out.trans hb3)
          clear hD hb3 ha3
          go_wp2_with fail
          refine LL.out.mono ?_; rintro e' w4 ⟨rfl, hD, hb4, -⟩
          have HD := Lib.hid hD
          have BF2 := Lib.hid (BF.out.trans hb4)
          clear hD hb4
          go_wp2_with fail
          go_ret
          refine ⟨by rw [P.out]; rfl, fun _ => ⟨vS, vG, ?_⟩, BF2.out⟩
          rw [D.out.1, D.out.2]
          obtain ⟨d1, d2, d3, d4⟩ := HD.out
          exact ⟨by rw [draft_keep (by unfold It.isNum; rw [H7.out]; decide)]; exact d1, d2, d3, d4⟩
    · have hcn : (c2' != 0) = true := by rw [bne_iff_ne]; exact hc2
      have P := Lib.hid (join_two hCE.out.symm hcE2.symm hc2)
      clear hfree2 hcs2 hb2 hb02 hcE2 hM
      go_wp2_with fail
      go_ret
      exact ⟨by rw [P.out]; rfl, fun h => absurd (P.out.symm.trans h) hc2, hB2.out.alloc (by omega) _⟩
  · have hcn : (c != 0) = true := by rw [bne_iff_ne]; exact hc
    have hCE := Lib.hid (hcE.trans (joinErr_first (by rw [← hcE]; exact hc)).symm)
    have hz := hb01.size
    clear hfree hcs hb1 hb01 hcE hM
    go_wp2_with fail
    go_ret
    exact ⟨by rw [← hCE.out]; rfl, fun h => absurd (hCE.out.trans h) hc, hB.out.alloc (by omega) _⟩
end Go.Proofs.YtaheiolbeiofpaaGreatDoor
/-
  The walk of the program's draft of layer 5: a section more.
-/
namespace Go.Proofs.YtaheiolbeiofpaaGreatDoor
open Go.RowKit

/-- A section's ends, as many of them laid. -/
def dPart (x : It.Itm) (k : Nat) : Pl.Sec := ⟨x.name, Pl.isPt x, x.n, if 0 < k then Pl.openE else zeroE, if 1 < k then Pl.openE else zeroE, if 2 < k then (if Pl.isPt x then Pl.openE else Pl.stop) else zeroE⟩
theorem dPart_done (x : It.Itm) : dPart x 3 = newSec x := rfl
theorem set3_sec {w : World} {g : Nat} {t u : Pl.Sec} {ty : TypeId} {a b c : Nat} {p q r : Value} (h : w.heap[g]? = some (.cells (secCells t).toArray ty (0, 0))) (hu : (((secCells t).set a p).set b q).set c r = secCells u) :
    (((w.setCell ⟨g, a, none⟩ p).setCell ⟨g, b, none⟩ q).setCell ⟨g, c, none⟩ r).heap[g]? = some (.cells (secCells u).toArray ty (0, 0)) := by
  rw [heap_setCell_same _ _ _ _ _ _ (heap_setCell_same _ _ _ _ _ _ (heap_setCell_same _ _ _ _ _ _ h)), ← hu]
  simp
theorem set4_sec {w : World} {g : Nat} {t u : Pl.Sec} {ty : TypeId} {a b c d : Nat} {p q r v : Value} (h : w.heap[g]? = some (.cells (secCells t).toArray ty (0, 0))) (hu : ((((secCells t).set a p).set b q).set c r).set d v = secCells u) :
    ((((w.setCell ⟨g, a, none⟩ p).setCell ⟨g, b, none⟩ q).setCell ⟨g, c, none⟩ r).setCell ⟨g, d, none⟩ v).heap[g]? = some (.cells (secCells u).toArray ty (0, 0)) := by
  rw [heap_setCell_same _ _ _ _ _ _ (heap_setCell_same _ _ _ _ _ _ (heap_setCell_same _ _ _ _ _ _ (heap_setCell_same _ _ _ _ _ _ h))), ← hu]
  simp
theorem dPart_open (x : It.Itm) {k : Nat} (hk : k < 3) (h : Pl.isPt x = true ∨ k < 2) : ((((secCells (dPart x k)).set (3 + k * 3) (.int .i64 (-2))).set (3 + k * 3 + 1) (.int .i64 0)).set (3 + k * 3 + 2) (.int .i64 (-1))) = secCells (dPart x (k + 1)) := by
  have : k = 0 ∨ k = 1 ∨ k = 2 := by omega
  rcases this with rfl | rfl | rfl
  · rfl
  · rfl
  · rcases h with h | h
    · simp [dPart, secCells, h, Pl.openE]
    · omega
theorem dPart_stop (x : It.Itm) (h : Pl.isPt x = false) {k : Nat} (hk : k = 2) : (((((secCells (dPart x k)).set (3 + k * 3) (.int .i64 (-2))).set (3 + k * 3 + 1) (.int .i64 0)).set (3 + k * 3 + 2) (.int .i64 (-1))).set (3 + k * 3) (.int .i64 (-1))) = secCells (dPart x (k + 1)) := by
  subst hk
  simp [dPart, secCells, h, Pl.openE, Pl.stop]
theorem letter_nz {pt : Bool} {k : Nat} (hk : k < 3) (h : pt = true ∨ k < 2) : (((Pl.letter pt k).toNat : Int) == 0) = false := by
  have : k = 0 ∨ k = 1 ∨ k = 2 := by omega
  rcases this with rfl | rfl | rfl
  · cases pt <;> rfl
  · cases pt <;> rfl
  · rcases h with rfl | h
    · rfl
    · omega
/-- A row of the draft's own has grown, and is the draft's again. -/
theorem DrX.sections {tD tS tG : TypeId} {w w1 w2 : World} {g : Nat} {M : List It.Itm} {x : It.Itm} {s : Pl.Sec} {vS vG v' : Value} {g' cap' : Nat} (h : DrX tD tS tG w g M vS vG (Pl.dS M) (Pl.wG M))
    (hb : Below w.heap.size w w1) (hgr : w1.grownBy w2 vS.ownBlock) (hv : v' = .slice (some ⟨g', 0, none⟩) ((Pl.dS M).length + 1) cap') (hown : w2.ownsRow (g + 1) tS LSec.m v' ((Pl.dS M).length + 1) (LSec.all (Pl.dS M) ++ LSec.enc s)) (hg' : vS.ownBlock = some g' ∨ w.heap.size ≤ g')
    (hk : It.isNum x.k = false) (e1 : Pl.dS (M ++ [x]) = Pl.dS M ++ [s]) (e2 : Pl.wG (M ++ [x]) = Pl.wG M) : DrAt tD tS tG (w2.setCell ⟨g, 10, none⟩ v') g (M ++ [x]) ∧ Below g w (w2.setCell ⟨g, 10, none⟩ v') := by
  obtain ⟨hrow, hS, hG, hap⟩ := h
  have hg := (Array.getElem?_eq_some_iff.1 hrow).1
  have hbs := hb.size
  have hne : some g ≠ vS.ownBlock := fun e => by have := (hS.lt g e.symm).1; omega
  have row2 : w2.heap[g]? = some (.cells (draftCells M vS vG) tD (0, 0)) := by rw [hgr.block g (by omega) hne, hb.block g hg]; exact hrow
  refine ⟨⟨v', vG, ?_, ?_, ?_, ?_⟩, ?_⟩
  · rw [heap_setCell_same _ _ _ _ _ _ row2, draft_keep hk]; rfl
  · rw [e1, List.length_append, List.length_singleton, LSec.all_append, LSec.all_one]
    exact ownsRow_setCell_below hown (a := ⟨g, 10, none⟩) (by show g < g + 1; omega) v'
  · rw [e2]
    refine ownsRow_setCell_below (own_kept hG fun b hb' => ?_) (a := ⟨g, 10, none⟩) (by show g < g + 1; omega) v'
    have hlt := (hG.lt b hb').2
    rw [hgr.block b (by omega) (fun e => hap b e.symm hb'), hb.block b hlt]
  · subst hv
    intro k hk1 hk2
    have : g' = k := by simpa [Value.ownBlock] using hk1
    subst this
    rcases hg' with h | h
    · exact hap g' h hk2
    · have := (hG.lt g' hk2).2; omega
  · have hb' : Below g w w1 := hb.mono (Nat.le_of_lt hg)
    exact (hb'.grown hgr (by omega) (fun k hk => by have := (hS.lt k hk).1; omega)).setCell (Nat.le_refl _) _
set_option maxHeartbeats 8000000 in
set_option maxRecDepth 100000 in
theorem pSection_any (g : Nat) (M : List It.Itm) (x : It.Itm) (w : World) (h : DrAt tyD tyS tyG w g M) (hM : Pl.Ok M) (hx : Pl.isS x = true) :
    Calls Tryz.prog 44 #[.pointer (some ⟨g, 0, none⟩), itemV x] w (DrGives tyD tyS tyG g M x (if x.name ∈ Pl.nmS M then 3 else if (Pl.secs M).length = 24 then 9 else 0) w) := by
  obtain ⟨vS, vG, hX⟩ := h
  obtain ⟨-, A, cp, rfl, hcap, hR⟩ := Lies.Row.of_own hX.2.1
  obtain ⟨-, -, ⟨s10, -⟩, -, hg⟩ := draft_row hX.1
  have hl : (Pl.dS M).length ≤ 24 := by rw [Pl.dS_len]; exact hM.few
  have X0 := Lib.hid ((Below.refl w.heap.size w).alloc (Nat.le_refl _) (.cells (item7 x) 44))
  have FN := Lib.hid (fun W (h : Below w.heap.size w W) => Made.of h (pFind_any A cp (Pl.dS M) x.name W (hR.below rfl h) (by omega)))
  have R7 := Lib.hid (show (w.alloc (.cells (item7 x) 44)).heap[w.heap.size]? = some (.cells #[.int .i64 x.k, .string (txt x.name), .int .i64 x.n, .string (txt x.e0.n), .int .u8 x.e0.c.toNat, .string (txt x.e1.n), .int .u8 x.e1.c.toNat] 44 (0, 0)) from heap_alloc_new _ _)
  obtain ⟨⟨k0, k1, k2, k3, k4, k5, k6⟩, -, g2⟩ := row7 R7.out
  have K4 : (w.alloc (.cells (item7 x) 44)).cell? ⟨g, 10, none⟩ = some (.slice A (Pl.dS M).length cp) := by
    rw [X0.out.cell (show (⟨g, 10, none⟩ : Addr).block < w.heap.size from hg)]; exact s10
  have g1 : g < (w.alloc (.cells (item7 x) 44)).heap.size := Nat.lt_trans hg g2
  have HX := Lib.hid hX
  clear hR hX hcap
  rcases Pl.find_dS (M := M) x.name with ⟨hno, hf⟩ | ⟨i, y, hf, hy, hn⟩
  · rw [hf] at FN
    rw [if_neg hno]
    by_cases h24 : (Pl.secs M).length = 24
    · rw [if_pos h24]
      have q24 : (((Pl.dS M).length : Int) == 24) = true := by rw [beq_iff_eq, Pl.dS_len]; omega
      clear hf hno hM hl h24
      go_enter Tryz.func44, Tryz.ntmps44
      go_wp2_with fail
      go_region_held3 (fun w' => w'.cell? ⟨g, 10, none⟩ = some (.slice A (Pl.dS M).length cp) ∧ w'.cell? ⟨w.heap.size, 1, none⟩ = some (.string (txt x.name)))
        (first | exact ⟨K4, k1⟩ | exact ⟨(hcell _ _ g1).trans K4, (hcell _ _ g2).trans k1⟩)
        (first
          | (go_at_call 13; (with_reducible refine (FN.out _ X0.out.drew).mono ?_); rintro e w' ⟨rfl, hbl, hacc, hz⟩; have hcell := (bcell hbl).1))
      all_goals have K10 := (hacc.cell (show (⟨g, 10, none⟩ : Addr).block < w.heap.size from hg)).trans s10
      all_goals go_wp2_with fail
      all_goals go_ret
      all_goals exact ⟨rfl, fun h => by simp at h, hacc.mono (Nat.le_of_lt hg)⟩
    · rw [if_neg h24]
      have q24 : (((Pl.dS M).length : Int) == 24) = false := by rw [beq_eq_false_iff_ne, Pl.dS_len]; omega
      have E := Lib.hid (show Pl.dS (M ++ [x]) = Pl.dS M ++ [newSec x] ∧ Pl.wG (M ++ [x]) = Pl.wG M from Pl.d_sec hM hx hno)
      have HK := Lib.hid (Pl.sec_facts hx).1
      have hk6 : (x.k == 6) = Pl.isPt x := by unfold Pl.isPt; by_cases h : x.k = 6 <;> simp [h]
      clear hf hno hM h24 hx
      go_enter Tryz.func44, Tryz.ntmps44
      go_wp2_with fail
      go_region_held3 (fun w' => w'.cell? ⟨g, 10, none⟩ = some (.slice A (Pl.dS M).length cp) ∧ w'.cell? ⟨w.heap.size, 1, none⟩ = some (.string (txt x.name)))
        (first | exact ⟨K4, k1⟩ | exact ⟨(hcell _ _ g1).trans K4, (hcell _ _ g2).trans k1⟩)
        (first
          | (go_at_call 13; (with_reducible refine (FN.out _ X0.out.drew).mono ?_); rintro e w' ⟨rfl, hbl, hacc, hz⟩; have hcell := (bcell hbl).1))
      all_goals have K10 := (hacc.cell (show (⟨g, 10, none⟩ : Addr).block < w.heap.size from hg)).trans s10
      all_goals obtain ⟨⟨j0, j1, j2, -, -, -, -⟩, -, gj⟩ := row7 ((hbl.block _ g2).trans R7.out)
      all_goals go_wp2_with fail
      have HB0 := Lib.hid (hacc.alloc hacc.size (.cells (secCells (dPart x 0)).toArray 51))
      have HG0 := Lib.hid (show (w'.alloc (.cells (secCells (dPart x 0)).toArray 51)).heap[w'.heap.size]? = some (.cells (secCells (dPart x 0)).toArray 51 (0, 0)) from heap_alloc_new _ _)
      have hgs := hacc.size
      clear K10 j0 j1 j2 gj hbl hacc hz hcell
      generalize w'.heap.size = gs at HG0 hgs ⊢
      go_loopw [29] (fun v wr => ∃ k : Nat, k ≤ 3 ∧ v = .int .i64 k ∧ Below w.heap.size w wr ∧ wr.heap[gs]? = some (.cells (secCells (dPart x k)).toArray 51 (0, 0))) (fun v _ => 3 - (intOf v).toNat)
      case atStart => exact ⟨0, by omega, rfl, HB0.out, HG0.out⟩
      case round =>
        clear HB0 HG0
        obtain ⟨k, hk, rfl, hB, hG0⟩ := hrel
        have f := fun j => frozen_of_row _ gs j _ _ hG0
        have ggw := (Array.getElem?_eq_some_iff.1 hG0).1
        by_cases hk3 : k < 3
        · have d3 : decide ((k : Int) < 3) = true := dec_t (by omega)
          have hki : (k : Int) < 3 := by omega
          have LT := Lib.hid (fun W => (pLetter_any (Pl.isPt x) k W))
          rw [letterI_nat _ _ hk3] at LT
          have t0 := on_to (heap_sec hG0) hk3
          have t1 := on_at (heap_sec hG0) hk3
          have t2 := on_sig (heap_sec hG0) hk3
          have tp := (sec_on (heap_sec hG0)).2.1
          rw [Nat.zero_add] at t0 t1 t2 tp
          have tp' : wr.cell? ⟨gs, 1, none⟩ = some (.bool (Pl.isPt x)) := tp
          have f0 := f (3 + k * 3)
          have f1 := f (3 + k * 3 + 1)
          have f2 := f (3 + k * 3 + 2)
          have ne1 : (1 : Nat) ≠ 3 + k * 3 := by omega
          have ne2 : (1 : Nat) ≠ 3 + k * 3 + 1 := by omega
          have ne3 : (1 : Nat) ≠ 3 + k * 3 + 2 := by omega
          have HB := Lib.hid hB
          have HG0 := Lib.hid hG0
          clear hB hG0 f tp
          by_cases hc : Pl.isPt x = true ∨ k < 2
          · have z := letter_nz hk3 hc
            have DP := Lib.hid (dPart_open x hk3 hc)
            clear hc
            go_wp2_with fail
            refine (LT.out _).mono ?_; rintro e w2 ⟨rfl, rfl⟩
            go_wp2_with fail
            go_roundw
            case rel => exact ⟨k + 1, by omega, by go_num, ((HB.out.setCell (p := ⟨gs, 3 + k * 3, none⟩) hgs _).setCell (p := ⟨gs, 3 + k * 3 + 1, none⟩) hgs _).setCell (p := ⟨gs, 3 + k * 3 + 2, none⟩) hgs _, set3_sec HG0.out DP.out⟩
            case measure => simp [intOf]; omega
          · have hp : Pl.isPt x = false := by cases h : Pl.isPt x with | false => rfl | true => exact absurd (.inl h) hc
            have hk2 : k = 2 := by omega
            have DP := Lib.hid (dPart_stop x hp hk2)
            have z : (((Pl.letter (Pl.isPt x) k).toNat : Int) == 0) = true := by rw [hp, hk2]; rfl
            clear hc hk2 hp
            go_wp2_with fail
            refine (LT.out _).mono ?_; rintro e w2 ⟨rfl, rfl⟩
            go_wp2_with fail
            go_roundw
            case rel => exact ⟨k + 1, by omega, by go_num, (((HB.out.setCell (p := ⟨gs, 3 + k * 3, none⟩) hgs _).setCell (p := ⟨gs, 3 + k * 3 + 1, none⟩) hgs _).setCell (p := ⟨gs, 3 + k * 3 + 2, none⟩) hgs _).setCell (p := ⟨gs, 3 + k * 3, none⟩) hgs _, set4_sec HG0.out DP.out⟩
            case measure => simp [intOf]; omega
        · obtain rfl : k = 3 := by omega
          rw [dPart_done] at hG0
          have OE := E.out.1
          generalize newSec x = s at hG0 OE E
          have on := sec_on (heap_sec hG0)
          simp only [Nat.zero_add] at on
          obtain ⟨a0, a1, a2, a3, a4, a5, a6, a7, a8, a9, a10, a11⟩ := on
          have hDW := HX.out.below hB
          obtain ⟨-, -, ⟨S10, -⟩, fz, hg2⟩ := draft_row hDW.1
          have f10 := fz 10
          obtain ⟨i0, hi, hz0, hz1, hz2⟩ := info_parts infoSec
          have OW := Lib.hid hDW.2.1
          have HB := Lib.hid hB
          have hz' := hB.size
          have NW := Lib.hid (show ∀ j u, (secCells s)[j]? = some u → (wr.drew.alloc (.cells (secCells s).toArray 51)).cell? ((⟨wr.heap.size, 0, none⟩ : Addr).add j) = some u from
            fun j u hu => World.news_of_block (B := wr.heap.size) (cs := (secCells s).toArray) (t := 51) (fr := (0, 0)) (heap_alloc_new wr.drew (.cells (secCells s).toArray 51)) j u (by simpa using hu))
          have HN := Lib.hid (show some g ≠ (Value.slice A (Pl.dS M).length cp).ownBlock from fun e => by have := (hDW.2.1.lt g e.symm).1; omega)
          have HROW := Lib.hid hDW.1
          clear hG0 f hB hDW fz OE
          go_wp2_with fail
          go_region_law (refine step_append_lies _ (by rfl) (.tmp 50) (.tmp 52) 25 (by rfl) (g + 1) 51 i0 _ 12 104 Tryz.underlying25 hi hz0 hz1 hz2 rfl (by decide) (.slice A (Pl.dS M).length cp) (Pl.dS M).length (LSec.all (Pl.dS M)) (by rfl) (OW.out.drew.alloc _) ⟨wr.heap.size, 0, none⟩ 1 1 (secCells s) (by rfl) (by rfl) NW.out (LSec.one s) (by omega) (by unfold maxLen; omega) (by omega) (by simp; omega) _ rfl ?_; intro g' cap' w2 hown hgr hg' hlt2; have hr2 := (hgr.block g (by simp; omega) HN.out).trans ((heap_alloc_old _ _ (show g < wr.drew.heap.size from hg2)).trans HROW.out); have c2 := (draft_row hr2).2.2.1.1; have f2 := (draft_row hr2).2.2.2.1 10)
          all_goals go_wp2_with fail
          all_goals go_ret
          all_goals (have WS := DrX.sections HX.out (HB.out.drew.alloc (by simpa using HB.out.size) (.cells (secCells s).toArray 51)) hgr rfl hown (by rcases hg' with h | h; exact .inl h; exact .inr (by rw [h]; simp; omega)) HK.out E.out.1 E.out.2; exact ⟨rfl, fun _ => WS.1, WS.2⟩)
  · rw [hf] at FN
    have hin : x.name ∈ Pl.nmS M := Pl.mem_nmS.2 ⟨y, List.mem_of_getElem? hy, hn⟩
    rw [if_pos hin]
    clear hf hy hn hin hM hl
    go_enter Tryz.func44, Tryz.ntmps44
    go_wp2_with fail
    go_region_held3 (fun w' => w'.cell? ⟨g, 10, none⟩ = some (.slice A (Pl.dS M).length cp) ∧ w'.cell? ⟨w.heap.size, 1, none⟩ = some (.string (txt x.name)))
      (first | exact ⟨K4, k1⟩ | exact ⟨(hcell _ _ g1).trans K4, (hcell _ _ g2).trans k1⟩)
      (first
        | (go_at_call 13; (with_reducible refine (FN.out _ X0.out.drew).mono ?_); rintro e w' ⟨rfl, hbl, hacc, hz⟩; have hcell := (bcell hbl).1))
    all_goals go_wp2_with fail
    all_goals go_ret
    all_goals exact ⟨rfl, fun h => by simp at h, hacc.mono (Nat.le_of_lt hg)⟩
end Go.Proofs.YtaheiolbeiofpaaGreatDoor
