/-
  Texts of this claim, merged: PlLawA, PlLawB, PlEq, PlAwake, PlSame.
-/
import Derived.Test.YtaheiolbeiofpaaGreatDoorMg21
import Derived.ChangeKeysEq
/-
  Layer 5's statements: what their own helpers give: short, built, fault.
-/
namespace Go.Proofs.YtaheiolbeiofpaaGreatDoor
open Go.RowKit

theorem tip_le8 (a : List UInt8) : (It.tip a).n.length ≤ 8 := by
  unfold It.tip
  split
  · rename_i h
    unfold It.tipOk at h
    simp only [Bool.and_eq_true] at h
    exact (fig_len h.2).2
  · simp [It.Tp.zero]
theorem parseK_le8 {k : Int} {T : List (List UInt8)} {y : It.Itm} (h : It.parseK k T = some y) : ItemLe 8 y := by
  unfold It.parseK at h
  split at h
  · split at h
    · split at h
      · rename_i d hp
        cases h
        have := parseN_le hp
        have := most_le k
        exact ⟨by simp, by show Fig.parseN d (It.most k) ≤ _; omega, by simp [It.Tp.zero], by simp [It.Tp.zero]⟩
      · cases h
    · cases h
  · split at h
    · split at h
      · split at h
        · rename_i m d hp
          cases h
          simp only [Bool.and_eq_true] at hp
          exact ⟨(fig_len hp.1.1).2, parseN_le hp.1.2, by simp [It.Tp.zero], by simp [It.Tp.zero]⟩
        · cases h
      · cases h
    · split at h
      · split at h
        · split at h
          · rename_i a b hp
            cases h
            exact ⟨by simp, by simp, tip_le8 a, tip_le8 b⟩
          · cases h
        · cases h
      · split at h
        · split at h
          · split at h
            · rename_i a hp
              cases h
              exact ⟨by simp, by simp, tip_le8 a, by simp [It.Tp.zero]⟩
            · cases h
          · cases h
        · split at h
          · split at h
            · split at h
              · rename_i m a hp
                cases h
                simp only [Bool.and_eq_true] at hp
                exact ⟨(fig_len hp.1).2, by simp, tip_le8 a, by simp [It.Tp.zero]⟩
              · cases h
            · cases h
          · cases h
theorem parse_le8 {l : List UInt8} {y : It.Itm} (h : It.parse l = some y) : ItemLe 8 y := by
  unfold It.parse at h
  split at h
  · cases hW : Ln.words l with
    | nil => rw [hW] at h; cases h
    | cons x T => rw [hW] at h; exact parseK_le8 h
  · cases h
theorem right_le8 {y : It.Itm} (h : It.right y = true) : ItemLe 8 y ∧ 0 ≤ y.n := by
  rw [It.right, Bool.and_eq_true, decide_eq_true_iff, decide_eq_true_iff] at h
  exact ⟨parse_le8 h.2, h.1⟩
theorem right_parsed {l : List UInt8} {y : It.Itm} (h : It.parse l = some y) : It.right y = true := by
  obtain ⟨h1, h2⟩ := It.print_parse num_back l y h
  rw [It.right, Bool.and_eq_true, decide_eq_true_iff, decide_eq_true_iff, h1]
  exact ⟨h2, h⟩
theorem ItemLe.fits {y : It.Itm} (h : ItemLe 8 y) : FitsR y := by
  obtain ⟨h1, h2, h3, h4⟩ := h
  exact ⟨by omega, by omega, by omega, by omega⟩
/-- A text's items: each may be an item. -/
theorem sheet_right (l : List UInt8) : ∀ y ∈ (Sh.parse l).1, It.right y = true := by
  cases hb : Sh.bad (Ln.whole l) (Ln.split l) with
  | some k => rw [Sh.parse_some hb]; intro y hy; cases hy
  | none =>
    rw [Sh.parse_none hb]
    intro y hy
    obtain ⟨x, _, h⟩ := List.mem_filterMap.1 hy
    exact right_parsed h
theorem sheet_few (l : List UInt8) : (Sh.parse l).1.length ≤ l.length + 1 := by
  cases hb : Sh.bad (Ln.whole l) (Ln.split l) with
  | some k => rw [Sh.parse_some hb]; simp
  | none =>
    rw [Sh.parse_none hb]
    exact Nat.le_trans (Sh.items_le _) (Sh.split_le l).2
theorem sheet_ways (l : List UInt8) : Sh.parse l = ((Sh.parse l).1, 0) ∨ ∃ k, Sh.parse l = ([], k + 1) := by
  cases hb : Sh.bad (Ln.whole l) (Ln.split l) with
  | some k => exact .inr ⟨k, Sh.parse_some hb⟩
  | none => left; rw [Sh.parse_none hb]
namespace Pl
/-- The station of a text. -/
def builtP (l : List UInt8) : Plan × Int × Nat := if (Sh.parse l).2 = 0 then build (Sh.parse l).1 else (Plan.zero, 2, (Sh.parse l).2)
end Pl
theorem row_same {α : Type} {E : Lies α} {w w' : World} {A : Option Addr} {L : List α} (h : E.Row w A L) (hsz : w.heap.size ≤ w'.heap.size) (hk : L ≠ [] → ∀ b o, A = some ⟨b, o, none⟩ → w'.heap[b]? = w.heap[b]?) : E.Row w' A L := by
  by_cases h0 : L = []
  · exact .inl h0
  rcases h with h | ⟨b, o, hA, hlt, h⟩
  · exact .inl h
  · exact .inr ⟨b, o, hA, by omega, fun k y hy j v hv => by rw [World.cell?_of_block (hk h0 b o hA)]; exact h k y hy j v hv⟩
/-- Sections, or signals, don't lie where no text lies. -/
theorem row_not {α : Type} {E : Lies α} (hE : ∀ y, ∃ s, (E.enc y)[0]? = some (.string s)) {w : World} {A : Option Addr} {L : List α} (h : E.Row w A L) (h0 : L ≠ []) {b o : Nat} (hA : A = some ⟨b, o, none⟩) {B : Nat} {cs : Array Value} {t : TypeId} (hB : w.heap[B]? = some (.cells cs t (0, 0))) (hs : ∀ (j : Nat) (s : ByteArray), cs[j]? ≠ some (.string s)) : b ≠ B := fun he => by
  subst he
  rcases h with h | ⟨b', o', hA', hlt, h⟩
  · exact h0 h
  · rw [hA] at hA'
    cases hA'
    cases L with
    | nil => exact h0 rfl
    | cons y L =>
      obtain ⟨s, hs'⟩ := hE y
      have := h 0 y rfl 0 _ hs'
      rw [cell_of_row _ _ _ _ _ _ hB] at this
      exact hs _ s this
theorem sec_text (y : Pl.Sec) : ∃ s, (LSec.enc y)[0]? = some (.string s) := ⟨_, rfl⟩
theorem sig_text (y : Pl.Sig) : ∃ s, (LSig.enc y)[0]? = some (.string s) := ⟨_, rfl⟩
theorem no_text6 {a b c d : Int} {A A' : Option Addr} {n n' m m' : Nat} (j : Nat) (s : ByteArray) : (#[Value.int .i64 a, .int .i64 b, .int .i64 c, .int .i64 d, .slice A n m, .slice A' n' m'])[j]? ≠ some (.string s) := by
  rcases j with _ | _ | _ | _ | _ | _ | j <;> simp
theorem no_text2 {a b : Int} (j : Nat) (s : ByteArray) : (#[Value.int .i64 a, .int .i64 b])[j]? ≠ some (.string s) := by
  rcases j with _ | _ | j <;> simp
abbrev faultZ : Obj := .cells #[.int .i64 0, .int .i64 0] 31
theorem set8_other {W : World} {B b : Nat} {v0 v1 v2 v3 v4 v5 x0 x1 : Value} (h : b ≠ B) (h' : b ≠ B + 1) :
    ((((((((W.setCell ⟨B, 0, none⟩ v0).setCell ⟨B, 1, none⟩ v1).setCell ⟨B, 2, none⟩ v2).setCell ⟨B, 3, none⟩ v3).setCell ⟨B, 4, none⟩ v4).setCell ⟨B, 5, none⟩ v5).setCell ⟨B + 1, 0, none⟩ x0).setCell ⟨B + 1, 1, none⟩ x1).heap[b]? = W.heap[b]? := by
  rw [heap_setCell_other _ _ _ _ (by simpa using h'), heap_setCell_other _ _ _ _ (by simpa using h'), set6_other h]
/-- What Parse leaves of a text that is parsed; and of one that isn't. -/
def SheetYes (L : List It.Itm) (w : World) (e : Ending) (w' : World) : Prop :=
  ∃ A c, L.length ≤ c ∧ e = .returned (.tuple #[.slice A L.length c, .agg #[.int .i64 0, .int .i64 0]]) ∧ Its w' A L ∧ Below w.heap.size w w'
def SheetNay (k : Nat) (w : World) (e : Ending) (w' : World) : Prop :=
  ∃ A c, e = .returned (.tuple #[.slice A 0 c, .agg #[.int .i64 2, .int .i64 ((k : Int) + 1)]]) ∧ Below w.heap.size w w'
theorem sheet_yes {s : ByteArray} {L : List It.Itm} (h : Sh.parse s.data.toList = (L, 0)) (hs : s.size ≤ 1000000) (w : World) : Calls Tryz.prog 22 #[.string s] w (SheetYes L w) :=
  (rsparse_any s w hs).mono fun e w' g => by
    rw [h] at g
    exact g
theorem sheet_nay {s : ByteArray} {k : Nat} (h : Sh.parse s.data.toList = ([], k + 1)) (hs : s.size ≤ 1000000) (w : World) : Calls Tryz.prog 22 #[.string s] w (SheetNay k w) :=
  (rsparse_any s w hs).mono fun e w' g => by
    rw [h] at g
    obtain ⟨A, c, _, he, _, hb⟩ := g
    exact ⟨A, c, by rw [he, faultV, if_neg (by simp)]; rfl, hb⟩
set_option maxHeartbeats 8000000 in
set_option maxRecDepth 100000 in
theorem built_any (s : ByteArray) (w : World) (hE : Env w) (hs : s.size ≤ 10000) :
    Calls Tryz.prog 17 #[.string s] w (PlanGives (Pl.builtP s.data.toList) w) := by
  obtain ⟨R0, R1, XX, XS⟩ := two_blocks w planZ faultZ
  have X0 := Lib.hid XX
  have HE0 := Lib.hid (hE.below rfl XX)
  have gZ0 : w.heap.size < ((w.alloc planZ).alloc faultZ).heap.size := by rw [XS]; omega
  have gZ1 : w.heap.size + 1 < ((w.alloc planZ).alloc faultZ).heap.size := by rw [XS]; omega
  have hfew := sheet_few s.data.toList
  have hsz : s.data.toList.length = s.size := by simp
  have HR := Lib.hid (sheet_right s.data.toList)
  have H0 := Lib.hid R0
  have H1 := Lib.hid R1
  clear R0 R1 XX hE
  rcases sheet_ways s.data.toList with hp | ⟨k, hp⟩
  · have P := Lib.hid (show Pl.builtP s.data.toList = Pl.build (Sh.parse s.data.toList).1 by unfold Pl.builtP; rw [if_pos (by rw [hp])])
    have C := Lib.hid (fun W => sheet_yes hp (by omega) W)
    generalize (Sh.parse s.data.toList).1 = L at hp hfew HR P C
    rw [P.out]
    clear P hp
    go_enter Tryz.func17, Tryz.ntmps17
    go_wp2_with fail
    refine (C.out _).mono ?_; rintro e w1 ⟨A, c, hc, rfl, its, hb1⟩
    have HB2 := Lib.hid (hb1.alloc hb1.size faultZ)
    have IT2 := Lib.hid (its.below rfl ((Below.refl w1.heap.size w1).alloc (Nat.le_refl _) faultZ))
    have kf := heap_alloc_new w1 faultZ
    obtain ⟨⟨k0, k1⟩, -⟩ := row2c kf
    have PB := Lib.hid (pBuild_any pPlan_any A c L (w1.alloc faultZ) IT2.out (by omega) (fun y hy => (right_le8 (HR.out y hy)).1.fits) (HE0.out.below rfl HB2.out))
    clear its hb1 kf hc
    go_wp2_with fail
    refine PB.out.mono ?_; rintro e w3 ⟨S, cS, G, cG, l1, l2, rfl, rS, rG, hb3⟩
    have BB := Lib.hid (HB2.out.trans (hb3.mono HB2.out.size))
    have h0 := (BB.out.block _ gZ0).trans H0.out
    have h1 := (BB.out.block _ gZ1).trans H1.out
    obtain ⟨⟨q0, q1, q2, q3, q4, q5⟩, ⟨e0, e1, e2, e3, e4, e5⟩, gq⟩ := row6 h0
    obtain ⟨⟨t0, t1⟩, ⟨f0, f1⟩, gt⟩ := row2f h1
    have RS := Lib.hid rS
    have RG := Lib.hid rG
    have HH0 := Lib.hid h0
    have HH1 := Lib.hid h1
    clear PB rS rG hb3 h0 h1 k0 k1
    go_wp2_with fail
    refine bodyPost_ret ?_ rfl ⟨S, cS, G, cG, l1, l2, rfl, ?_, ?_, ?_⟩
    · simp [results, Tryz.results17, go_sem, *]
    · exact row_same RS.out (by simp) fun hn b o hA => set8_other (row_not sec_text RS.out hn hA HH0.out no_text6) (row_not sec_text RS.out hn hA HH1.out no_text2)
    · exact row_same RG.out (by simp) fun hn b o hA => set8_other (row_not sig_text RG.out hn hA HH0.out no_text6) (row_not sig_text RG.out hn hA HH1.out no_text2)
    · (repeat (with_reducible refine Below.setCell ?_ (by first | exact Nat.le_refl _ | exact Nat.le_succ _) _)); exact X0.out.trans (BB.out.mono X0.out.size)
  · have P := Lib.hid (show Pl.builtP s.data.toList = (Pl.Plan.zero, 2, k + 1) by unfold Pl.builtP; rw [hp]; rfl)
    have C := Lib.hid (fun W => sheet_nay hp (by omega) W)
    rw [P.out]
    clear P hp
    go_enter Tryz.func17, Tryz.ntmps17
    go_wp2_with fail
    refine (C.out _).mono ?_; rintro e w1 ⟨A, c, rfl, hb1⟩
    have HB2 := Lib.hid (hb1.alloc hb1.size (.cells #[.int .i64 2, .int .i64 ((k : Int) + 1)] 31))
    have kf := heap_alloc_new w1 (.cells #[.int .i64 2, .int .i64 ((k : Int) + 1)] 31)
    obtain ⟨⟨k0, k1⟩, gk⟩ := row2c kf
    have h0 := (HB2.out.block _ gZ0).trans H0.out
    have h1 := (HB2.out.block _ gZ1).trans H1.out
    obtain ⟨⟨q0, q1, q2, q3, q4, q5⟩, ⟨e0, e1, e2, e3, e4, e5⟩, gq⟩ := row6 h0
    obtain ⟨⟨t0, t1⟩, ⟨f0, f1⟩, gt⟩ := row2f h1
    have hz1 : w.heap.size + 2 ≤ w1.heap.size := by have := hb1.size; simp at this; omega
    have hx0 : w1.heap.size ≠ w.heap.size := by omega
    have hx1 : w1.heap.size ≠ w.heap.size + 1 := by omega
    have hx2 : w.heap.size ≠ w1.heap.size := by omega
    have hx3 : w.heap.size + 1 ≠ w1.heap.size := by omega
    clear hb1 kf h0 h1
    go_wp2_with fail
    go_region
    all_goals go_wp2_with fail
    all_goals refine bodyPost_ret ?_ rfl (PlanGives.bad 2 (k + 1) rfl rfl ?_)
    all_goals first
      | (simp [results, Tryz.results17, go_sem, *]; done)
      | ((repeat (first | (with_reducible refine Below.drew ?_) | (with_reducible refine Below.setCell ?_ (by first | exact Nat.le_refl _ | exact Nat.le_succ _) _))); exact X0.out.trans (HB2.out.mono X0.out.size))
end Go.Proofs.YtaheiolbeiofpaaGreatDoor
/-
  Layer 5's statements: their helpers short and fault.
-/
namespace Go.Proofs.YtaheiolbeiofpaaGreatDoor
open Go.RowKit

def shortZ (y : It.Itm) : Bool := decide (y.name.length ≤ 50) && (decide (y.e0.n.length ≤ 50) && decide (y.e1.n.length ≤ 50))
def shortQ (L : List It.Itm) : Bool := decide (L.length ≤ 80) && L.all shortZ
theorem shortZ_no {L : List It.Itm} {k : Nat} (hk : k < L.length) (h : shortZ L[k] = false) : shortQ L = false := by
  rw [shortQ, Bool.and_eq_false_iff]
  exact .inr (List.all_eq_false.2 ⟨_, List.getElem_mem hk, by rw [h]; simp⟩)
theorem shortQ_fits {L : List It.Itm} (h : shortQ L = true) (hN : ∀ y ∈ L, y.n ≤ 9223372036854775807) : L.length ≤ 80 ∧ ∀ y ∈ L, FitsR y := by
  rw [shortQ, Bool.and_eq_true, decide_eq_true_iff, List.all_eq_true] at h
  refine ⟨h.1, fun y hy => ?_⟩
  have := h.2 y hy
  simp only [shortZ, Bool.and_eq_true, decide_eq_true_iff] at this
  exact ⟨hN y hy, by omega, by omega, by omega⟩
set_option maxHeartbeats 4000000 in
set_option maxRecDepth 100000 in
theorem pShort_any (A : Option Addr) (c : Nat) (L : List It.Itm) (w : World) (h : Its w A L) (hl : L.length ≤ maxLen) :
    Calls Tryz.prog 8 #[.slice A L.length c] w fun e w' => e = .returned (.bool (shortQ L)) ∧ w = w' := by
  unfold maxLen at hl
  by_cases hfew : L.length ≤ 80
  · have h1 : decide (80 < (L.length : Int)) = false := dec_f (by omega)
    have HF := Lib.hid hfew
    clear hfew
    go_enter Tryz.func8, Tryz.ntmps8
    go_wp2
    go_loop [3] (fun i => ∃ k : Nat, k ≤ L.length ∧ i = .int .i64 k ∧ (L.take k).all shortZ = true) (fun i => L.length - (intOf i).toNat)
    case atStart => exact ⟨0, Nat.zero_le _, rfl, rfl⟩
    case round =>
      obtain ⟨k, hk, rfl, ha⟩ := hrel
      have HA := Lib.hid ha
      clear ha
      by_cases hlt : k < L.length
      · obtain ⟨b, o, rfl, hb, i7⟩ := h.at hlt
        obtain ⟨a0, a1, a2, a3, a4, a5, a6⟩ := i7.cells
        clear i7
        have q1 := txt_size L[k].name
        have q2 := txt_size L[k].e0.n
        have q3 := txt_size L[k].e1.n
        have NO := Lib.hid (@shortZ_no L k hlt)
        by_cases p1 : L[k].name.length ≤ 50
        · have d1 : decide (50 < ((txt L[k].name).size : Int)) = false := dec_f (by omega)
          by_cases p2 : L[k].e0.n.length ≤ 50
          · have d2 : decide (50 < ((txt L[k].e0.n).size : Int)) = false := dec_f (by omega)
            by_cases p3 : L[k].e1.n.length ≤ 50
            · have d3 : decide (50 < ((txt L[k].e1.n).size : Int)) = false := dec_f (by omega)
              have Y := Lib.hid (show shortZ L[k] = true by rw [shortZ, dec_t p1, dec_t p2, dec_t p3]; rfl)
              clear p1 p2 p3 q1 q2 q3
              go_wp2
              go_round
              case rel => exact ⟨k + 1, by omega, by go_num, by rw [List.take_succ_eq_append_getElem hlt, List.all_append, HA.out]; simpa using Y.out⟩
              case measure => simp [intOf]; omega
            · have d3 : decide (50 < ((txt L[k].e1.n).size : Int)) = true := dec_t (by omega)
              have Y := Lib.hid (NO.out (by rw [shortZ, dec_f p3]; simp))
              clear p1 p2 p3 q1 q2 q3
              go_wp2
              go_ret
              exact ⟨retB Y.out.symm, rfl⟩
          · have d2 : decide (50 < ((txt L[k].e0.n).size : Int)) = true := dec_t (by omega)
            have Y := Lib.hid (NO.out (by rw [shortZ, dec_f p2]; simp))
            clear p1 p2 q1 q2 q3
            go_wp2
            go_ret
            exact ⟨retB Y.out.symm, rfl⟩
        · have d1 : decide (50 < ((txt L[k].name).size : Int)) = true := dec_t (by omega)
          have Y := Lib.hid (NO.out (by rw [shortZ, dec_f p1]; simp))
          clear p1 q1 q2 q3
          go_wp2
          go_ret
          exact ⟨retB Y.out.symm, rfl⟩
      · obtain rfl : k = L.length := by omega
        have e1 : L.take L.length = L := List.take_of_length_le (Nat.le_refl _)
        have HB := Lib.hid (show shortQ L = true by rw [shortQ, dec_t HF.out, Bool.true_and, ← HA.out, e1])
        clear e1
        go_wp2
        go_ret
        exact ⟨retB HB.out.symm, rfl⟩
  · have h1 : decide (80 < (L.length : Int)) = true := dec_t (by omega)
    have HF := Lib.hid (show shortQ L = false by rw [shortQ, dec_f hfew]; rfl)
    clear hfew
    go_enter Tryz.func8, Tryz.ntmps8
    go_wp2
    go_ret
    exact ⟨retB HF.out.symm, rfl⟩
set_option maxHeartbeats 8000000 in
set_option maxRecDepth 100000 in
theorem fault_any (s : ByteArray) (w : World) (hE : Env w) (hs : s.size ≤ 10000) :
    Calls Tryz.prog 24 #[.string s] w fun e w' => e = .returned (.agg #[.int .i64 (Pl.builtP s.data.toList).2.1, .int .i64 (Pl.builtP s.data.toList).2.2]) ∧ Below w.heap.size w w' := by
  have X0 := Lib.hid ((Below.refl w.heap.size w).alloc (Nat.le_refl _) faultZ)
  have R0 := Lib.hid (heap_alloc_new w faultZ)
  have B := Lib.hid (built_any s (w.alloc faultZ) (hE.below rfl X0.out) hs)
  clear hE
  generalize Pl.builtP s.data.toList = p at B ⊢
  obtain ⟨q, x, n⟩ := p
  go_enter Tryz.func24, Tryz.ntmps24
  go_wp2_with fail
  refine B.out.mono ?_; rintro e w1 ⟨S, cS, G, cG, -, -, rfl, -, -, hb1⟩
  have h0 := (hb1.block _ (show w.heap.size < (w.alloc faultZ).heap.size by simp)).trans R0.out
  obtain ⟨⟨t0, t1⟩, ⟨f0, f1⟩, gt⟩ := row2f h0
  have hz : w.heap.size ≠ w1.heap.size := by omega
  have hz1 : w.heap.size ≠ w1.heap.size + 1 := by omega
  have HB := Lib.hid (X0.out.trans (hb1.mono X0.out.size))
  clear hb1 h0
  go_wp2_with fail
  refine bodyPost_ret ?_ rfl ⟨rfl, ?_⟩
  · simp [results, Tryz.results24, go_sem, *]
  · (repeat (first | (with_reducible refine Below.setCell ?_ (by exact Nat.le_refl _) _) | (with_reducible refine Below.alloc ?_ (by first | exact HB.out.size | (have := HB.out.size; simp; omega)) _))); exact HB.out
end Go.Proofs.YtaheiolbeiofpaaGreatDoor
/-
  Sections, signals and faults of layer 5, held against each other by == and !=.
-/
namespace Go.Proofs.YtaheiolbeiofpaaGreatDoor
open Go.RowKit

abbrev endV (x : Pl.En) : Value := .agg #[.int .i64 x.goes, .int .i64 x.at_, .int .i64 x.sig]
abbrev endsV (x y z : Pl.En) : Value := .agg #[.int .i64 x.goes, .int .i64 x.at_, .int .i64 x.sig, .int .i64 y.goes, .int .i64 y.at_, .int .i64 y.sig, .int .i64 z.goes, .int .i64 z.at_, .int .i64 z.sig]
def endB (x y : Pl.En) : Bool := x.goes == y.goes && (x.at_ == y.at_ && x.sig == y.sig)
theorem endB_eq (x y : Pl.En) : endB x y = decide (x = y) := by
  rw [Bool.eq_iff_iff]
  obtain ⟨a, b, c⟩ := x
  obtain ⟨a', b', c'⟩ := y
  simp [endB]
theorem eq_end_in (W : World) (d : Nat) (x y : Pl.En) : Sem.run Tryz.prog (Op.equalIn (d + 2) 48 (endV x) (endV y)) W = .ok (endB x y) W := by
  unfold endB
  cases h1 : x.goes == y.goes <;> cases h2 : x.at_ == y.at_ <;> cases h3 : x.sig == y.sig <;> go_simp
theorem cend : Tryz.prog.cellsOf 48 = 3 := by kernel_rfl
theorem part_end0 (W : World) (a b c d e f g h i : Value) : Sem.run Tryz.prog (part 48 #[a, b, c, d, e, f, g, h, i] 0) W = .ok (.agg #[a, b, c]) W := by
  simp [part, isAgg, run_underlying Tryz.underlying48]
theorem part_end3 (W : World) (a b c d e f g h i : Value) : Sem.run Tryz.prog (part 48 #[a, b, c, d, e, f, g, h, i] 3) W = .ok (.agg #[d, e, f]) W := by
  simp [part, isAgg, run_underlying Tryz.underlying48]
theorem part_end6 (W : World) (a b c d e f g h i : Value) : Sem.run Tryz.prog (part 48 #[a, b, c, d, e, f, g, h, i] 6) W = .ok (.agg #[g, h, i]) W := by
  simp [part, isAgg, run_underlying Tryz.underlying48]
def threeB (x y z x' y' z' : Pl.En) : Bool := endB x x' && (endB y y' && endB z z')
theorem eq_three_in (W : World) (d : Nat) (x y z x' y' z' : Pl.En) : Sem.run Tryz.prog (Op.equalIn (d + 3) 49 (endsV x y z) (endsV x' y' z')) W = .ok (threeB x y z x' y' z') W := by
  obtain ⟨inf, hi⟩ := info_of_underlying (P := Tryz.prog) Tryz.underlying48
  rw [run_equalIn_array W (d + 2) _ _ Tryz.underlying49 hi, cend]
  have T1 := eq_end_in W d x x'
  have T2 := eq_end_in W d y y'
  have T3 := eq_end_in W d z z'
  unfold threeB
  generalize endB x x' = p at T1 ⊢
  generalize endB y y' = q at T2 ⊢
  generalize endB z z' = r at T3 ⊢
  cases p <;> cases q <;> cases r <;> simp [Op.eqItems, List.range, List.range.loop, part_end0, part_end3, part_end6, T1, T2, T3]
theorem bin_three (W : World) (x y z x' y' z' : Pl.En) : Sem.run Tryz.prog (binOp .eql 49 (endsV x y z) (endsV x' y' z')) W = .ok (.bool (threeB x y z x' y' z')) W := by
  rw [run_eql_struct, show (10000 : Nat) = 9997 + 3 from rfl, eq_three_in]; rfl
def secB (s t : Pl.Sec) (e : Bool) : Bool := (txt s.name).toList == (txt t.name).toList && (s.pt == t.pt && (s.len == t.len && e))
theorem eq_sec_in (W : World) (d : Nat) (s t : Pl.Sec) : Sem.run Tryz.prog (Op.equalIn (d + 4) 51 (secV s) (secV t)) W = .ok (secB s t (threeB s.e0 s.e1 s.e2 t.e0 t.e1 t.e2)) W := by
  have E := eq_three_in W d s.e0 s.e1 s.e2 t.e0 t.e1 t.e2
  generalize threeB s.e0 s.e1 s.e2 t.e0 t.e1 t.e2 = p at E ⊢
  unfold secB
  cases h1 : (txt s.name).toList == (txt t.name).toList <;> cases h2 : s.pt == t.pt <;> cases h3 : s.len == t.len <;> cases p <;> go_simp
theorem secB_eq (s t : Pl.Sec) : secB s t (threeB s.e0 s.e1 s.e2 t.e0 t.e1 t.e2) = decide (s = t) := by
  rw [Bool.eq_iff_iff]
  unfold secB threeB
  rw [endB_eq, endB_eq, endB_eq]
  obtain ⟨n, p, l, a, b, c⟩ := s
  obtain ⟨n', p', l', a', b', c'⟩ := t
  simp [toList_txt]
theorem ne_secs (W : World) (s t : Pl.Sec) : Sem.run Tryz.prog (binOp .neq 51 (secV s) (secV t)) W = .ok (.bool (!decide (s = t))) W := by
  rw [run_neq_struct, show (10000 : Nat) = 9996 + 4 from rfl, eq_sec_in, secB_eq]; rfl
abbrev sigV (g : Pl.Sig) : Value := .agg #[.string (txt g.name), .int .i64 g.sec, .int .i64 g.en]
def sigB (g h : Pl.Sig) : Bool := (txt g.name).toList == (txt h.name).toList && (g.sec == h.sec && g.en == h.en)
theorem eq_sig_in (W : World) (d : Nat) (g h : Pl.Sig) : Sem.run Tryz.prog (Op.equalIn (d + 2) 53 (sigV g) (sigV h)) W = .ok (sigB g h) W := by
  unfold sigB
  cases h1 : (txt g.name).toList == (txt h.name).toList <;> cases h2 : g.sec == h.sec <;> cases h3 : g.en == h.en <;> go_simp
theorem sigB_eq (g h : Pl.Sig) : sigB g h = decide (g = h) := by
  rw [Bool.eq_iff_iff]
  obtain ⟨a, b, c⟩ := g
  obtain ⟨a', b', c'⟩ := h
  simp [sigB, toList_txt]
theorem ne_sigs (W : World) (g h : Pl.Sig) : Sem.run Tryz.prog (binOp .neq 53 (sigV g) (sigV h)) W = .ok (.bool (!decide (g = h))) W := by
  rw [run_neq_struct, show (10000 : Nat) = 9998 + 2 from rfl, eq_sig_in, sigB_eq]; rfl
theorem bin_sigs (W : World) (g h : Pl.Sig) : Sem.run Tryz.prog (binOp .eql 53 (sigV g) (sigV h)) W = .ok (.bool (decide (g = h))) W := by
  rw [run_eql_struct, show (10000 : Nat) = 9998 + 2 from rfl, eq_sig_in, sigB_eq]; rfl
theorem ne_fault (W : World) (a b c d : Int) : Sem.run Tryz.prog (binOp .neq 31 (.agg #[.int .i64 a, .int .i64 b]) (.agg #[.int .i64 c, .int .i64 d])) W = .ok (.bool (!(a == c && b == d))) W := by
  rw [run_neq_struct, eql_fault]; rfl
end Go.Proofs.YtaheiolbeiofpaaGreatDoor
/-
  The walk of layer 5's awake: the document's examples come out as they should.
-/
namespace Go.Proofs.YtaheiolbeiofpaaGreatDoor
open Go.RowKit

def awP : Pl.Plan := ⟨0, 0, 0, 0, [⟨[80], true, 5000, ⟨3, 1, -1⟩, ⟨1, 0, -1⟩, ⟨2, 0, -1⟩⟩, ⟨[84], false, 7000, ⟨0, 1, -1⟩, ⟨-1, 0, -1⟩, ⟨-1, 0, -1⟩⟩, ⟨[85], false, 7000, ⟨0, 2, -1⟩, ⟨-1, 0, -1⟩, ⟨-1, 0, -1⟩⟩, ⟨[87], false, 9000, ⟨-1, 0, -1⟩, ⟨0, 0, 0⟩, ⟨-1, 0, -1⟩⟩], [⟨[65], 3, 1⟩]⟩
abbrev exB : ByteArray := ⟨(([115, 101, 99, 116, 105, 111, 110, 32, 87, 32, 57, 48, 48, 48, 10, 112, 111, 105, 110, 116, 32, 80, 32, 53, 48, 48, 48, 10, 115, 101, 99, 116, 105, 111, 110].append [32, 84, 32, 55, 48, 48, 48, 10, 115, 101, 99, 116, 105, 111, 110, 32, 85, 32, 55, 48, 48, 48, 10, 106, 111, 105, 110, 32, 87, 46, 98, 32, 80, 46, 116, 10]).append ([106, 111, 105, 110, 32, 80, 46, 110, 32, 84, 46, 97, 10, 106, 111, 105, 110, 32, 80, 46, 114, 32, 85, 46, 97, 10, 98, 117, 102, 102, 101, 114, 32, 87, 46, 97].append [10, 98, 117, 102, 102, 101, 114, 32, 84, 46, 98, 10, 98, 117, 102, 102, 101, 114, 32, 85, 46, 98, 10, 115, 105, 103, 110, 97, 108, 32, 65, 32, 87, 46, 98, 10])).toArray⟩
abbrev exI : ByteArray := ⟨#[112, 111, 105, 110, 116, 32, 80, 32, 53, 48, 48, 48, 10, 115, 101, 99, 116, 105, 111, 110, 32, 84, 32, 55, 48, 48, 48, 10, 115, 101, 99, 116, 105, 111, 110, 32, 85, 32, 55, 48, 48, 48, 10, 115, 101, 99, 116, 105, 111, 110, 32, 87, 32, 57, 48, 48, 48, 10, 106, 111, 105, 110, 32, 80, 46, 116, 32, 87, 46, 98, 10, 106, 111, 105, 110, 32, 80, 46, 110, 32, 84, 46, 97, 10, 106, 111, 105, 110, 32, 80, 46, 114, 32, 85, 46, 97, 10, 98, 117, 102, 102, 101, 114, 32, 84, 46, 98, 10, 98, 117, 102, 102, 101, 114, 32, 85, 46, 98, 10, 98, 117, 102, 102, 101, 114, 32, 87, 46, 97, 10, 115, 105, 103, 110, 97, 108, 32, 65, 32, 87, 46, 98, 10]⟩
theorem ex_built : Pl.builtP exB.data.toList = (awP, 0, 0) := by decide +kernel
theorem builtP_fit {l : List UInt8} {p : Pl.Plan} (h : Pl.builtP l = (p, 0, 0)) : Pl.Fit p ∧ ∃ L, Pl.Ok L ∧ Pl.Shut L ∧ p = Pl.fin L := by
  unfold Pl.builtP at h
  split at h
  · obtain ⟨h1, h2, h3⟩ := Pl.build_zero (L := (Sh.parse l).1) (by rw [h])
    rw [h3] at h
    obtain rfl : Pl.fin (Sh.parse l).1 = p := congrArg Prod.fst h
    exact ⟨Pl.fit_fin h1 h2, _, h1, h2, rfl⟩
  · have := congrArg (fun x => x.2.1) h
    simp at this
theorem aw_print : txt (Sh.print (Pl.items awP)) = exI := by decide +kernel
theorem aw_fits : ∀ y ∈ Pl.items awP, FitsP y := by
  intro y hy
  have : (Pl.items awP).all (fun y => It.right y) = true := by decide +kernel
  obtain ⟨⟨h1, h2, h3, h4⟩, h5⟩ := right_le8 (List.all_eq_true.1 this y hy)
  exact ⟨h5, by omega, by omega, by omega, by omega⟩
theorem fault_of {s : ByteArray} {q : Pl.Plan} {e : Int} {n : Nat} (h : Pl.builtP s.data.toList = (q, e, n)) (hs : s.size ≤ 10000) (w : World) (hE : Env w) :
    Calls Tryz.prog 24 #[.string s] w fun x w' => x = .returned (.agg #[.int .i64 e, .int .i64 n]) ∧ Below w.heap.size w w' := by
  have := fault_any s w hE hs
  rwa [h] at this
/-- What built leaves of a text that is a station. -/
def PlanYes (p : Pl.Plan) (w : World) (e : Ending) (w' : World) : Prop :=
  ∃ A c A' c', e = .returned (.tuple #[planV p A c A' c', .agg #[.int .i64 0, .int .i64 0]]) ∧ PlanIn w' p A A' ∧ Below w.heap.size w w'
theorem built_yes {s : ByteArray} {p : Pl.Plan} (h : Pl.builtP s.data.toList = (p, 0, 0)) (hs : s.size ≤ 10000) (w : World) (hE : Env w) : Calls Tryz.prog 17 #[.string s] w (PlanYes p w) := by
  refine (built_any s w hE hs).mono ?_
  rw [h]
  rintro e w' ⟨A, c, A', c', -, -, he, hS, hG, hb⟩
  exact ⟨A, c, A', c', he, ⟨hS, hG⟩, hb⟩
/-- What built leaves of the example. -/
def AwYes (w : World) (e : Ending) (w' : World) : Prop :=
  ∃ S cS G cG, e = .returned (.tuple #[.agg #[.int .i64 0, .int .i64 0, .int .i64 0, .int .i64 0, .slice S 4 cS, .slice G 1 cG], .agg #[.int .i64 0, .int .i64 0]]) ∧ PlanIn w' awP S G ∧ Below w.heap.size w w'
theorem aw_yes (w : World) (hE : Env w) : Calls Tryz.prog 17 #[.string exB] w (AwYes w) := built_yes (p := awP) ex_built (by decide +kernel) w hE
abbrev awO (S : Option Addr) (cS : Nat) (G : Option Addr) (cG : Nat) : Obj := .cells #[.int .i64 0, .int .i64 0, .int .i64 0, .int .i64 0, .slice S 4 cS, .slice G 1 cG] 28
abbrev awS : Obj := .cells #[.string ⟨#[80]⟩, .bool true, .int .i64 5000, .int .i64 3, .int .i64 1, .int .i64 (-1), .int .i64 1, .int .i64 0, .int .i64 (-1), .int .i64 2, .int .i64 0, .int .i64 (-1)] 51
theorem aw_rows {w : World} {S G : Option Addr} (h : PlanIn w awP S G) : ∃ b o g q, S = some ⟨b, o, none⟩ ∧ G = some ⟨g, q, none⟩ ∧ b < w.heap.size ∧ g < w.heap.size ∧
    (w.cell? ⟨b, o, none⟩ = some (.string ⟨#[80]⟩) ∧ w.cell? ⟨b, o + 1, none⟩ = some (.bool true) ∧ w.cell? ⟨b, o + 2, none⟩ = some (.int .i64 5000) ∧ w.cell? ⟨b, o + 3, none⟩ = some (.int .i64 3) ∧ w.cell? ⟨b, o + 4, none⟩ = some (.int .i64 1) ∧ w.cell? ⟨b, o + 5, none⟩ = some (.int .i64 (-1)) ∧ w.cell? ⟨b, o + 6, none⟩ = some (.int .i64 1) ∧ w.cell? ⟨b, o + 7, none⟩ = some (.int .i64 0) ∧ w.cell? ⟨b, o + 8, none⟩ = some (.int .i64 (-1)) ∧ w.cell? ⟨b, o + 9, none⟩ = some (.int .i64 2) ∧ w.cell? ⟨b, o + 10, none⟩ = some (.int .i64 0) ∧ w.cell? ⟨b, o + 11, none⟩ = some (.int .i64 (-1))) ∧
    (w.cell? ⟨b, o + 36 + 3, none⟩ = some (.int .i64 (-1)) ∧ w.cell? ⟨b, o + 36 + 4, none⟩ = some (.int .i64 0) ∧ w.cell? ⟨b, o + 36 + 5, none⟩ = some (.int .i64 (-1)) ∧ w.cell? ⟨b, o + 36 + 6, none⟩ = some (.int .i64 0) ∧ w.cell? ⟨b, o + 36 + 7, none⟩ = some (.int .i64 0) ∧ w.cell? ⟨b, o + 36 + 8, none⟩ = some (.int .i64 0) ∧ w.cell? ⟨b, o + 36 + 9, none⟩ = some (.int .i64 (-1)) ∧ w.cell? ⟨b, o + 36 + 10, none⟩ = some (.int .i64 0) ∧ w.cell? ⟨b, o + 36 + 11, none⟩ = some (.int .i64 (-1))) ∧
    (w.cell? ⟨g, q, none⟩ = some (.string ⟨#[65]⟩) ∧ w.cell? ⟨g, q + 1, none⟩ = some (.int .i64 3) ∧ w.cell? ⟨g, q + 2, none⟩ = some (.int .i64 1)) := by
  obtain ⟨b, o, hA, hb, on⟩ := sec_cells h.1 (i := 0) (s := ⟨[80], true, 5000, ⟨3, 1, -1⟩, ⟨1, 0, -1⟩, ⟨2, 0, -1⟩⟩) rfl
  obtain ⟨b', o', hA', hb', on'⟩ := sec_cells h.1 (i := 3) (s := ⟨[87], false, 9000, ⟨-1, 0, -1⟩, ⟨0, 0, 0⟩, ⟨-1, 0, -1⟩⟩) rfl
  rw [hA] at hA'
  cases hA'
  rcases h.2 with h0 | ⟨g, q, hG, hg, hon⟩
  · cases h0
  obtain ⟨c0, c1, c2⟩ := sig_on (hon 0 ⟨[65], 3, 1⟩ rfl)
  obtain ⟨a0, a1, a2, a3, a4, a5, a6, a7, a8, a9, a10, a11⟩ := sec_on on
  obtain ⟨-, -, -, d3, d4, d5, d6, d7, d8, d9, d10, d11⟩ := sec_on on'
  rw [Nat.zero_mul, Nat.add_zero] at a0 a1 a2 a3 a4 a5 a6 a7 a8 a9 a10 a11 c0 c1 c2
  exact ⟨b, o, g, q, hA, hG, hb, hg, ⟨a0, a1, a2, a3, a4, a5, a6, a7, a8, a9, a10, a11⟩, ⟨d3, d4, d5, d6, d7, d8, d9, d10, d11⟩, c0, c1, c2⟩
theorem aw_find (w : World) (S G : Option Addr) (cS : Nat) (h : PlanIn w awP S G) : Calls Tryz.prog 13 #[.slice S 4 cS, .string ⟨#[85]⟩] w fun e w' => e = .returned (.int .i64 2) ∧ Below w.heap.size w w' :=
  pFind_any S cS awP.secs [85] w h.1 (by decide)
theorem aw_find' (w : World) (S G : Option Addr) (cS : Nat) (h : PlanIn w awP S G) : Calls Tryz.prog 13 #[.slice S 4 cS, .string ⟨#[81]⟩] w fun e w' => e = .returned (.int .i64 (-1)) ∧ Below w.heap.size w w' :=
  pFind_any S cS awP.secs [81] w h.1 (by decide)
theorem aw_items (w : World) (S G : Option Addr) (cS cG : Nat) (h : PlanIn w awP S G) : Calls Tryz.prog 18 #[.agg #[.int .i64 0, .int .i64 0, .int .i64 0, .int .i64 0, .slice S 4 cS, .slice G 1 cG]] w fun e w' => ∃ A c, e = .returned (.slice A 11 c) ∧ Its w' A (Pl.items awP) ∧ Below w.heap.size w w' := by
  refine (pItems_any awP S cS G cG w (builtP_fit ex_built).1 h).mono ?_
  rintro e w' ⟨v, rfl, hb, ho⟩
  obtain ⟨-, A, c, rfl, -, hI⟩ := Its.of_own ho
  exact ⟨A, c, by rw [show (Pl.items awP).length = 11 by decide +kernel], hI, hb⟩
theorem aw_printed (w : World) (A : Option Addr) (c : Nat) (h : Its w A (Pl.items awP)) : Calls Tryz.prog 23 #[.slice A 11 c] w fun e w' => e = .returned (.string exI) ∧ Below w.heap.size w w' := by
  have := rsprint_any A c (Pl.items awP) w h (by decide +kernel) aw_fits (by decide +kernel)
  rwa [aw_print, show (Pl.items awP).length = 11 by decide +kernel] at this
set_option maxHeartbeats 8000000 in
set_option maxRecDepth 100000 in
theorem pAwake_any (w : World) (hE : Env w) :
    Calls Tryz.prog 9 #[] w fun e w' => e = .returned (.bool true) ∧ Below w.heap.size w w' := by
  have F0 := Lib.hid (fault_of (s := { data := #[115, 101, 99, 116, 105, 111, 110, 32, 87, 32, 49, 10, 115, 101, 99, 116, 105, 111, 110, 32, 87, 32, 49, 10] }) (q := Pl.Plan.zero) (e := 3) (n := 2) (by decide +kernel) (by decide))
  have F1 := Lib.hid (fault_of (s := { data := #[115, 101, 99, 116, 105, 111, 110, 32, 87, 32, 49, 10, 98, 117, 102, 102, 101, 114, 32, 81, 46, 97, 10] }) (q := Pl.Plan.zero) (e := 4) (n := 2) (by decide +kernel) (by decide))
  have F2 := Lib.hid (fault_of (s := { data := #[115, 101, 99, 116, 105, 111, 110, 32, 87, 32, 49, 10, 98, 117, 102, 102, 101, 114, 32, 87, 46, 110, 10] }) (q := Pl.Plan.zero) (e := 5) (n := 2) (by decide +kernel) (by decide))
  have F3 := Lib.hid (fault_of (s := { data := #[115, 101, 99, 116, 105, 111, 110, 32, 87, 32, 49, 10, 106, 111, 105, 110, 32, 87, 46, 97, 32, 87, 46, 97, 10] }) (q := Pl.Plan.zero) (e := 6) (n := 2) (by decide +kernel) (by decide))
  have F4 := Lib.hid (fault_of (s := { data := #[115, 101, 99, 116, 105, 111, 110, 32, 87, 32, 49, 10, 98, 117, 102, 102, 101, 114, 32, 87, 46, 97, 10] }) (q := Pl.Plan.zero) (e := 7) (n := 1) (by decide +kernel) (by decide))
  have F5 := Lib.hid (fault_of (s := { data := #[115, 101, 99, 116, 105, 111, 110, 32, 87, 32, 49, 10, 115, 105, 103, 110, 97, 108, 32, 65, 32, 87, 46, 97, 10, 98, 117, 102, 102, 101, 114, 32, 87, 46, 97, 10, 98, 117, 102, 102, 101, 114, 32, 87, 46, 98, 10] }) (q := Pl.Plan.zero) (e := 8) (n := 2) (by decide +kernel) (by decide))
  have F6 := Lib.hid (fault_of (s := { data := #[115, 101, 116, 116, 108, 101, 32, 49, 10, 115, 101, 116, 116, 108, 101, 32, 49, 10] }) (q := Pl.Plan.zero) (e := 3) (n := 2) (by decide +kernel) (by decide))
  have N1 := fun W => ne_fault W 0 0 0 0
  have Q3 := fun W => bin_three W ⟨3, 1, -1⟩ ⟨1, 0, -1⟩ ⟨2, 0, -1⟩ ⟨3, 1, -1⟩ ⟨1, 0, -1⟩ ⟨2, 0, -1⟩
  have Q4 := fun W => bin_three W ⟨-1, 0, -1⟩ ⟨0, 0, 0⟩ ⟨-1, 0, -1⟩ ⟨-1, 0, -1⟩ ⟨0, 0, 0⟩ ⟨-1, 0, -1⟩
  have Q5 : ∀ W, Sem.run Tryz.prog (binOp .eql 53 (.agg #[.string ⟨#[65]⟩, .int .i64 3, .int .i64 1]) (.agg #[.string ⟨#[65]⟩, .int .i64 3, .int .i64 1])) W = .ok (.bool true) W := fun W => bin_sigs W ⟨[65], 3, 1⟩ ⟨[65], 3, 1⟩
  have e3 : threeB ⟨3, 1, -1⟩ ⟨1, 0, -1⟩ ⟨2, 0, -1⟩ ⟨3, 1, -1⟩ ⟨1, 0, -1⟩ ⟨2, 0, -1⟩ = true := by decide
  have e4 : threeB ⟨-1, 0, -1⟩ ⟨0, 0, 0⟩ ⟨-1, 0, -1⟩ ⟨-1, 0, -1⟩ ⟨0, 0, 0⟩ ⟨-1, 0, -1⟩ = true := by decide
  simp only [e3] at Q3
  simp only [e4] at Q4
  clear e3 e4
  have P32 := fun W => bin_fault W 3 2 3 2
  have P42 := fun W => bin_fault W 4 2 4 2
  have P52 := fun W => bin_fault W 5 2 5 2
  have P62 := fun W => bin_fault W 6 2 6 2
  have P71 := fun W => bin_fault W 7 1 7 1
  have P82 := fun W => bin_fault W 8 2 8 2
  have H0 := Lib.hid hE
  have HF := Lib.hid (builtP_fit ex_built).1
  clear hE
  go_enter Tryz.func9, Tryz.ntmps9
  go_wp2_with fail
  refine (aw_yes _ H0.out).mono ?_; rintro e w1 ⟨S, cS, G, cG, rfl, pin, hb1⟩
  obtain ⟨RP, RF, X1, XS⟩ := two_blocks w1 (awO S cS G cG) faultZ
  have B1 := Lib.hid (hb1.trans (X1.mono hb1.size))
  have I1 := pin.below X1
  obtain ⟨b, o, g, q, rfl, rfl, hb, hg, ⟨a0, a1, a2, a3, a4, a5, a6, a7, a8, a9, a10, a11⟩, -, -⟩ := aw_rows I1
  obtain ⟨⟨p0, p1, p2, p3, p4, p5⟩, -, gP⟩ := row6 RP
  obtain ⟨⟨t0, t1⟩, gt⟩ := row2c RF
  have gX := World.size_alloc ((w1.alloc (awO (some ⟨b, o, none⟩) cS (some ⟨g, q, none⟩) cG)).alloc faultZ) awS
  have X2 := (Below.refl ((w1.alloc (awO (some ⟨b, o, none⟩) cS (some ⟨g, q, none⟩) cG)).alloc faultZ).heap.size ((w1.alloc (awO (some ⟨b, o, none⟩) cS (some ⟨g, q, none⟩) cG)).alloc faultZ)).alloc (Nat.le_refl _) awS
  have I2 := I1.below X2
  have HI2 := Lib.hid I2
  have kn := heap_alloc_new ((w1.alloc (awO (some ⟨b, o, none⟩) cS (some ⟨g, q, none⟩) cG)).alloc faultZ) awS
  rw [XS] at kn
  have RP2 := (X2.block _ gP).trans RP
  have HRP := Lib.hid RP2
  have H2 := Lib.hid ((H0.out.below rfl (hb1.trans (X1.mono hb1.size))).below rfl X2)
  have B2 := Lib.hid (B1.out.trans (X2.mono B1.out.size))
  obtain ⟨b', o', g', q', hA1, hA2, -, -, -, ⟨d3, d4, d5, d6, d7, d8, d9, d10, d11⟩, c0, c1, c2⟩ := aw_rows I2
  cases hA1
  cases hA2
  obtain ⟨⟨r0, r1, r2, r3, r4, r5⟩, -, gP2⟩ := row6 RP2
  obtain ⟨k0, k1, k2, k3, k4, k5, k6, k7, k8, k9, k10, k11⟩ := sec_on (heap_sec (t := ⟨[80], true, 5000, ⟨3, 1, -1⟩, ⟨1, 0, -1⟩, ⟨2, 0, -1⟩⟩) kn)
  rw [Nat.zero_add] at k1 k2 k3 k4 k5 k6 k7 k8 k9 k10 k11
  have k0' : (((w1.alloc (awO (some ⟨b, o, none⟩) cS (some ⟨g, q, none⟩) cG)).alloc faultZ).alloc awS).cell? ⟨w1.heap.size + 2, 0, none⟩ = some (.string ⟨#[80]⟩) := k0
  simp only at k1 k2 k3 k4 k5 k6 k7 k8 k9 k10 k11
  clear pin hb1 X1 X2 I1 I2 RP RF kn RP2 k0 B1
  go_wp2_with fail
  refine (aw_find _ _ _ cS HI2.out).mono ?_; rintro e w4 ⟨rfl, hb4⟩
  have HI4 := Lib.hid (HI2.out.below hb4)
  have HRP4 := Lib.hid ((hb4.block _ gP2).trans HRP.out)
  have H4 := Lib.hid (H2.out.below rfl hb4)
  have B4 := Lib.hid (B2.out.trans (hb4.mono B2.out.size))
  clear hb4 HI2 HRP H2 B2 r0 r1 r2 r3 r4 r5 gP2 k0' k1 k2 k3 k4 k5 k6 k7 k8 k9 k10 k11 c0 c1 c2 d3 d4 d5 d6 d7 d8 d9 d10 d11 p0 p1 p2 p3 p4 p5 gP t0 t1 gt a0 a1 a2 a3 a4 a5 a6 a7 a8 a9 a10 a11 gX Q3 Q4 Q5 N1
  obtain ⟨⟨r0, r1, r2, r3, r4, r5⟩, -, gP2⟩ := row6 HRP4.out
  go_wp2_with fail
  refine (aw_find' _ _ _ cS HI4.out).mono ?_; rintro e w5 ⟨rfl, hb5⟩
  have HI5 := Lib.hid (HI4.out.below hb5)
  have HRP5 := Lib.hid ((hb5.block _ gP2).trans HRP4.out)
  have H5 := Lib.hid (H4.out.below rfl hb5)
  have B5 := Lib.hid (B4.out.trans (hb5.mono B4.out.size))
  clear hb5 HI4 HRP4 H4 B4 r0 r1 r2 r3 r4 r5 gP2
  obtain ⟨⟨r0, r1, r2, r3, r4, r5⟩, -, gP2⟩ := row6 HRP5.out
  go_wp2_with fail
  refine (pLetter_any true 2 _).mono ?_; rintro e w6 ⟨rfl, rfl⟩
  rw [show ((letterI true 2).toNat : Int) = 114 from rfl]
  go_wp2_with fail
  refine (pLetter_any false 2 _).mono ?_; rintro e w6 ⟨rfl, rfl⟩
  rw [show ((letterI false 2).toNat : Int) = 0 from rfl]
  go_wp2_with fail
  refine (aw_items _ _ _ cS cG HI5.out).mono ?_; rintro e w6 ⟨A, c, rfl, hI6, hb6⟩
  have H6 := Lib.hid (H5.out.below rfl hb6)
  have B6 := Lib.hid (B5.out.trans (hb6.mono B5.out.size))
  clear hb6 HI5 HRP5 H5 B5 r0 r1 r2 r3 r4 r5 gP2
  go_wp2_with fail
  refine (aw_printed _ A c hI6).mono ?_; rintro e w7 ⟨rfl, hb7⟩
  have H7 := Lib.hid (H6.out.below rfl hb7)
  have B7 := Lib.hid (B6.out.trans (hb7.mono B6.out.size))
  clear hb7 H6 B6 hI6
  go_wp2_with fail
  refine (F0.out _ H7.out).mono ?_; rintro e w8 ⟨rfl, hb⟩
  have H8 := Lib.hid (H7.out.below rfl hb)
  have B8 := Lib.hid (B7.out.trans (hb.mono B7.out.size))
  clear hb H7 B7
  go_wp2_with fail
  refine (F1.out _ H8.out).mono ?_; rintro e w9 ⟨rfl, hb⟩
  have H9 := Lib.hid (H8.out.below rfl hb)
  have B9 := Lib.hid (B8.out.trans (hb.mono B8.out.size))
  clear hb H8 B8
  go_wp2_with fail
  refine (F2.out _ H9.out).mono ?_; rintro e w10 ⟨rfl, hb⟩
  have H10 := Lib.hid (H9.out.below rfl hb)
  have B10 := Lib.hid (B9.out.trans (hb.mono B9.out.size))
  clear hb H9 B9
  go_wp2_with fail
  refine (F3.out _ H10.out).mono ?_; rintro e w11 ⟨rfl, hb⟩
  have H11 := Lib.hid (H10.out.below rfl hb)
  have B11 := Lib.hid (B10.out.trans (hb.mono B10.out.size))
  clear hb H10 B10
  go_wp2_with fail
  refine (F4.out _ H11.out).mono ?_; rintro e w12 ⟨rfl, hb⟩
  have H12 := Lib.hid (H11.out.below rfl hb)
  have B12 := Lib.hid (B11.out.trans (hb.mono B11.out.size))
  clear hb H11 B11
  go_wp2_with fail
  refine (F5.out _ H12.out).mono ?_; rintro e w13 ⟨rfl, hb⟩
  have H13 := Lib.hid (H12.out.below rfl hb)
  have B13 := Lib.hid (B12.out.trans (hb.mono B12.out.size))
  clear hb H12 B12
  go_wp2_with fail
  refine (F6.out _ H13.out).mono ?_; rintro e w14 ⟨rfl, hb⟩
  have H14 := Lib.hid (H13.out.below rfl hb)
  have B14 := Lib.hid (B13.out.trans (hb.mono B13.out.size))
  clear hb H13 B13
  go_wp2_with fail
  go_ret
  exact ⟨rfl, B14.out⟩
end Go.Proofs.YtaheiolbeiofpaaGreatDoor
/-
  The walk of the document's answer of layer 5: a plan is the same as itself, wherever it lies.
-/
namespace Go.Proofs.YtaheiolbeiofpaaGreatDoor
open Go.RowKit

set_option maxHeartbeats 8000000 in
set_option maxRecDepth 100000 in
theorem rpSame_any (p : Pl.Plan) (A : Option Addr) (c : Nat) (A' : Option Addr) (c' : Nat) (B : Option Addr) (d : Nat) (B' : Option Addr) (d' : Nat) (w : World) (hA : PlanIn w p A A') (hB : PlanIn w p B B') (hl : p.secs.length ≤ 1000) (hg : p.sigs.length ≤ 1000) :
    Calls Tryz.prog 12 #[planV p A c A' c', planV p B d B' d'] w fun e w' => e = .returned (.bool true) ∧ Below w.heap.size w w' := by
  obtain ⟨R0, R1, XX, XS⟩ := two_blocks w (planO p A c A' c') (planO p B d B' d')
  have X0 := Lib.hid XX
  obtain ⟨⟨p0, p1, p2, p3, p4, p5⟩, -, gp⟩ := row6 R0
  obtain ⟨⟨q0, q1, q2, q3, q4, q5⟩, -, gq⟩ := row6 R1
  have IA := Lib.hid (hA.below XX)
  have IB := Lib.hid (hB.below XX)
  clear XX R0 R1 hA hB
  generalize hw0 : (w.alloc (planO p A c A' c')).alloc (planO p B d B' d') = W0 at IA IB p0 p1 p2 p3 p4 p5 q0 q1 q2 q3 q4 q5 gp gq X0 XS
  have P4 := Lib.hid (fun W (hW : Below W0.heap.size W0 W) => show (W.cell? ⟨w.heap.size, 4, none⟩ = some (.slice A p.secs.length c) ∧ W.cell? ⟨w.heap.size, 5, none⟩ = some (.slice A' p.sigs.length c')) ∧ W.cell? ⟨w.heap.size + 1, 4, none⟩ = some (.slice B p.secs.length d) ∧ W.cell? ⟨w.heap.size + 1, 5, none⟩ = some (.slice B' p.sigs.length d') from
    ⟨⟨(hW.cell (p := ⟨w.heap.size, 4, none⟩) gp).trans p4, (hW.cell (p := ⟨w.heap.size, 5, none⟩) gp).trans p5⟩, (hW.cell (p := ⟨w.heap.size + 1, 4, none⟩) gq).trans q4, (hW.cell (p := ⟨w.heap.size + 1, 5, none⟩) gq).trans q5⟩)
  subst hw0
  go_enter Tryz.func12, Tryz.ntmps12
  go_wp2_with fail
  clear p0 p1 p2 p3 p4 p5 q0 q1 q2 q3 q4 q5
  generalize (w.alloc (planO p A c A' c')).alloc (planO p B d B' d') = W0 at IA IB gp gq X0 XS P4
  go_loopw [5] (fun i wr => ∃ k : Nat, k ≤ p.secs.length ∧ i = .int .i64 k ∧ Below W0.heap.size W0 wr) (fun i _ => p.secs.length - (intOf i).toNat)
  case atStart => exact ⟨0, Nat.zero_le _, rfl, Below.refl _ _⟩
  case round =>
    obtain ⟨k, hk, rfl, hB⟩ := hrel
    obtain ⟨⟨p4, p5⟩, q4, q5⟩ := P4.out _ hB
    have HB := Lib.hid hB
    clear hB
    by_cases hlt : k < p.secs.length
    · have hs := List.getElem?_eq_getElem hlt
      generalize p.secs[k] = s at hs
      obtain ⟨b, o, rfl, hb, on⟩ := sec_cells (IA.out.below HB.out).1 hs
      obtain ⟨b', o', rfl, hb', on'⟩ := sec_cells (IB.out.below HB.out).1 hs
      obtain ⟨a0, a1, a2, a3, a4, a5, a6, a7, a8, a9, a10, a11⟩ := sec_on on
      obtain ⟨c0, c1, c2, c3, c4, c5, c6, c7, c8, c9, c10, c11⟩ := sec_on on'
      have Q := fun W => (ne_secs W s s).trans (by rw [decide_eq_true rfl])
      clear on on' hs
      go_wp2_with fail
      go_quiet (fail)
      go_wp2_with fail
      go_roundw
      case rel => exact ⟨k + 1, by omega, by go_num, below_drewN HB.out _⟩
      case measure => simp [intOf]; omega
    · obtain rfl : k = p.secs.length := by omega
      go_wp2_with fail
      clear p4 p5 q4 q5
      go_loopw [6] (fun i wr => ∃ k : Nat, k ≤ p.sigs.length ∧ i = .int .i64 k ∧ Below W0.heap.size W0 wr) (fun i _ => p.sigs.length - (intOf i).toNat)
      case atStart => exact ⟨0, Nat.zero_le _, rfl, HB.out⟩
      case round =>
        obtain ⟨k, hk, rfl, hB2⟩ := hrel
        obtain ⟨⟨p4, p5⟩, q4, q5⟩ := P4.out _ hB2
        have HB2 := Lib.hid hB2
        clear hB2 HB
        by_cases hlt : k < p.sigs.length
        · have hs := List.getElem?_eq_getElem hlt
          generalize p.sigs[k] = s at hs
          obtain ⟨hi', hse⟩ := List.getElem?_eq_some_iff.1 hs
          obtain ⟨b, o, rfl, hb, on⟩ := (IA.out.below HB2.out).2.at hi'
          obtain ⟨b', o', rfl, hb', on'⟩ := (IB.out.below HB2.out).2.at hi'
          rw [hse] at on on'
          obtain ⟨a0, a1, a2⟩ := sig_on on
          obtain ⟨c0, c1, c2⟩ := sig_on on'
          rw [show k * LSig.m = k * 3 from rfl] at a0 a1 a2 c0 c1 c2
          have Q := fun W => (ne_sigs W s s).trans (by rw [decide_eq_true rfl])
          clear on on' hs hse
          go_wp2_with fail
          go_quiet (fail)
          go_wp2_with fail
          go_roundw
          case rel => exact ⟨k + 1, by omega, by go_num, below_drewN HB2.out _⟩
          case measure => simp [intOf]; omega
        · go_wp2_with fail
          go_ret
          exact ⟨rfl, X0.out.trans (HB2.out.mono X0.out.size)⟩
end Go.Proofs.YtaheiolbeiofpaaGreatDoor
