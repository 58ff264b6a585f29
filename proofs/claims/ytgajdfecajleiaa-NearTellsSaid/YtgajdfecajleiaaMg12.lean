/-
  Texts of this claim, merged: PlRefL, PlDrN, PlDrP, PlDrR, PlItA, PlList, PlItB, PlItD, PlItE, PlLawA, PlEq, PlAwake.
-/
import Derived.Test.YtgajdfecajleiaaMg07
import Derived.Test.YtgajdfecajleiaaMg11
import Derived.ChangeKeysEq
import Derived.Deep.CutRange
import Derived.Deep.OwnRows
import Derived.Laws.AppendOwnNone
/-
  The walk of the document's answer of layer 5: Build, over its sorted (whose contract is asked for here).
-/
namespace Go.Proofs.Ytgajdfecajleiaa
open Go.RowKit

/-- A plan's value. -/
def PlanAgg (p : Pl.Plan) (w : World) (e : Ending) (w' : World) : Prop :=
  ∃ A c A' c', p.secs.length ≤ c ∧ p.sigs.length ≤ c' ∧ e = .returned (.agg #[.int .i64 p.ov, .int .i64 p.ap, .int .i64 p.se, .int .i64 p.ho, .slice A p.secs.length c, .slice A' p.sigs.length c']) ∧ LSec.Row w' A p.secs ∧ LSig.Row w' A' p.sigs ∧ (∀ a, A = some a → w.heap.size ≤ a.block) ∧ (∀ a, A' = some a → w.heap.size ≤ a.block) ∧ Below w.heap.size w w'
/-- A row stays where another block changes. -/
theorem row_far {α : Type} {E : Lies α} {w : World} {A : Option Addr} {L : List α} (h : E.Row w A L) (p : Addr) (v : Value) (hp : ∀ a, A = some a → p.block < a.block) : E.Row (w.setCell p v) A L := by
  rcases h with h | ⟨b, o, hA, hlt, h⟩
  · exact .inl h
  · exact .inr ⟨b, o, hA, by simpa using hlt, fun k y hk j u hu => by rw [World.cell?_setCell_far _ _ _ _ (Nat.ne_of_lt (show p.block < b from hp _ hA))]; exact h k y hk j u hu⟩
/-- What is asked of sorted. -/
def SortedOk : Prop := ∀ (L : List It.Itm) (w : World) (A A' : Option Addr) (c c' : Nat), Pl.Ok L → LSec.Row w A (Pl.wS L) → LSig.Row w A' (Pl.wG L) →
  Calls Try.prog 26 #[.agg #[.int .i64 (Pl.num L 1), .int .i64 (Pl.num L 2), .int .i64 (Pl.num L 3), .int .i64 (Pl.num L 4), .slice A (Pl.wS L).length c, .slice A' (Pl.wG L).length c']] w (PlanAgg (Pl.fin L) w)
/-- Items whose texts are of moderate length. -/
def FitsR (y : It.Itm) : Prop := y.n ≤ 9223372036854775807 ∧ y.name.length ≤ 1000 ∧ y.e0.n.length ≤ 1000 ∧ y.e1.n.length ≤ 1000
theorem rpRight_y (y : It.Itm) (w : World) (h : FitsR y) :
    Calls Try.prog 23 #[itemV y] w fun e w' => e = .returned (.bool (It.right y)) ∧ Below w.heap.size w w' := by
  have := riright_any y.k (txt y.name) y.n (txt y.e0.n) y.e0.c (txt y.e1.n) y.e1.c w h.1 (by rw [txt_size]; exact h.2.1) (by rw [txt_size]; exact h.2.2.1) (by rw [txt_size]; exact h.2.2.2)
  rwa [ofV_txt] at this
theorem PlanGives.from {p : Pl.Plan × Int × Nat} {q : Pl.Plan} {w w' : World} {e : Ending} {A A' : Option Addr} {c c' : Nat} (hp : p = (q, 0, 0)) (h1 : q.secs.length ≤ c) (h2 : q.sigs.length ≤ c')
    (he : e = .returned (.tuple #[.agg #[.int .i64 q.ov, .int .i64 q.ap, .int .i64 q.se, .int .i64 q.ho, .slice A q.secs.length c, .slice A' q.sigs.length c'], .agg #[.int .i64 0, .int .i64 0]])) (hS : LSec.Row w' A q.secs) (hG : LSig.Row w' A' q.sigs) (hb : Below w.heap.size w w') : PlanGives p w e w' := by
  subst hp
  exact ⟨A, c, A', c', h1, h2, he, hS, hG, hb⟩
theorem errAt_take' {L : List It.Itm} {k : Nat} (hk : k < L.length) : Pl.errAt L k = Pl.lineErr (L.take k) L[k] := by
  unfold Pl.errAt
  rw [List.getElem?_eq_getElem hk]; rfl
theorem lackAt_eq {L : List It.Itm} {k : Nat} (hk : k < L.length) : Pl.lackAt L k = Pl.lackErr L L[k] := by
  unfold Pl.lackAt
  rw [List.getElem?_eq_getElem hk]; rfl
theorem build_line_at {L : List It.Itm} {k : Nat} {e : Int} (hk : k < L.length) (hO : Pl.Ok (L.take k)) (he : Pl.lineErr (L.take k) L[k] = e) (h0 : e ≠ 0) : Pl.build L = (Pl.Plan.zero, e, k + 1) := by
  refine Pl.build_at hk ((errAt_take' hk).trans he) h0 fun j hj => ?_
  have := (Pl.ok_iff _).2 hO j (by rw [List.length_take]; omega)
  rwa [Pl.errAt_take hj (by omega)] at this
theorem build_lack_at {L : List It.Itm} {k : Nat} {e : Int} (hk : k < L.length) (hO : Pl.Ok L) (he : Pl.lackErr L L[k] = e) (h0 : e ≠ 0) (hj : ∀ j < k, Pl.lackAt L j = 0) : Pl.build L = (Pl.Plan.zero, e, k + 1) := by
  unfold Pl.build
  rw [Pl.firstE_none.2 ((Pl.ok_iff L).2 hO)]
  simp only
  rw [Pl.firstE_some.2 ⟨hk, by rw [lackAt_eq hk, he]; exact h0, hj⟩]
  simp only [lackAt_eq hk, he]
theorem build_all {L : List It.Itm} (hO : Pl.Ok L) (hj : ∀ j < L.length, Pl.lackAt L j = 0) : Pl.build L = (Pl.fin L, 0, 0) :=
  Pl.build_ok hO fun x hx => by
    obtain ⟨j, hjl, rfl⟩ := List.getElem_of_mem hx
    rw [← lackAt_eq hjl]; exact hj j hjl
theorem row6 {w : World} {g : Nat} {a b c d e f : Value} {t : TypeId} (h : w.heap[g]? = some (.cells #[a, b, c, d, e, f] t (0, 0))) :
    (w.cell? ⟨g, 0, none⟩ = some a ∧ w.cell? ⟨g, 1, none⟩ = some b ∧ w.cell? ⟨g, 2, none⟩ = some c ∧ w.cell? ⟨g, 3, none⟩ = some d ∧ w.cell? ⟨g, 4, none⟩ = some e ∧ w.cell? ⟨g, 5, none⟩ = some f) ∧
    (w.frozen? ⟨g, 0, none⟩ = false ∧ w.frozen? ⟨g, 1, none⟩ = false ∧ w.frozen? ⟨g, 2, none⟩ = false ∧ w.frozen? ⟨g, 3, none⟩ = false ∧ w.frozen? ⟨g, 4, none⟩ = false ∧ w.frozen? ⟨g, 5, none⟩ = false) ∧ g < w.heap.size :=
  ⟨⟨cell_of_row w g 0 _ t _ h, cell_of_row w g 1 _ t _ h, cell_of_row w g 2 _ t _ h, cell_of_row w g 3 _ t _ h, cell_of_row w g 4 _ t _ h, cell_of_row w g 5 _ t _ h⟩,
    ⟨frozen_of_row w g 0 _ t h, frozen_of_row w g 1 _ t h, frozen_of_row w g 2 _ t h, frozen_of_row w g 3 _ t h, frozen_of_row w g 4 _ t h, frozen_of_row w g 5 _ t h⟩, (Array.getElem?_eq_some_iff.1 h).1⟩
theorem three_allocs (w : World) (a b c : Obj) : (((w.alloc a).alloc b).alloc c).heap[w.heap.size]? = some a ∧ (((w.alloc a).alloc b).alloc c).heap[w.heap.size + 1]? = some b ∧ (((w.alloc a).alloc b).alloc c).heap[w.heap.size + 2]? = some c ∧ Below w.heap.size w (((w.alloc a).alloc b).alloc c) := by
  have s1 : (w.alloc a).heap.size = w.heap.size + 1 := by simp
  have s2 : ((w.alloc a).alloc b).heap.size = w.heap.size + 2 := by simp
  refine ⟨?_, ?_, ?_, (((Below.refl _ _).alloc (Nat.le_refl _) _).alloc (by omega) _).alloc (by omega) _⟩
  · rw [heap_alloc_old _ _ (by omega), heap_alloc_old _ _ (by omega)]; exact heap_alloc_new _ _
  · rw [heap_alloc_old _ _ (by omega), ← s1]; exact heap_alloc_new _ _
  · rw [← s2]; exact heap_alloc_new _ _
set_option maxHeartbeats 8000000 in
set_option maxRecDepth 100000 in
theorem rpBuild_any (HSrt : SortedOk) (A : Option Addr) (c : Nat) (L : List It.Itm) (w : World) (h : Its w A L) (hl : L.length ≤ 100000) (hf : ∀ y ∈ L, FitsR y) :
    Calls Try.prog 15 #[.slice A L.length c] w (PlanGives (Pl.build L) w) := by
  have HF := Lib.hid hf
  have HI := Lib.hid h
  have HSr := Lib.hid HSrt
  clear hf h HSrt
  go_enter Try.func15, Try.ntmps15
  go_wp2_with fail
  go_loopw [5] (fun v wr => ∃ k : Nat, k ≤ L.length ∧ v = .int .i64 k ∧ Pl.Ok (L.take k) ∧ WorkAt 82 39 41 wr (w.heap.size + 2) (L.take k) ∧ wr.heap[w.heap.size]? = some (.cells #[.int .i64 0, .int .i64 0, .int .i64 0, .int .i64 0, .slice none 0 0, .slice none 0 0] 25 (0, 0)) ∧ wr.heap[w.heap.size + 1]? = some (.cells #[.int .i64 0, .int .i64 0] 55 (0, 0)) ∧ Below w.heap.size w wr) (fun v _ => L.length - (intOf v).toNat)
  case atStart =>
    refine ⟨0, Nat.zero_le _, rfl, Pl.Ok.nil, ⟨.slice none 0 0, .slice none 0 0, ?_, World.ownsRow_nil _ _ _ _, World.ownsRow_nil _ _ _ _, fun k hk => by simp [Value.ownBlock] at hk⟩, ?_, ?_, ?_⟩
    · exact (three_allocs w _ _ _).2.2.1
    · exact (three_allocs w _ _ _).1
    · exact (three_allocs w _ _ _).2.1
    · exact (three_allocs w _ _ _).2.2.2
  case round =>
    obtain ⟨k, hk, rfl, hO, hW, hP, hFt, hbel⟩ := hrel
    by_cases hlt : k < L.length
    · obtain ⟨b, o, rfl, hb, i7⟩ := (HI.out.below rfl hbel).at hlt
      obtain ⟨a0, a1, a2, a3, a4, a5, a6⟩ := i7.cells
      clear i7
      have RC := Lib.hid (rpRight_y L[k] wr (HF.out _ (List.getElem_mem hlt)))
      have TK := Lib.hid (show L.take (k + 1) = L.take k ++ [L[k]] by rw [List.take_succ_eq_append_getElem hlt])
      have hz := hbel.size
      cases hr : It.right L[k]
      · rw [hr] at RC
        have P := Lib.hid (build_line_at hlt hO ((Pl.lineErr_2 _ _).2 hr) (by decide))
        have HP := Lib.hid hP
        have HFt := Lib.hid hFt
        have HB := Lib.hid hbel
        clear hr hO hW hP hFt hbel TK
        go_wp2_with fail
        refine RC.out.mono ?_; rintro e w1 ⟨rfl, hb1⟩
        obtain ⟨⟨p0, p1, p2, p3, p4, p5⟩, ⟨f0, f1, f2, f3, f4, f5⟩, gp⟩ := row6 (stay_row HP.out hb1)
        obtain ⟨⟨q0, q1⟩, ⟨e0, e1⟩, gq⟩ := row2f (stay_row HFt.out hb1)
        have BF := Lib.hid (HB.out.trans (hb1.mono hz))
        clear hb1
        go_wp2_with fail
        refine bodyPost_ret ?_ rfl (PlanGives.bad _ _ P.out rfl ?_)
        · simp [results, Try.results15, go_sem, *]
        · (repeat (with_reducible refine Below.setCell ?_ (by first | exact Nat.le_refl _ | exact Nat.le_succ _) _)); exact BF.out
      · rw [hr] at RC
        have HO := Lib.hid hO
        have HW := Lib.hid hW
        have HP := Lib.hid hP
        have HFt := Lib.hid hFt
        have HB := Lib.hid hbel
        have HR := Lib.hid hr
        clear hr hO hW hP hFt hbel
        go_wp2_with fail
        refine RC.out.mono ?_; rintro e w1 ⟨rfl, hb1⟩
        have LN := Lib.hid (rpLine_any (w.heap.size + 2) (L.take k) L[k] w1 (WorkL.below HW.out hb1) HO.out HR.out)
        have HP1 := Lib.hid (stay_row HP.out hb1)
        have HF1 := Lib.hid (stay_row HFt.out hb1)
        have HB1 := Lib.hid (HB.out.trans (hb1.mono hz))
        have c0 := hb1.cell (p := ⟨b, o + k * 7, none⟩) hb
        have c1 := hb1.cell (p := ⟨b, o + k * 7 + 1, none⟩) hb
        have c2 := hb1.cell (p := ⟨b, o + k * 7 + 2, none⟩) hb
        have c3 := hb1.cell (p := ⟨b, o + k * 7 + 3, none⟩) hb
        have c4 := hb1.cell (p := ⟨b, o + k * 7 + 4, none⟩) hb
        have c5 := hb1.cell (p := ⟨b, o + k * 7 + 5, none⟩) hb
        have c6 := hb1.cell (p := ⟨b, o + k * 7 + 6, none⟩) hb
        rw [a0] at c0
        rw [a1] at c1
        rw [a2] at c2
        rw [a3] at c3
        rw [a4] at c4
        rw [a5] at c5
        rw [a6] at c6
        clear hb1 a0 a1 a2 a3 a4 a5 a6
        generalize her : Pl.lineErr (L.take k) L[k] = er at LN
        go_wp2_with fail
        refine LN.out.mono ?_; rintro e w2 ⟨rfl, hnext, hb2⟩
        have hP2 := (hb2.block _ (by omega)).trans HP1.out
        have hF2 := (hb2.block _ (by omega)).trans HF1.out
        have BF := Lib.hid (HB1.out.trans (hb2.mono (by omega)))
        by_cases h0 : er = 0
        · have hO' := Lib.hid (show Pl.Ok (L.take (k + 1)) by rw [TK.out]; exact HO.out.snoc (her.trans h0))
          have hW' := Lib.hid (show WorkAt 82 39 41 w2 (w.heap.size + 2) (L.take (k + 1)) by rw [TK.out]; exact hnext h0)
          have HP2 := Lib.hid hP2
          have HF2 := Lib.hid hF2
          subst h0
          clear hnext hb2 hP2 hF2 her c0 c1 c2 c3 c4 c5 c6
          go_wp2_with fail
          go_roundw
          case rel => exact ⟨k + 1, by omega, by go_num, hO'.out, hW'.out, HP2.out, HF2.out, BF.out⟩
          case measure => simp [intOf]; omega
        · have hcn : (er != 0) = true := by rw [bne_iff_ne]; exact h0
          have P := Lib.hid (build_line_at hlt HO.out her h0)
          obtain ⟨⟨p0, p1, p2, p3, p4, p5⟩, ⟨f0, f1, f2, f3, f4, f5⟩, gp⟩ := row6 hP2
          obtain ⟨⟨q0, q1⟩, ⟨e0, e1⟩, gq⟩ := row2f hF2
          clear hnext hb2 hP2 hF2 her c0 c1 c2 c3 c4 c5 c6
          go_wp2_with fail
          refine bodyPost_ret ?_ rfl (PlanGives.bad _ _ P.out rfl ?_)
          · simp [results, Try.results15, go_sem, *]
          · (repeat (with_reducible refine Below.setCell ?_ (by first | exact Nat.le_refl _ | exact Nat.le_succ _) _)); exact BF.out
    · obtain rfl : k = L.length := by omega
      rw [List.take_of_length_le (Nat.le_refl _)] at hO hW
      have HO := Lib.hid hO
      have HW := Lib.hid hW
      have HP := Lib.hid hP
      have HFt := Lib.hid hFt
      have HB := Lib.hid hbel
      clear hO hW hP hFt hbel
      go_wp2_with fail
      go_loopw [7] (fun v wr => ∃ k : Nat, k ≤ L.length ∧ v = .int .i64 k ∧ (∀ j < k, Pl.lackAt L j = 0) ∧ WorkAt 82 39 41 wr (w.heap.size + 2) L ∧ wr.heap[w.heap.size]? = some (.cells #[.int .i64 0, .int .i64 0, .int .i64 0, .int .i64 0, .slice none 0 0, .slice none 0 0] 25 (0, 0)) ∧ wr.heap[w.heap.size + 1]? = some (.cells #[.int .i64 0, .int .i64 0] 55 (0, 0)) ∧ Below w.heap.size w wr) (fun v _ => L.length - (intOf v).toNat)
      case atStart => exact ⟨0, Nat.zero_le _, rfl, fun j hj => absurd hj (Nat.not_lt_zero j), HW.out, HP.out, HFt.out, HB.out⟩
      case round =>
        clear HW HP HFt HB
        obtain ⟨k, hk, rfl, hj, hW, hP, hFt, hbel⟩ := hrel
        by_cases hlt : k < L.length
        · obtain ⟨b, o, rfl, hb, i7⟩ := (HI.out.below rfl hbel).at hlt
          obtain ⟨a0, a1, a2, a3, a4, a5, a6⟩ := i7.cells
          clear i7
          have LK := Lib.hid (rpLacks_any (w.heap.size + 2) L L[k] _ hW HO.out (List.getElem_mem hlt))
          have HJ := Lib.hid hj
          have HW := Lib.hid hW
          have HP := Lib.hid hP
          have HFt := Lib.hid hFt
          have HB := Lib.hid hbel
          have hz := hbel.size
          have hgz := (Array.getElem?_eq_some_iff.1 hP).1
          have hgf := (Array.getElem?_eq_some_iff.1 hFt).1
          clear hj hW hP hFt hbel
          unfold LackGives at LK
          generalize her : Pl.lackErr L L[k] = er at LK
          go_wp2_with fail
          refine LK.out.mono ?_; rintro e w2 ⟨rfl, hb2⟩
          have hP2 := (hb2.block _ hgz).trans HP.out
          have hF2 := (hb2.block _ hgf).trans HFt.out
          have BF := Lib.hid (HB.out.trans (hb2.mono hz))
          by_cases h0 : er = 0
          · have HJ' := Lib.hid (show ∀ j < k + 1, Pl.lackAt L j = 0 from fun j hj => by
              rcases Nat.lt_succ_iff_lt_or_eq.1 hj with h | rfl
              · exact HJ.out j h
              · rw [lackAt_eq hlt]; exact her.trans h0)
            have HW' := Lib.hid (WorkL.below HW.out hb2)
            have HP2 := Lib.hid hP2
            have HF2 := Lib.hid hF2
            subst h0
            clear hb2 hP2 hF2 her a0 a1 a2 a3 a4 a5 a6
            go_wp2_with fail
            go_roundw
            case rel => exact ⟨k + 1, by omega, by go_num, HJ'.out, HW'.out, HP2.out, HF2.out, BF.out⟩
            case measure => simp [intOf]; omega
          · have hcn : (er != 0) = true := by rw [bne_iff_ne]; exact h0
            have P := Lib.hid (build_lack_at hlt HO.out her h0 HJ.out)
            obtain ⟨⟨p0, p1, p2, p3, p4, p5⟩, ⟨f0, f1, f2, f3, f4, f5⟩, gp⟩ := row6 hP2
            obtain ⟨⟨q0, q1⟩, ⟨e0, e1⟩, gq⟩ := row2f hF2
            clear hb2 hP2 hF2 her a0 a1 a2 a3 a4 a5 a6
            go_wp2_with fail
            refine bodyPost_ret ?_ rfl (PlanGives.bad _ _ P.out rfl ?_)
            · simp [results, Try.results15, go_sem, *]
            · (repeat (with_reducible refine Below.setCell ?_ (by first | exact Nat.le_refl _ | exact Nat.le_succ _) _)); exact BF.out
        · obtain rfl : k = L.length := by omega
          have P := Lib.hid (build_all HO.out hj)
          obtain ⟨vS, vG, h1, h2, h3, h4⟩ := hW
          obtain ⟨-, AS, cS, rfl, -, hRS⟩ := Lies.Row.of_own h2
          obtain ⟨-, AG, cG, rfl, -, hRG⟩ := Lies.Row.of_own h3
          obtain ⟨⟨n0, n1, n2, n3, n4, n5⟩, -, hfz, hgw⟩ := work_row h1
          have SC := Lib.hid (HSr.out L wr AS AG cS cG HO.out hRS hRG)
          have hz := hbel.size
          have HB := Lib.hid hbel
          have HP := Lib.hid hP
          have HFt := Lib.hid hFt
          clear h1 h2 h3 h4 hRS hRG hfz hj hP hFt hbel
          go_wp2_with fail
          refine SC.out.mono ?_; rintro e w2 ⟨A1, c1, A2, c2, l1, l2, rfl, r1, r2, n1', n2', hb2⟩
          obtain ⟨⟨p0, p1, p2, p3, p4, p5⟩, ⟨f0, f1, f2, f3, f4, f5⟩, gp⟩ := row6 (stay_row HP.out hb2)
          obtain ⟨⟨q0, q1⟩, ⟨e0, e1⟩, gq⟩ := row2f (stay_row HFt.out hb2)
          have BF := Lib.hid (HB.out.trans (hb2.mono hz))
          have N1 := Lib.hid (show ∀ a, A1 = some a → w.heap.size + 1 < a.block from fun a ha => Nat.lt_of_lt_of_le (by omega) (n1' a ha))
          have N2 := Lib.hid (show ∀ a, A2 = some a → w.heap.size + 1 < a.block from fun a ha => Nat.lt_of_lt_of_le (by omega) (n2' a ha))
          have R1 := Lib.hid r1
          have R2 := Lib.hid r2
          clear r1 r2 hb2 n1' n2'
          go_wp2_with fail
          refine bodyPost_ret ?_ rfl (PlanGives.from (A := A1) (A' := A2) P.out l1 l2 rfl ?_ ?_ ?_)
          · simp [results, Try.results15, go_sem, *]
          · (repeat (refine row_far ?_ _ _ (fun a ha => by have := N1.out a ha; simp only; omega))); exact R1.out
          · (repeat (refine row_far ?_ _ _ (fun a ha => by have := N2.out a ha; simp only; omega))); exact R2.out
          · (repeat (with_reducible refine Below.setCell ?_ (by first | exact Nat.le_refl _ | exact Nat.le_succ _) _)); exact BF.out
end Go.Proofs.Ytgajdfecajleiaa
/-
  The walks of the program's layer 5: sections and signals in order of their names; copies of them.
-/
namespace Go.Proofs.Ytgajdfecajleiaa
open Go.RowKit

/-- Block b holds these from its beginning on, and they may be written. -/
def RowF {α : Type} (E : Lies α) (w : World) (b : Nat) (L : List α) : Prop := b < w.heap.size ∧ ∀ (k : Nat) (y : α), L[k]? = some y → ∀ (j : Nat) (v : Value), (E.enc y)[j]? = some v → w.cell? ⟨b, k * E.m + j, none⟩ = some v ∧ w.frozen? ⟨b, k * E.m + j, none⟩ = false
/-- Nothing below the world's end changes but one block. -/
def But (B : Option Nat) (w w' : World) : Prop := (∀ b, b < w.heap.size → B ≠ some b → w'.heap[b]? = w.heap[b]?) ∧ w.heap.size ≤ w'.heap.size ∧ w'.os = w.os ∧ w'.tape = w.tape ∧ w'.output = w.output
theorem But.below {b : Nat} {B : Option Nat} {w w1 w2 : World} (h : Below b w w1) (h2 : But B w1 w2) (hb : b ≤ w1.heap.size) (hB : ∀ k, B = some k → b ≤ k) : Below b w w2 :=
  h.trans ⟨h2.2.2.1, h2.2.2.2.1, h2.2.2.2.2, h2.2.1, fun k hk => h2.1 k (by omega) (fun e => by have := hB k e; omega)⟩
theorem RowF.row {α : Type} {E : Lies α} {w : World} {b : Nat} {L : List α} (h : RowF E w b L) : E.Row w (some ⟨b, 0, none⟩) L := .inr ⟨b, 0, rfl, h.1, fun k y hk j v hv => by rw [Nat.zero_add]; exact (h.2 k y hk j v hv).1⟩
theorem cell_same {w w' : World} {b : Nat} (h : w'.heap[b]? = w.heap[b]?) (o : Nat) : w'.cell? ⟨b, o, none⟩ = w.cell? ⟨b, o, none⟩ ∧ w'.frozen? ⟨b, o, none⟩ = w.frozen? ⟨b, o, none⟩ := by
  constructor
  · exact World.cell?_of_block (a := ⟨b, o, none⟩) h
  · unfold World.frozen?
    simp only [h]
theorem RowF.same {α : Type} {E : Lies α} {w w' : World} {b : Nat} {L : List α} (h : RowF E w b L) (hb : w'.heap[b]? = w.heap[b]?) : RowF E w' b L := by
  refine ⟨?_, fun k y hk j v hv => ?_⟩
  · have h1 := h.1
    rw [Array.getElem?_eq_getElem h1] at hb
    exact (Array.getElem?_eq_some_iff.1 hb).1
  · rw [(cell_same hb _).1, (cell_same hb _).2]; exact h.2 k y hk j v hv
theorem RowF.own {α : Type} {E : Lies α} {w : World} {base : Nat} {e : TypeId} {g cap n : Nat} {L : List α} (h : w.ownsRow base e E.m (.slice (some ⟨g, 0, none⟩) n cap) n (E.all L)) : RowF E w g L := by
  refine ⟨(h.lt g rfl).2, fun k y hk j v hv => ⟨?_, h.frozenAt _⟩⟩
  exact Lies.own_on h hk j v hv
/-- One cell of one is written. -/
theorem RowF.set {α : Type} {E : Lies α} {w : World} {b : Nat} {L : List α} (h : RowF E w b L) {k j : Nat} {x y : α} (hx : L[k]? = some x) (hj : j < E.m) (u : Value) (hu : (E.enc x).set j u = E.enc y) : RowF E (w.setCell ⟨b, k * E.m + j, none⟩ u) b (L.set k y) := by
  have hkl := (List.getElem?_eq_some_iff.1 hx).1
  have hm : ∀ (a c i l : Nat), i < E.m → l < E.m → a * E.m + i = c * E.m + l → a = c ∧ i = l := fun a c i l hi hl he => by
    have h1 : (a * E.m + i) / E.m = a := by rw [Nat.mul_comm, Nat.mul_add_div E.pos, Nat.div_eq_of_lt hi, Nat.add_zero]
    have h2 : (c * E.m + l) / E.m = c := by rw [Nat.mul_comm, Nat.mul_add_div E.pos, Nat.div_eq_of_lt hl, Nat.add_zero]
    have : a = c := by rw [← h1, ← h2, he]
    subst this
    exact ⟨rfl, by omega⟩
  refine ⟨by simpa using h.1, fun i z hi l v hv => ?_⟩
  have hll : l < E.m := by
    have := (List.getElem?_eq_some_iff.1 hv).1
    rwa [E.len] at this
  have hf : ∀ o, (w.setCell ⟨b, k * E.m + j, none⟩ u).frozen? ⟨b, o, none⟩ = w.frozen? ⟨b, o, none⟩ := fun o => by simp
  by_cases hik : i = k
  · subst hik
    rw [List.getElem?_set_self hkl] at hi
    cases hi
    rw [← hu] at hv
    by_cases hlj : l = j
    · subst hlj
      rw [List.getElem?_set_self (by rw [E.len]; exact hj)] at hv
      cases hv
      have h0 := h.2 i x hx l ((E.enc x)[l]'(by rw [E.len]; exact hj)) (List.getElem?_eq_getElem _)
      refine ⟨?_, by rw [hf]; exact h0.2⟩
      exact World.cell?_setCell_same w _ u h0.1
    · rw [List.getElem?_set_ne (Ne.symm hlj)] at hv
      have h0 := h.2 i x hx l v hv
      exact ⟨(World.cell?_setCell_other w _ _ u (fun he => by have := congrArg Addr.off he; simp only at this; omega)).trans h0.1, by rw [hf]; exact h0.2⟩
  · rw [List.getElem?_set_ne (Ne.symm hik)] at hi
    have h0 := h.2 i z hi l v hv
    have hne : i * E.m + l ≠ k * E.m + j := fun he => hik (hm i k l j hll hj he).1
    exact ⟨(World.cell?_setCell_other w _ _ u (fun he => by have := congrArg Addr.off he; simp only at this; omega)).trans h0.1, by rw [hf]; exact h0.2⟩
end Go.Proofs.Ytgajdfecajleiaa
/-
  The walks of the program's layer 5: sections and signals put in order of their names, and copied.
-/
namespace Go.Proofs.Ytgajdfecajleiaa
open Go.RowKit

section
open Go.Sort

end
/-- What a copy is. -/
def CloneGives {α : Type} (E : Lies α) (L : List α) (w : World) (e : Ending) (w' : World) : Prop :=
  ∃ A c, e = .returned (.slice A L.length c) ∧ L.length ≤ c ∧ (L = [] ∨ ∃ b, A = some ⟨b, 0, none⟩ ∧ RowF E w' b L) ∧ (∀ a, A = some a → w.heap.size ≤ a.block) ∧ Below w.heap.size w w'
theorem CloneGives.of_own {α : Type} {E : Lies α} {L : List α} {w w' : World} {e : TypeId} {v : Value} (h : w'.ownsRow w.heap.size e E.m v L.length (E.all L)) (hb : Below w.heap.size w w') : CloneGives E L w (.returned v) w' := by
  rcases h.2 with ⟨rfl, h0⟩ | ⟨g, cap, cur, rfl, hg, hh, hc, hr⟩
  · have : L.length = 0 := h0
    exact ⟨none, 0, by rw [this], by omega, .inl (List.eq_nil_of_length_eq_zero this), fun a ha => (by cases ha), hb⟩
  · exact ⟨_, cap, rfl, hc, .inr ⟨g, rfl, RowF.own h⟩, fun a ha => by cases ha; exact hg, hb⟩
end Go.Proofs.Ytgajdfecajleiaa
/-
  The walk of the program's layer 5: a draft's plan.
-/
namespace Go.Proofs.Ytgajdfecajleiaa
open Go.RowKit

abbrev planZ : Obj := .cells #[.int .i64 0, .int .i64 0, .int .i64 0, .int .i64 0, .slice none 0 0, .slice none 0 0] 25
theorem set6_other {W : World} {B b : Nat} {v0 v1 v2 v3 v4 v5 : Value} (h : b ≠ B) :
    ((((((W.setCell ⟨B, 0, none⟩ v0).setCell ⟨B, 1, none⟩ v1).setCell ⟨B, 2, none⟩ v2).setCell ⟨B, 3, none⟩ v3).setCell ⟨B, 4, none⟩ v4).setCell ⟨B, 5, none⟩ v5).heap[b]? = W.heap[b]? := by
  rw [heap_setCell_other _ _ _ _ (by simpa using h), heap_setCell_other _ _ _ _ (by simpa using h), heap_setCell_other _ _ _ _ (by simpa using h), heap_setCell_other _ _ _ _ (by simpa using h), heap_setCell_other _ _ _ _ (by simpa using h), heap_setCell_other _ _ _ _ (by simpa using h)]
end Go.Proofs.Ytgajdfecajleiaa
/-
  A plan that is given: in memory; and the walks of layer 5 that give a plan's lines: an end by its names, a section's line.
-/
namespace Go.Proofs.Ytgajdfecajleiaa
open Go.RowKit

abbrev planV (p : Pl.Plan) (A : Option Addr) (c : Nat) (A' : Option Addr) (c' : Nat) : Value := .agg #[.int .i64 p.ov, .int .i64 p.ap, .int .i64 p.se, .int .i64 p.ho, .slice A p.secs.length c, .slice A' p.sigs.length c']
abbrev planO (p : Pl.Plan) (A : Option Addr) (c : Nat) (A' : Option Addr) (c' : Nat) : Obj := .cells #[.int .i64 p.ov, .int .i64 p.ap, .int .i64 p.se, .int .i64 p.ho, .slice A p.secs.length c, .slice A' p.sigs.length c'] 25
def PlanIn (w : World) (p : Pl.Plan) (A A' : Option Addr) : Prop := LSec.Row w A p.secs ∧ LSig.Row w A' p.sigs
theorem PlanIn.below {w w' : World} {p : Pl.Plan} {A A' : Option Addr} (h : PlanIn w p A A') (hb : Below w.heap.size w w') : PlanIn w' p A A' := ⟨h.1.below rfl hb, h.2.below rfl hb⟩
/-- A section of the plan, out of memory. -/
theorem sec_cells {w : World} {A : Option Addr} {L : List Pl.Sec} (h : LSec.Row w A L) {i : Nat} {s : Pl.Sec} (hs : L[i]? = some s) : ∃ b o, A = some ⟨b, o, none⟩ ∧ b < w.heap.size ∧ LSec.On w b (o + i * 12) s := by
  obtain ⟨hi, rfl⟩ := List.getElem?_eq_some_iff.1 hs
  exact h.at hi
end Go.Proofs.Ytgajdfecajleiaa
/-
  Plain mathematics of layer 5: a plan's lines as loops over sections and their three ends find them. No program is named here.
-/
namespace Go.Proofs.Ytgajdfecajleiaa.Pl
open Go It

/-- A plan of which every end and every signal leads where a section is. -/
structure Fit (p : Plan) : Prop where
  ends : ∀ (i : Nat) (s : Sec), p.secs[i]? = some s → ∀ e, e < 3 → -1 ≤ (s.get e).goes ∧ (s.get e).goes < p.secs.length ∧ (0 ≤ (s.get e).goes → 0 ≤ (s.get e).at_ ∧ (s.get e).at_ ≤ 2)
  plain : ∀ (i : Nat) (s : Sec), p.secs[i]? = some s → s.pt = false → (s.get 2).goes = -1
  sigs : ∀ (i : Nat) (g : Sig), p.sigs[i]? = some g → 0 ≤ g.sec ∧ g.sec < p.secs.length ∧ 0 ≤ g.en ∧ g.en ≤ 2
  few : p.secs.length ≤ 24
  gfew : p.sigs.length ≤ 12
theorem fit_fin {L : List Itm} (hL : Ok L) (hS : Shut L) : Fit (fin L) where
  ends i s hs e he := by
    rcases end_cases hL hS hs he with h | ⟨_, -, -, -, -, -, h1, -, -⟩ | ⟨_, j, f, t, -, -, -, -, hj, hf, h1, h2, -⟩
    · rw [h]
      refine ⟨by decide, ?_, fun h0 => absurd h0 (by decide)⟩
      have := (List.getElem?_eq_some_iff.1 hs).1
      show (-1 : Int) < _
      omega
    · refine ⟨by omega, ?_, fun h0 => by omega⟩
      have := (List.getElem?_eq_some_iff.1 hs).1
      omega
    · have := (List.getElem?_eq_some_iff.1 hj).1
      exact ⟨by omega, by omega, fun _ => ⟨by omega, by omega⟩⟩
  plain i s hs hp := by
    show s.e2.goes = -1
    rw [plain_end hL hs hp]; rfl
  sigs i g hg := by
    obtain ⟨j, f, t, hj, hf, h1, h2, -⟩ := sig_cases hL hg
    have := (List.getElem?_eq_some_iff.1 hj).1
    exact ⟨by omega, by omega, by omega, by omega⟩
  few := by rw [secs_len]; exact hL.few
  gfew := by rw [sigs_len]; exact hL.gfew
theorem enP_at {p : Plan} {i : Nat} {s : Sec} (h : p.secs[i]? = some s) (e : Nat) : enP p (i, e) = s.get e := by unfold enP; rw [h]; rfl
end Go.Proofs.Ytgajdfecajleiaa.Pl
/-
  What a plan's lines are gathered in; and the walk of layer 5 that gives the numbers' lines.
-/
namespace Go.Proofs.Ytgajdfecajleiaa
open Go.RowKit

theorem own_mono {w : World} {base base' : Nat} {e : TypeId} {size : Nat} {v : Value} {n : Nat} {xs : List Value} (h : w.ownsRow base e size v n xs) (hb : base' ≤ base) : w.ownsRow base' e size v n xs := by
  refine ⟨h.1, ?_⟩
  rcases h.2 with hn | ⟨g, cap, cur, rfl, hbb, rest⟩
  · exact .inl hn
  · exact .inr ⟨g, cap, cur, rfl, Nat.le_trans hb hbb, rest⟩
/-- A box, and lines of the call's own. -/
def ItSt (w wr : World) (O : Obj) (v : Value) (X : List It.Itm) : Prop :=
  Below w.heap.size w wr ∧ wr.heap[w.heap.size]? = some O ∧ wr.ownsRow (w.heap.size + 1) 76 7 v X.length (cellsL X)
theorem ItSt.start {w wr : World} {O : Obj} (h1 : Below w.heap.size w wr) (h2 : wr.heap[w.heap.size]? = some O) : ItSt w wr O (.slice none 0 0) [] := ⟨h1, h2, World.ownsRow_nil _ _ _ _⟩
theorem ItSt.lt {w wr : World} {O : Obj} {v : Value} {X : List It.Itm} (h : ItSt w wr O v X) : w.heap.size < wr.heap.size := (Array.getElem?_eq_some_iff.1 h.2.1).1
theorem ItSt.below {w wr w2 : World} {O : Obj} {v : Value} {X : List It.Itm} (h : ItSt w wr O v X) (hb : Below wr.heap.size wr w2) : ItSt w w2 O v X :=
  ⟨h.1.trans (hb.mono h.1.size), (hb.block _ h.lt).trans h.2.1, ownsRow_below h.2.2 hb⟩
theorem ItSt.grown {w wr w2 : World} {O : Obj} {v v' : Value} {X Y : List It.Itm} (h : ItSt w wr O v X) (ho : w2.ownsRow (w.heap.size + 1) 76 7 v' (X.length + Y.length) (cellsL X ++ cellsL Y)) (hg : wr.grownBy w2 v.ownBlock) : ItSt w w2 O v' (X ++ Y) := by
  have hl := h.lt
  refine ⟨h.1.grown hg (Nat.le_of_lt hl) (fun k hk => by have := (h.2.2.lt k hk).1; omega), ?_, ?_⟩
  · rw [hg.block _ hl (fun e => by have := (h.2.2.lt _ e.symm).1; omega)]; exact h.2.1
  · rw [List.length_append, cellsL_append]; exact ho
theorem ItSt.snoc {w wr w2 : World} {O : Obj} {v v' : Value} {X : List It.Itm} {y : It.Itm} (h : ItSt w wr O v X) (ho : w2.ownsRow (w.heap.size + 1) 76 7 v' (X.length + 1) (cellsL X ++ cells7 y)) (hg : wr.grownBy w2 v.ownBlock) : ItSt w w2 O v' (X ++ [y]) := by
  refine h.grown (Y := [y]) ?_ hg
  rw [cellsL_one]; exact ho
end Go.Proofs.Ytgajdfecajleiaa
/-
  The walk of layer 5 that gives the buffer stops' lines.
-/
namespace Go.Proofs.Ytgajdfecajleiaa
open Go.RowKit

/-- A block of another type isn't the lines' own. -/
theorem ItSt.ne {w wr : World} {O : Obj} {v : Value} {X : List It.Itm} (h : ItSt w wr O v X) {g : Nat} {cs : Array Value} {t : TypeId} (hg : wr.heap[g]? = some (.cells cs t (0, 0))) (ht : t ≠ 76) : some g ≠ v.ownBlock := fun he => by
  rcases h.2.2.2 with ⟨rfl, -⟩ | ⟨b, cap, cur, rfl, -, hb, -⟩
  · cases he
  · have : g = b := by simpa [Value.ownBlock] using he
    subst this
    rw [hg] at hb
    simp only [Option.some.injEq, Obj.cells.injEq] at hb
    exact ht hb.2.1
end Go.Proofs.Ytgajdfecajleiaa
/-
  The walk of layer 5 that gives a plan's lines.
-/
namespace Go.Proofs.Ytgajdfecajleiaa
open Go.RowKit

theorem ItSt.more {w wr w2 : World} {O : Obj} {v v' : Value} {X Y : List It.Itm} (h : ItSt w wr O v X) (ho : w2.ownsRow (w.heap.size + 1) 76 7 v' (X.length + Y.length) (cellsL X ++ cellsL Y)) (hg : wr.grownBy w2 v.ownBlock) : ItSt w w2 O v' (X ++ Y) := h.grown ho hg
end Go.Proofs.Ytgajdfecajleiaa
/-
  Layer 5's statements: what their own helpers give: short, built, fault.
-/
namespace Go.Proofs.Ytgajdfecajleiaa
open Go.RowKit

theorem tip_le8 (a : List UInt8) : (It.tip a).n.length ≤ 8 := by
  unfold It.tip
  split
  · rename_i h
    unfold It.tipOk at h
    simp only [Bool.and_eq_true] at h
    exact (fig_len h.2).2
  · simp [It.Tp.zero]
theorem parseK_le8 {k : Int} {T : List (List UInt8)} {y : It.Itm} (h : It.parseK k T = some y) : ItemLe 8 y := by
  unfold It.parseK at h
  split at h
  · split at h
    · split at h
      · rename_i d hp
        cases h
        have := parseN_le hp
        have := most_le k
        exact ⟨by simp, by show Fig.parseN d (It.most k) ≤ _; omega, by simp [It.Tp.zero], by simp [It.Tp.zero]⟩
      · cases h
    · cases h
  · split at h
    · split at h
      · split at h
        · rename_i m d hp
          cases h
          simp only [Bool.and_eq_true] at hp
          exact ⟨(fig_len hp.1.1).2, parseN_le hp.1.2, by simp [It.Tp.zero], by simp [It.Tp.zero]⟩
        · cases h
      · cases h
    · split at h
      · split at h
        · split at h
          · rename_i a b hp
            cases h
            exact ⟨by simp, by simp, tip_le8 a, tip_le8 b⟩
          · cases h
        · cases h
      · split at h
        · split at h
          · split at h
            · rename_i a hp
              cases h
              exact ⟨by simp, by simp, tip_le8 a, by simp [It.Tp.zero]⟩
            · cases h
          · cases h
        · split at h
          · split at h
            · split at h
              · rename_i m a hp
                cases h
                simp only [Bool.and_eq_true] at hp
                exact ⟨(fig_len hp.1).2, by simp, tip_le8 a, by simp [It.Tp.zero]⟩
              · cases h
            · cases h
          · cases h
theorem parse_le8 {l : List UInt8} {y : It.Itm} (h : It.parse l = some y) : ItemLe 8 y := by
  unfold It.parse at h
  split at h
  · cases hW : Ln.words l with
    | nil => rw [hW] at h; cases h
    | cons x T => rw [hW] at h; exact parseK_le8 h
  · cases h
theorem right_le8 {y : It.Itm} (h : It.right y = true) : ItemLe 8 y ∧ 0 ≤ y.n := by
  rw [It.right, Bool.and_eq_true, decide_eq_true_iff, decide_eq_true_iff] at h
  exact ⟨parse_le8 h.2, h.1⟩
theorem right_parsed {l : List UInt8} {y : It.Itm} (h : It.parse l = some y) : It.right y = true := by
  obtain ⟨h1, h2⟩ := It.print_parse num_back l y h
  rw [It.right, Bool.and_eq_true, decide_eq_true_iff, decide_eq_true_iff, h1]
  exact ⟨h2, h⟩
theorem ItemLe.fits {y : It.Itm} (h : ItemLe 8 y) : FitsR y := by
  obtain ⟨h1, h2, h3, h4⟩ := h
  exact ⟨by omega, by omega, by omega, by omega⟩
/-- A text's items: each may be an item. -/
theorem sheet_right (l : List UInt8) : ∀ y ∈ (Sh.parse l).1, It.right y = true := by
  cases hb : Sh.bad (Ln.whole l) (Ln.split l) with
  | some k => rw [Sh.parse_some hb]; intro y hy; cases hy
  | none =>
    rw [Sh.parse_none hb]
    intro y hy
    obtain ⟨x, _, h⟩ := List.mem_filterMap.1 hy
    exact right_parsed h
theorem sheet_few (l : List UInt8) : (Sh.parse l).1.length ≤ l.length + 1 := by
  cases hb : Sh.bad (Ln.whole l) (Ln.split l) with
  | some k => rw [Sh.parse_some hb]; simp
  | none =>
    rw [Sh.parse_none hb]
    exact Nat.le_trans (Sh.items_le _) (Sh.split_le l).2
theorem sheet_ways (l : List UInt8) : Sh.parse l = ((Sh.parse l).1, 0) ∨ ∃ k, Sh.parse l = ([], k + 1) := by
  cases hb : Sh.bad (Ln.whole l) (Ln.split l) with
  | some k => exact .inr ⟨k, Sh.parse_some hb⟩
  | none => left; rw [Sh.parse_none hb]
namespace Pl
/-- The station of a text. -/
def builtP (l : List UInt8) : Plan × Int × Nat := if (Sh.parse l).2 = 0 then build (Sh.parse l).1 else (Plan.zero, 2, (Sh.parse l).2)
end Pl
theorem row_same {α : Type} {E : Lies α} {w w' : World} {A : Option Addr} {L : List α} (h : E.Row w A L) (hsz : w.heap.size ≤ w'.heap.size) (hk : L ≠ [] → ∀ b o, A = some ⟨b, o, none⟩ → w'.heap[b]? = w.heap[b]?) : E.Row w' A L := by
  by_cases h0 : L = []
  · exact .inl h0
  rcases h with h | ⟨b, o, hA, hlt, h⟩
  · exact .inl h
  · exact .inr ⟨b, o, hA, by omega, fun k y hy j v hv => by rw [World.cell?_of_block (hk h0 b o hA)]; exact h k y hy j v hv⟩
/-- Sections, or signals, don't lie where no text lies. -/
theorem row_not {α : Type} {E : Lies α} (hE : ∀ y, ∃ s, (E.enc y)[0]? = some (.string s)) {w : World} {A : Option Addr} {L : List α} (h : E.Row w A L) (h0 : L ≠ []) {b o : Nat} (hA : A = some ⟨b, o, none⟩) {B : Nat} {cs : Array Value} {t : TypeId} (hB : w.heap[B]? = some (.cells cs t (0, 0))) (hs : ∀ (j : Nat) (s : ByteArray), cs[j]? ≠ some (.string s)) : b ≠ B := fun he => by
  subst he
  rcases h with h | ⟨b', o', hA', hlt, h⟩
  · exact h0 h
  · rw [hA] at hA'
    cases hA'
    cases L with
    | nil => exact h0 rfl
    | cons y L =>
      obtain ⟨s, hs'⟩ := hE y
      have := h 0 y rfl 0 _ hs'
      rw [cell_of_row _ _ _ _ _ _ hB] at this
      exact hs _ s this
theorem sec_text (y : Pl.Sec) : ∃ s, (LSec.enc y)[0]? = some (.string s) := ⟨_, rfl⟩
theorem sig_text (y : Pl.Sig) : ∃ s, (LSig.enc y)[0]? = some (.string s) := ⟨_, rfl⟩
theorem no_text6 {a b c d : Int} {A A' : Option Addr} {n n' m m' : Nat} (j : Nat) (s : ByteArray) : (#[Value.int .i64 a, .int .i64 b, .int .i64 c, .int .i64 d, .slice A n m, .slice A' n' m'])[j]? ≠ some (.string s) := by
  rcases j with _ | _ | _ | _ | _ | _ | j <;> simp
abbrev faultZ : Obj := .cells #[.int .i64 0, .int .i64 0] 55
/-- What Parse leaves of a text that is parsed; and of one that isn't. -/
def SheetYes (L : List It.Itm) (w : World) (e : Ending) (w' : World) : Prop :=
  ∃ A c, L.length ≤ c ∧ e = .returned (.tuple #[.slice A L.length c, .agg #[.int .i64 0, .int .i64 0]]) ∧ Its w' A L ∧ Below w.heap.size w w'
def SheetNay (k : Nat) (w : World) (e : Ending) (w' : World) : Prop :=
  ∃ A c, e = .returned (.tuple #[.slice A 0 c, .agg #[.int .i64 2, .int .i64 ((k : Int) + 1)]]) ∧ Below w.heap.size w w'
theorem sheet_yes {s : ByteArray} {L : List It.Itm} (h : Sh.parse s.data.toList = (L, 0)) (hs : s.size ≤ 1000000) (w : World) : Calls Try.prog 14 #[.string s] w (SheetYes L w) :=
  (rsparse_any s w hs).mono fun e w' g => by
    rw [h] at g
    exact g
theorem sheet_nay {s : ByteArray} {k : Nat} (h : Sh.parse s.data.toList = ([], k + 1)) (hs : s.size ≤ 1000000) (w : World) : Calls Try.prog 14 #[.string s] w (SheetNay k w) :=
  (rsparse_any s w hs).mono fun e w' g => by
    rw [h] at g
    obtain ⟨A, c, _, he, _, hb⟩ := g
    exact ⟨A, c, by rw [he, faultV, if_neg (by simp)]; rfl, hb⟩
end Go.Proofs.Ytgajdfecajleiaa
/-
  Sections, signals and faults of layer 5, held against each other by == and !=.
-/
namespace Go.Proofs.Ytgajdfecajleiaa
open Go.RowKit

abbrev endV (x : Pl.En) : Value := .agg #[.int .i64 x.goes, .int .i64 x.at_, .int .i64 x.sig]
end Go.Proofs.Ytgajdfecajleiaa
/-
  The walk of layer 5's awake: the document's examples come out as they should.
-/
namespace Go.Proofs.Ytgajdfecajleiaa
open Go.RowKit

theorem builtP_fit {l : List UInt8} {p : Pl.Plan} (h : Pl.builtP l = (p, 0, 0)) : Pl.Fit p ∧ ∃ L, Pl.Ok L ∧ Pl.Shut L ∧ p = Pl.fin L := by
  unfold Pl.builtP at h
  split at h
  · obtain ⟨h1, h2, h3⟩ := Pl.build_zero (L := (Sh.parse l).1) (by rw [h])
    rw [h3] at h
    obtain rfl : Pl.fin (Sh.parse l).1 = p := congrArg Prod.fst h
    exact ⟨Pl.fit_fin h1 h2, _, h1, h2, rfl⟩
  · have := congrArg (fun x => x.2.1) h
    simp at this
end Go.Proofs.Ytgajdfecajleiaa
