/-
  Texts of this claim, merged: WkMet, WalkApartWalk.
-/
import Derived.Test.YtgbeebjbmbikiaaMg15
import Derived.Test.YtgbeebjbmbikiaaMg17
/-
  Plain mathematics of layer 6: the ends that ends lead to, as they are met. No program is named here.
-/
namespace Go.Proofs.Ytgbeebjbmbikiaa.Wk
open Go Pl

def nx (p : Plan) (a : Nat × Nat) : Nat × Nat := ((next p a.1 a.2).1.toNat, (next p a.1 a.2).2.1.toNat)
def led (p : Plan) (a : Nat × Nat) : Bool := (next p a.1 a.2).2.2
/-- The ends ahead of section i's end e. -/
def pairsTo (i e : Nat) : List (Nat × Nat) := ((List.range i).flatMap fun s => (List.range 3).map fun f => (s, f)) ++ (List.range e).map fun f => (i, f)
def metTo (p : Plan) (i e : Nat) : List (Nat × Nat) := ((pairsTo i e).filter (led p)).map (nx p)
theorem pairs_end (i : Nat) : pairsTo i 3 = pairsTo (i + 1) 0 := by
  unfold pairsTo
  rw [List.range_succ (n := i), List.flatMap_append]
  simp
theorem pairs_next (i e : Nat) : pairsTo i (e + 1) = pairsTo i e ++ [(i, e)] := by
  unfold pairsTo
  rw [List.range_succ (n := e), List.map_append, ← List.append_assoc]
  rfl
theorem mem_pairs {i e s f : Nat} : (s, f) ∈ pairsTo i e ↔ (s < i ∧ f < 3) ∨ (s = i ∧ f < e) := by
  unfold pairsTo
  simp only [List.mem_append, List.mem_flatMap, List.mem_map, List.mem_range, Prod.mk.injEq]
  constructor
  · rintro (⟨a, ha, b, hb, rfl, rfl⟩ | ⟨b, hb, rfl, rfl⟩)
    · exact .inl ⟨ha, hb⟩
    · exact .inr ⟨rfl, hb⟩
  · rintro (⟨h1, h2⟩ | ⟨rfl, h2⟩)
    · exact .inl ⟨s, h1, f, h2, rfl, rfl⟩
    · exact .inr ⟨f, h2, rfl, rfl⟩
theorem pairs_nodup : ∀ i e : Nat, (pairsTo i 0).Nodup → (pairsTo i e).Nodup
  | _, 0, h => h
  | i, e + 1, h => by
    rw [pairs_next, List.nodup_append]
    refine ⟨pairs_nodup i e h, by simp, fun a ha b hb => ?_⟩
    rw [List.mem_singleton] at hb
    subst hb
    rintro rfl
    have := mem_pairs.1 ha
    omega
theorem pairs_nodup0 : ∀ i : Nat, (pairsTo i 0).Nodup
  | 0 => .nil
  | i + 1 => by rw [← pairs_end]; exact pairs_nodup i 3 (pairs_nodup0 i)
theorem met_in {p : Plan} {i e : Nat} (h : led p (i, e) = true) : metTo p i (e + 1) = metTo p i e ++ [nx p (i, e)] := by
  unfold metTo
  rw [pairs_next, List.filter_append, List.map_append]
  simp [h]
theorem met_out {p : Plan} {i e : Nat} (h : led p (i, e) = false) : metTo p i (e + 1) = metTo p i e := by
  unfold metTo
  rw [pairs_next, List.filter_append, List.map_append]
  simp [h]
theorem met_end (p : Plan) (i : Nat) : metTo p i 3 = metTo p (i + 1) 0 := by unfold metTo; rw [pairs_end]
theorem pairs_len : ∀ i e : Nat, (pairsTo i e).length = 3 * i + e := by
  intro i e
  unfold pairsTo
  rw [List.length_append, List.length_map, List.length_range]
  have : ∀ n : Nat, ((List.range n).flatMap fun s => (List.range 3).map fun f => (s, f)).length = 3 * n := by
    intro n
    induction n with
    | zero => rfl
    | succ n ih =>
      rw [List.range_succ (n := n), List.flatMap_append, List.length_append, ih]
      simp
      omega
  rw [this]
theorem met_len (p : Plan) (i e : Nat) : (metTo p i e).length ≤ 3 * i + e := by
  unfold metTo
  rw [List.length_map]
  have := List.length_filter_le (led p) (pairsTo i e)
  rw [pairs_len] at this
  exact this
section
variable {L : List It.Itm} (hL : Pl.Ok L) (hS : Pl.Shut L)
include hL hS
theorem led_ways {a : Nat × Nat} (h : led (fin L) a = true) : nx (fin L) a ∈ endsP (fin L) ∧ led (fin L) (nx (fin L) a) = true ∧ nx (fin L) (nx (fin L) a) = a ∧ nx (fin L) a ≠ a := by
  obtain ⟨i, e⟩ := a
  rcases next_ways hL hS i e with ⟨h1, -⟩ | ⟨-, b, hb, h1, h2, hne⟩
  · unfold led at h
    rw [h1] at h
    cases h
  · have e1 : nx (fin L) (i, e) = b := by unfold nx; rw [h1]; rfl
    have e2 : nx (fin L) b = (i, e) := by unfold nx; rw [h2]; rfl
    rw [e1, e2]
    exact ⟨hb, by unfold led; rw [h2], rfl, hne⟩
/-- What is led to now hasn't been met. -/
theorem met_new {i e : Nat} (h : led (fin L) (i, e) = true) : nx (fin L) (i, e) ∉ metTo (fin L) i e := fun hm => by
  obtain ⟨a, ha, h1⟩ := List.mem_map.1 hm
  obtain ⟨ha, hl⟩ := List.mem_filter.1 ha
  have h2 := (led_ways hL hS hl).2.2.1
  rw [h1, (led_ways hL hS h).2.2.1] at h2
  rw [← h2] at ha
  have := mem_pairs.1 ha
  omega
/-- In the end an even number has been met. -/
theorem met_even : (metTo (fin L) (fin L).secs.length 0).length % 2 = 0 := by
  unfold metTo
  rw [List.length_map]
  refine even_pairs (nx (fin L)) _ _ (Nat.le_refl _) ((pairs_nodup0 _).filter _) fun a ha => ?_
  obtain ⟨ha, hl⟩ := List.mem_filter.1 ha
  obtain ⟨h1, h2, h3, h4⟩ := led_ways hL hS hl
  refine ⟨List.mem_filter.2 ⟨?_, h2⟩, h3, h4⟩
  generalize nx (fin L) a = b at h1
  obtain ⟨j, f⟩ := b
  obtain ⟨s, hs, hf⟩ := mem_ends.1 h1
  exact mem_pairs.2 (.inl ⟨(List.getElem?_eq_some_iff.1 hs).1, Nat.lt_of_lt_of_le hf nEnds_le⟩)
end
end Go.Proofs.Ytgbeebjbmbikiaa.Wk
/-
  The walk of the law WalkApart: it returns true.
-/
namespace Go.Proofs.Ytgbeebjbmbikiaa
open Go.RowKit

def LPr : Lies (Nat × Nat) := ⟨2, by decide, fun a => [.int .i64 a.1, .int .i64 a.2], fun _ => rfl, fun y u hu => by
  simp at hu
  rcases hu with rfl | rfl <;> rfl⟩
theorem infoPair : (Try.prog.info? 48).map (fun i => (i.zero, i.size, i.bytes)) = some (some (.agg #[.int .i64 0, .int .i64 0]), 2, 16) := by kernel_rfl
/-- Pairs of the call's own, behind a world that stands. -/
def OwnP (w5 wr : World) (v : Value) (X : List (Nat × Nat)) : Prop := Below w5.heap.size w5 wr ∧ wr.ownsRow w5.heap.size 48 2 v X.length (LPr.all X)
theorem OwnP.nil (w : World) : OwnP w w (.slice none 0 0) [] := ⟨Below.refl _ _, World.ownsRow_nil _ _ _ _⟩
theorem OwnP.below {w5 wr w2 : World} {v : Value} {X : List (Nat × Nat)} (h : OwnP w5 wr v X) (hb : Below wr.heap.size wr w2) : OwnP w5 w2 v X := ⟨h.1.trans (hb.mono h.1.size), ownsRow_below h.2 hb⟩
theorem OwnP.behind {w5 wr w2 : World} {v v' : Value} {X : List (Nat × Nat)} {y : Nat × Nat} (h : OwnP w5 wr v X) (ho : w2.ownsRow w5.heap.size 48 2 v' (X.length + 1) (LPr.all X ++ LPr.all [y])) (hg : wr.grownBy w2 v.ownBlock) : OwnP w5 w2 v' (X ++ [y]) :=
  ⟨h.1.grown hg h.1.size (fun k hk => (h.2.lt k hk).1), by rw [List.length_append, List.length_singleton, Lies.all_append]; exact ho⟩
theorem OwnP.row {w5 wr : World} {v : Value} {X : List (Nat × Nat)} (h : OwnP w5 wr v X) : ∃ A c, v = .slice A X.length c ∧ LPr.Row wr A X := by
  obtain ⟨-, A, c, hv, -, hI⟩ := Lies.Row.of_own (E := LPr) h.2
  exact ⟨A, c, hv, hI⟩
theorem pr_on {w : World} {b o : Nat} {g : Nat × Nat} (h : LPr.On w b o g) : w.cell? ⟨b, o, none⟩ = some (.int .i64 g.1) ∧ w.cell? ⟨b, o + 1, none⟩ = some (.int .i64 g.2) :=
  ⟨h 0 _ rfl, h 1 _ rfl⟩
theorem new_pair (W : World) (t f : Nat) : LPr.Row (W.alloc (.cells #[.int .i64 t, .int .i64 f] 48)) (some ⟨W.heap.size, 0, none⟩) [(t, f)] := Lies.Row.fresh (E := LPr) W [(t, f)] 48
set_option maxHeartbeats 8000000 in
set_option maxRecDepth 100000 in
theorem walkApart_walk (s : ByteArray) (W : World) (_ws : s.size ≤ maxLen) :
    Calls Try.prog 6 #[.string s] W (OneIs (.bool true) W) := by
  have AW := Lib.hid wkAwake_any
  cases hm : madeP s.data.toList with
  | none =>
    have CM := Lib.hid (fun W => made_none hm W)
    clear hm
    go_enter Try.func6, Try.ntmps6
    go_wp2_with fail
    refine (CM.out _).mono ?_; rintro e w1 ⟨p, S, cS, G, cG, rfl, hb1⟩
    have B1 := Lib.hid (hb1.alloc hb1.size (planO p S cS G cG))
    clear hb1
    go_wp2_with fail
    refine (AW.out _).mono ?_; rintro e w2 ⟨rfl, hb2⟩
    go_wp2
    go_ret
    exact ⟨rfl, B1.out.trans (hb2.mono B1.out.size)⟩
  | some p =>
    have CM := Lib.hid (fun W => made_some hm W)
    obtain ⟨hfit, L, hO, hS, hp⟩ := madeP_some hm
    have hfew := hfit.few
    have WY := Lib.hid (Wk.next_ways hO hS)
    have MN := Lib.hid (fun (i e : Nat) h => Wk.met_new hO hS (i := i) (e := e) h)
    have ME := Wk.met_even hO hS
    rw [← hp] at WY MN ME
    obtain ⟨i0, hi, hz0, hz1, hz2⟩ := info_parts infoPair
    clear hm hfit hO hS hp
    go_enter Try.func6, Try.ntmps6
    go_wp2_with fail
    refine (CM.out _).mono ?_; rintro e w1 ⟨S, cS, G, cG, rfl, pin, hb1⟩
    have X1 := (Below.refl w1.heap.size w1).alloc (Nat.le_refl _) (planO p S cS G cG)
    have B5 := Lib.hid (hb1.trans (X1.mono hb1.size))
    have I5 := Lib.hid (pin.below X1)
    have RP := Lib.hid (heap_alloc_new w1 (planO p S cS G cG))
    have gx := (Array.getElem?_eq_some_iff.1 RP.out).1
    clear hb1 X1 pin CM
    go_wp2_with fail
    generalize w1.alloc (planO p S cS G cG) = w5 at B5 I5 RP gx ⊢
    have KP := Lib.hid (fun W' (hW : Below w5.heap.size w5 W') => (row6 ((hW.block _ gx).trans RP.out)).1)
    clear gx RP
    go_loopw [5, 6] (fun v i wr => ∃ k : Nat, k ≤ p.secs.length ∧ i = .int .i64 k ∧ OwnP w5 wr v (Wk.metTo p k 0)) (fun _ i _ => p.secs.length - (intOf i).toNat)
    case atStart => exact ⟨0, Nat.zero_le _, rfl, OwnP.nil w5⟩
    case round =>
      obtain ⟨k, hk, rfl, hB⟩ := hrel
      have HB := Lib.hid hB
      clear hB
      obtain ⟨p0, p1, p2, p3, p4, p5⟩ := KP.out _ HB.out.1
      by_cases hlt : k < p.secs.length
      · go_wp2_with fail
        clear p0 p1 p2 p3 p4 p5
        go_loopw [5, 7] (fun v i wr => ∃ e : Nat, e ≤ 3 ∧ i = .int .i64 e ∧ OwnP w5 wr v (Wk.metTo p k e)) (fun _ i _ => 3 - (intOf i).toNat)
        case atStart => exact ⟨0, by omega, rfl, HB.out⟩
        case round =>
          clear HB
          obtain ⟨e, he, rfl, hB⟩ := hrel
          have HB := Lib.hid hB
          clear hB
          by_cases he3 : e < 3
          · have d3 : decide ((e : Int) < 3) = true := dec_t (by omega)
            obtain ⟨p0, p1, p2, p3, p4, p5⟩ := KP.out _ HB.out.1
            have CN := Lib.hid (fun W' (hW : Below w5.heap.size w5 W') => pwNext_any p S cS G cG k e W' (I5.out.below hW) hfew)
            have hml := Wk.met_len p k e
            rcases WY.out k e with ⟨hn, hs⟩ | ⟨-, ⟨t, f⟩, -, hn, -⟩
            · have CG := Lib.hid (fun W' (hW : Below w5.heap.size w5 W') => pwSignal_any p S cS G cG k e W' (I5.out.below hW) hfew)
              rw [hn] at CN
              rw [hs] at CG
              have HN := Lib.hid (Wk.met_out (p := p) (i := k) (e := e) (by unfold Wk.led; rw [hn]))
              clear hn hs
              go_wp2_with fail
              refine (CN.out _ HB.out.1).mono ?_; rintro e' w2 ⟨rfl, hb⟩
              have H2 := Lib.hid (HB.out.below hb)
              clear p0 p1 p2 p3 p4 p5 hb
              obtain ⟨p0, p1, p2, p3, p4, p5⟩ := KP.out _ H2.out.1
              go_wp2_with fail
              refine (CG.out _ H2.out.1).mono ?_; rintro e' w3 ⟨rfl, hb⟩
              have H3 := Lib.hid (H2.out.below hb)
              clear p0 p1 p2 p3 p4 p5 hb
              go_wp2_with fail
              go_roundw
              case rel => exact ⟨e + 1, by omega, by go_num, by rw [HN.out]; exact H3.out⟩
              case measure => simp [intOf]; omega
            · rw [hn] at CN
              have hl : Wk.led p (k, e) = true := by unfold Wk.led; rw [hn]
              have enx : Wk.nx p (k, e) = (t, f) := by unfold Wk.nx; rw [hn]; rfl
              have HN := Lib.hid (Wk.met_in hl)
              have HM := Lib.hid (MN.out _ _ hl)
              rw [enx] at HN HM
              clear hn hl enx
              go_wp2_with fail
              refine (CN.out _ HB.out.1).mono ?_; rintro e' w2 ⟨rfl, hb⟩
              have H2 := Lib.hid (HB.out.below hb)
              clear p0 p1 p2 p3 p4 p5 hb HB
              obtain ⟨A, c, hv, hR⟩ := H2.out.row
              have HR := Lib.hid hR
              subst hv
              clear hR
              go_wp2_with fail
              go_loopw [11] (fun i wr => ∃ j : Nat, j ≤ (Wk.metTo p k e).length ∧ i = .int .i64 j ∧ wr = w2) (fun i _ => (Wk.metTo p k e).length - (intOf i).toNat)
              case atStart => exact ⟨0, Nat.zero_le _, rfl, rfl⟩
              case round =>
                obtain ⟨j, hj, rfl, rfl⟩ := hrel
                by_cases hjl : j < (Wk.metTo p k e).length
                · obtain ⟨b, o, rfl, hb, on⟩ := HR.out.at hjl
                  have hx := List.getElem_mem hjl
                  generalize (Wk.metTo p k e)[j] = y at hx on
                  obtain ⟨y1, y2⟩ := y
                  obtain ⟨a0, a1⟩ := pr_on on
                  rw [show j * LPr.m = j * 2 from rfl] at a0 a1
                  have hne : ((y1 : Int) == (t : Int) && (y2 : Int) == (f : Int)) = false := by
                    cases hq : ((y1 : Int) == (t : Int) && (y2 : Int) == (f : Int)) with
                    | false => rfl
                    | true =>
                      rw [Bool.and_eq_true, beq_iff_eq, beq_iff_eq] at hq
                      obtain ⟨q1, q2⟩ := hq
                      obtain rfl : y1 = t := by omega
                      obtain rfl : y2 = f := by omega
                      exact absurd hx HM.out
                  have Q : ∀ W, Sem.run Try.prog (binOp .eql 48 (.agg #[.int .i64 y1, .int .i64 y2]) (.agg #[.int .i64 t, .int .i64 f])) W = .ok (.bool false) W := fun W => by rw [bin_arr2, hne]
                  clear on hx hne
                  go_wp2_with fail
                  go_roundw
                  case rel => exact ⟨j + 1, by omega, by go_num, by trivial⟩
                  case measure => simp [intOf]; omega
                · obtain rfl : j = (Wk.metTo p k e).length := by omega
                  have HX := Lib.hid (H2.out.below ((Below.refl wr.heap.size wr).alloc (Nat.le_refl _) (.cells #[.int .i64 t, .int .i64 f] 48)))
                  have NW := Lib.hid (new_pair wr t f)
                  have hsz := H2.out.1.size
                  go_wp2_with (at_builtin; refine wpList_append_row LPr _ rfl (.tmp 60) (.tmp 64) 47 rfl w5.heap.size 48 i0 _ 16 Try.underlying47 hi hz0 hz1 hz2 rfl _ _ _ rfl HX.out.2 (some ⟨wr.heap.size, 0, none⟩) 1 1 [(t, f)] rfl (by decide) rfl NW.out (by omega) (by omega) (by simp; omega) ?_; intro g1 cap1 w3 hown1 hg1 hb1)
                  have H3 := Lib.hid (HX.out.behind hown1 hg1)
                  clear hown1 hg1 hb1 HX NW
                  go_wp2_with fail
                  go_roundw
                  case rel => exact ⟨e + 1, by omega, by go_num, by rw [HN.out]; exact H3.out⟩
                  case measure => simp [intOf]; omega
          · obtain rfl : e = 3 := by omega
            have H0 := HB.out
            rw [Wk.met_end] at H0
            have HN := Lib.hid H0
            clear H0 HB
            go_wp2_with fail
            go_roundw
            case rel => exact ⟨k + 1, by omega, by go_num, HN.out⟩
            case measure => simp [intOf]; omega
      · obtain rfl : k = p.secs.length := by omega
        obtain ⟨A, c, hv, -⟩ := HB.out.row
        subst hv
        generalize (Wk.metTo p p.secs.length 0).length = n at ME ⊢
        have D : Int.tmod (n : Int) 2 = 0 := by
          rw [Int.tmod_eq_emod_of_nonneg (by omega)]
          omega
        go_wp2_with fail
        refine (AW.out _).mono ?_; rintro e w2 ⟨rfl, hb2⟩
        have B9 := Lib.hid (B5.out.trans ((HB.out.1.trans (hb2.mono HB.out.1.size)).mono B5.out.size))
        clear hb2
        go_wp2
        go_ret
        exact ⟨rfl, B9.out⟩
end Go.Proofs.Ytgbeebjbmbikiaa
