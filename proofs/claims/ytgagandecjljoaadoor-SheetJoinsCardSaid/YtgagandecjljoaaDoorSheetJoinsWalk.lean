/-
  The walk of the law SheetJoins: it returns true.
-/
import Derived.Test.YtgagandecjljoaaDoorSheetTellsWalk
import Derived.Deep.AppendSrc
import Derived.BigFrame
namespace Go.Proofs.YtgagandecjljoaaDoor
open Go.RowKit

/-- The library's law on append, of items that lie anywhere (none, too), onto a slice of the call's own, at an operation whose guard says yes. -/
theorem wpList_append_its {P : Program} (w : World) {ops : Array Oper} {rest : List Oper} {o : Oper} {a : Act} {Q : Exit → Act → World → Prop} (hw : Region.wanted o (yielded ops a.tmps) = true) (s x : Operand) (t : TypeId)
    (ho : o.op = .call { callee := .builtin .append, args := #[s, x], argTypes := #[t, t] })
    (base : Nat) (e : TypeId) (i : TypeInfo) (z : Value) (ht : P.underlying t = some (.slice e)) (hi : P.info? e = some i) (hz : i.zero = some z)
    (hsize : i.size = 7) (hby : i.bytes = 80) (hzs : z.cells.size = 7)
    (g n cap : Nat) (xs : List Value) (hs : a.eval s = .slice (some ⟨g, 0, none⟩) n cap) (hown : w.ownsRow base e 7 (.slice (some ⟨g, 0, none⟩) n cap) n xs)
    (A : Option Addr) (c m : Nat) (L : List It.Itm) (hm : L.length = m) (hx : a.eval x = .slice A m c) (hI : Its w A L) (hn : n + m ≤ 1000000000) (hbase : base ≤ w.heap.size)
    (h : ∀ g' cap' w', w'.ownsRow base e 7 (.slice (some ⟨g', 0, none⟩) (n + m) cap') (n + m) (xs ++ cellsL L) → w.grownBy w' (some g) → wpList P ops Q rest (a.put o.dst (.slice (some ⟨g', 0, none⟩) (n + m) cap')) w') : wpList P ops Q (o :: rest) a w := by
  subst hm
  by_cases hL : L = []
  · subst hL
    have hcap : n ≤ cap := by
      rcases hown.2 with ⟨h, _⟩ | ⟨g', cap', cur, h, _, _, hc, _⟩
      · cases h
      · cases h; exact hc
    refine BigFrame.wpList_want hw fun _ hK => ?_
    have src : Src P i.size t (.slice A 0 c) 0 [] w := by
      cases A with
      | none => exact Src.ofNil w ht c
      | some ad => exact Src.ofSlice w ht ad 0 c [] (by simp) (fun j u hu => by simp at hu) (fun u hu => by cases hu)
    have hr := run_append_room_src (P := P) w t t o.type e i ht hi g 0 n cap (.slice A 0 c) 0 [] src (by omega) (fun j hj => absurd hj (by simp)) (fun j hj => absurd hj (by simp))
    unfold Oper.wp execOp
    rw [List.length_nil] at hx
    simp only [ho, resolve, invoke, builtin, Sem.run_bind, Sem.run_pure, Result.andThen_ok, List.map_toArray, List.map_cons, List.map_nil, hs, hx, hr]
    have hK' := hK _ _ (h g cap w (by simpa [cellsL] using hown) ⟨rfl, rfl, rfl, Nat.le_refl _, fun _ _ _ => rfl⟩)
    exact hK'
  · rcases hI with hI | ⟨b, off, rfl, _, hI⟩
    · exact absurd hI hL
    have hlen : 0 < L.length := List.length_pos_iff.2 hL
    exact BigFrame.wpList_want hw fun _ hK => wp_append_lies w s x t ho base e i z 7 80 ht hi hz hsize hby hzs (by omega) _ n xs hs hown ⟨b, off, none⟩ L.length c (cellsL L) hx (cellsL_length L) (Its.news hI) (cellsL_one' L) hlen (by unfold maxLen; omega) (by omega) hbase _ rfl
      fun g' cap' w' h2 h3 _ _ => hK _ _ (h g' cap' w' h2 h3)
theorem sheet_le2 (l : List UInt8) : (Sh.parse l).2 ≤ l.length + 1 := by
  cases hb : Sh.bad (Ln.whole l) (Ln.split l) with
  | none => rw [Sh.parse_none hb]; simp
  | some k =>
    rw [Sh.parse_some hb]
    have := (Sh.bad_some hb).1
    have := (Sh.split_le l).2
    show k + 1 ≤ _
    omega
theorem sheet_no {l : List UInt8} (h : (Sh.parse l).2 ≠ 0) : Sh.parse l = ([], (Sh.parse l).2) := by
  cases hb : Sh.bad (Ln.whole l) (Ln.split l) with
  | none => rw [Sh.parse_none hb] at h; exact absurd rfl h
  | some k => rw [Sh.parse_some hb]
set_option maxHeartbeats 8000000 in
set_option maxRecDepth 100000 in
theorem sheetJoins_walk (s t : ByteArray) (W : World) (ws : s.size ≤ maxLen) (wt : t.size ≤ maxLen) (hE : Env W) :
    Calls Tryd.prog 6 #[.string s, .string t] W fun e w' => e = .returned (.bool true) ∧ Below W.heap.size W w' := by
  unfold maxLen at ws wt
  obtain ⟨i0, hi, hz0, hz1, hz2⟩ := info_parts infoItem
  have AW := Lib.hid sawake_any
  have HE := Lib.hid hE
  clear hE
  by_cases hlong : 500 < s.size ∨ 500 < t.size
  · have h1 : decide (500 < (s.size : Int)) = true ∨ (decide (500 < (s.size : Int)) = false ∧ decide (500 < (t.size : Int)) = true) := by
      by_cases h : 500 < s.size
      · exact Or.inl (dec_t (by omega))
      · exact Or.inr ⟨dec_f (by omega), dec_t (by omega)⟩
    clear hlong
    rcases h1 with h1 | ⟨h1, h2⟩
    all_goals
      go_enter Tryd.func6, Tryd.ntmps6
      go_wp2_with fail
      refine (AW.out _ HE.out).mono ?_; rintro e w1 ⟨rfl, hb1⟩
      go_wp2
      go_ret
      exact ⟨rfl, hb1⟩
  · have h1 : decide (500 < (s.size : Int)) = false := dec_f (by omega)
    have h2 : decide (500 < (t.size : Int)) = false := dec_f (by omega)
    have h3 : s.size + t.size ≤ 9223372036854775807 := by omega
    have hsz : (s ++ t).size = s.size + t.size := by simp
    have hdt : (s ++ t).data.toList = s.data.toList ++ t.data.toList := by simp
    have e1 : s.data.toList.length = s.size := by simp
    have e2 : t.data.toList.length = t.size := by simp
    have l1 := sheet_le s.data.toList
    have l2 := sheet_le t.data.toList
    have l3 := sheet_le2 t.data.toList
    have J := Sh.parse_append s.data.toList t.data.toList
    rw [← hdt] at J
    by_cases hp : (Sh.parse s.data.toList).2 = 0
    · have hps : Sh.parse s.data.toList = ((Sh.parse s.data.toList).1, 0) := by rw [← hp]
      have J' := J hp
      have S1 := Lib.hid (sparse_ok (s := s) hps rfl (by omega))
      obtain ⟨P, hP⟩ : ∃ P, (Sh.parse s.data.toList).1 = P := ⟨_, rfl⟩
      rw [hP] at S1 l1 J'
      have hPl : P.length ≤ 1000 := by omega
      by_cases hq : (Sh.parse t.data.toList).2 = 0
      · have hqs : Sh.parse t.data.toList = ((Sh.parse t.data.toList).1, 0) := by rw [← hq]
        rw [if_pos hq] at J'
        have S2 := Lib.hid (sparse_ok (s := t) hqs rfl (by omega))
        have S3 := Lib.hid (sparse_ok (s := s ++ t) J' rfl (by omega))
        obtain ⟨R, hR⟩ : ∃ R, (Sh.parse t.data.toList).1 = R := ⟨_, rfl⟩
        rw [hR] at S2 S3 l2
        have hRl : R.length ≤ 1000 := by omega
        have Q := fun W => (bin_fault W 0 0 0 0).trans (by rw [show ((0 : Int) == 0 && (0 : Int) == 0) = true by rfl])
        have SM := Lib.hid (fun A B c d w hA hB => (isame_any A B c d (P ++ R) (P ++ R) w hA hB (by rw [List.length_append]; omega) (by rw [List.length_append]; omega)).mono fun e w' (h : e = .returned (.bool (decide (P ++ R = P ++ R))) ∧ _) => (show e = .returned (.bool true) ∧ Below w.heap.size w w' by rw [decide_eq_true rfl] at h; exact h))
        rw [List.length_append] at S3
        rw [List.length_append] at SM
        clear hlong hsz hdt e1 e2 l1 l2 l3 J J' hp hps hP hq hqs hR
        go_enter Tryd.func6, Tryd.ntmps6
        go_wp2_with fail
        refine (S1.out _ HE.out).mono ?_; rintro e w1 ⟨A1, c1, _, rfl, i1, hb1⟩
        have X1 := (Below.refl w1.heap.size w1).alloc (Nat.le_refl _) (.cells #[.int .i64 0, .int .i64 0] 27)
        have H1 := Lib.hid ((HE.out.below rfl hb1).below rfl X1)
        have I11 := Lib.hid (i1.below rfl X1)
        have B1 := Lib.hid (hb1.trans (X1.mono hb1.size))
        clear hb1 X1 i1
        go_wp2_with fail
        refine (S2.out _ H1.out).mono ?_; rintro e w2 ⟨A2, c2, _, rfl, i2, hb2⟩
        have X2 := (Below.refl w2.heap.size w2).alloc (Nat.le_refl _) (.cells #[.int .i64 0, .int .i64 0] 27)
        have H2 := Lib.hid ((H1.out.below rfl hb2).below rfl X2)
        have I12 := Lib.hid ((I11.out.below rfl hb2).below rfl X2)
        have I22 := Lib.hid (i2.below rfl X2)
        have B2' := B1.out.trans (hb2.mono B1.out.size)
        have B2 := Lib.hid (B2'.trans (X2.mono B2'.size))
        have R12 := Lib.hid (fresh_row hb2)
        clear hb2 X2 B2'
        go_wp2_with fail
        refine (S3.out _ H2.out).mono ?_; rintro e w3 ⟨A3, c3, _, rfl, i3, hb3⟩
        have X3 := (Below.refl w3.heap.size w3).alloc (Nat.le_refl _) (.cells #[.int .i64 0, .int .i64 0] 27)
        have H3 := Lib.hid ((H2.out.below rfl hb3).below rfl X3)
        have I13 := Lib.hid ((I12.out.below rfl hb3).below rfl X3)
        have I23 := Lib.hid ((I22.out.below rfl hb3).below rfl X3)
        have I33 := Lib.hid (i3.below rfl X3)
        have B3' := B2.out.trans (hb3.mono B2.out.size)
        have B3 := Lib.hid (B3'.trans (X3.mono B3'.size))
        obtain ⟨⟨p0, p1⟩, _⟩ := row2 (keep_row R12.out hb3)
        obtain ⟨⟨q0, q1⟩, _⟩ := row2 (fresh_row hb3)
        have np := World.new_ne _ _ p0
        have nq := World.new_ne _ _ q0
        have R13 := Lib.hid (keep_row R12.out hb3)
        have R23 := Lib.hid (fresh_row hb3)
        have Y1 := Lib.hid (show (w3.alloc (.cells #[.int .i64 0, .int .i64 0] 27)).heap[w1.heap.size]? = some (Obj.cells #[.int .i64 0, .int .i64 0] 27) from stay_row R13.out X3)
        have Y2 := Lib.hid (show (w3.alloc (.cells #[.int .i64 0, .int .i64 0] 27)).heap[w2.heap.size]? = some (Obj.cells #[.int .i64 0, .int .i64 0] 27) from stay_row R23.out X3)
        clear hb3 X3 B3'
        go_wp2_with fail
        refine (AW.out _ H3.out).mono ?_; rintro e w4 ⟨rfl, hb4⟩
        have I14 := Lib.hid (I13.out.below rfl hb4)
        have I24 := Lib.hid (I23.out.below rfl hb4)
        have I34 := Lib.hid (I33.out.below rfl hb4)
        have B4 := Lib.hid (B3.out.trans (hb4.mono B3.out.size))
        clear p0 p1 q0 q1 np nq
        obtain ⟨⟨q0, q1⟩, _⟩ := row2 (stay_row Y2.out hb4)
        obtain ⟨⟨r0, r1⟩, _⟩ := row2 (fresh_row hb4)
        clear hb4
        have X5 := (Below.refl w4.heap.size w4).alloc (Nat.le_refl _) (.cells #[] 38)
        have I5 := Lib.hid (I14.out.below rfl X5)
        have O0 := Lib.hid (World.ownsRow_lit (base := w4.heap.size) (e := 38) (size := 7) w4 #[] 0 (Nat.le_refl _) (by unfold maxLen; omega) rfl)
        have hB0 := Lib.hid X5
        clear X5
        go_wp2_with (first
          | (at_builtin; refine wpList_append_its _ rfl (.tmp 68) (.tmp 69) 22 rfl w4.heap.size 38 i0 _ Tryd.underlying22 hi hz0 hz1 hz2 rfl w4.heap.size 0 0 [] rfl O0.out A1 c1 P.length P rfl rfl I5.out (by omega) (by simp) ?_; intro g1 cap1 w5 hown1 hg1; rw [Nat.zero_add, List.nil_append] at hown1; have hb5 := Lib.hid (hB0.out.grown hg1 (by simp) (fun g hg => by cases hg; exact Nat.le_refl _)); have I25 := Lib.hid (I24.out.below rfl hb5.out); have O1 := Lib.hid hown1; clear hown1 hg1)
          | (at_builtin; refine wpList_append_its _ rfl (.tmp 70) (.tmp 71) 22 rfl w4.heap.size 38 i0 _ Tryd.underlying22 hi hz0 hz1 hz2 rfl g1 _ cap1 _ rfl O1.out A2 c2 R.length R rfl rfl I25.out (by omega) hb5.out.size ?_; intro g2 cap2 w6 hown2 hg2; have hb6 := Lib.hid (hb5.out.grown hg2 hb5.out.size (fun g hg => by cases hg; exact (O1.out.lt g1 rfl).1)); have O2 := Lib.hid hown2; clear hown2 hg2))
        obtain ⟨_, A4, c4, hv2, _, its4⟩ := Its.of_own (L := P ++ R) (by rw [cellsL_append]; exact O2.out)
        have e4 : A4 = some ⟨g2, 0, none⟩ := by cases hv2; rfl
        subst e4
        have SM' := Lib.hid (SM.out A3 (some ⟨g2, 0, none⟩) c3 cap2 w6 (I34.out.below rfl hb6.out) its4)
        have B6 := Lib.hid (B4.out.trans (hb6.out.mono B4.out.size))
        clear its4 hv2
        refine SM'.out.mono ?_; rintro e w7 ⟨rfl, hb7⟩
        dsimp only
        go_wp2
        go_ret
        exact ⟨rfl, B6.out.trans (hb7.mono B6.out.size)⟩
      · rw [if_neg hq] at J'
        have S2 := Lib.hid (sparse_no (s := t) (sheet_no hq) hq (by omega))
        have S3 := Lib.hid (sparse_no (s := s ++ t) J' (by omega) (by omega))
        obtain ⟨r, hr⟩ : ∃ r, (Sh.parse t.data.toList).2 = r := ⟨_, rfl⟩
        rw [hr] at S2 S3 l3
        have hrl : r ≤ 1000 := by omega
        have Q := fun W => (bin_fault W 2 ((P.length + r : Nat) : Int) 2 ((P.length : Int) + r)).trans (by rw [show ((2 : Int) == 2 && ((P.length + r : Nat) : Int) == (P.length : Int) + r) = true by simp])
        clear hlong hsz hdt e1 e2 l1 l2 l3 J J' hp hps hP hq hr
        go_enter Tryd.func6, Tryd.ntmps6
        go_wp2_with fail
        refine (S1.out _ HE.out).mono ?_; rintro e w1 ⟨A1, c1, _, rfl, i1, hb1⟩
        have X1 := (Below.refl w1.heap.size w1).alloc (Nat.le_refl _) (.cells #[.int .i64 0, .int .i64 0] 27)
        have H1 := Lib.hid ((HE.out.below rfl hb1).below rfl X1)
        have I11 := Lib.hid (i1.below rfl X1)
        have B1 := Lib.hid (hb1.trans (X1.mono hb1.size))
        clear hb1 X1 i1
        go_wp2_with fail
        refine (S2.out _ H1.out).mono ?_; rintro e w2 ⟨A2, c2, rfl, hb2⟩
        have X2 := (Below.refl w2.heap.size w2).alloc (Nat.le_refl _) (.cells #[.int .i64 2, .int .i64 r] 27)
        have H2 := Lib.hid ((H1.out.below rfl hb2).below rfl X2)
        have I12 := Lib.hid ((I11.out.below rfl hb2).below rfl X2)
        have B2' := B1.out.trans (hb2.mono B1.out.size)
        have B2 := Lib.hid (B2'.trans (X2.mono B2'.size))
        have R12 := Lib.hid (fresh_row hb2)
        clear hb2 X2 B2'
        go_wp2_with fail
        refine (S3.out _ H2.out).mono ?_; rintro e w3 ⟨A3, c3, rfl, hb3⟩
        have X3 := (Below.refl w3.heap.size w3).alloc (Nat.le_refl _) (.cells #[.int .i64 2, .int .i64 (P.length + r : Nat)] 27)
        have H3 := Lib.hid ((H2.out.below rfl hb3).below rfl X3)
        have I13 := Lib.hid ((I12.out.below rfl hb3).below rfl X3)
        have B3' := B2.out.trans (hb3.mono B2.out.size)
        have B3 := Lib.hid (B3'.trans (X3.mono B3'.size))
        obtain ⟨⟨p0, p1⟩, _⟩ := row2 (keep_row R12.out hb3)
        obtain ⟨⟨q0, q1⟩, _⟩ := row2 (fresh_row hb3)
        have np := World.new_ne _ _ p0
        have nq := World.new_ne _ _ q0
        have R13 := Lib.hid (keep_row R12.out hb3)
        have R23 := Lib.hid (fresh_row hb3)
        have Y1 := Lib.hid (show (w3.alloc (.cells #[.int .i64 2, .int .i64 (P.length + r : Nat)] 27)).heap[w1.heap.size]? = some (Obj.cells #[.int .i64 0, .int .i64 0] 27) from stay_row R13.out X3)
        have Y2 := Lib.hid (show (w3.alloc (.cells #[.int .i64 2, .int .i64 (P.length + r : Nat)] 27)).heap[w2.heap.size]? = some (Obj.cells #[.int .i64 2, .int .i64 r] 27) from stay_row R23.out X3)
        clear hb3 X3 B3'
        go_wp2_with fail
        refine (AW.out _ H3.out).mono ?_; rintro e w4 ⟨rfl, hb4⟩
        have I14 := Lib.hid (I13.out.below rfl hb4)
        have B4 := Lib.hid (B3.out.trans (hb4.mono B3.out.size))
        clear p0 p1 q0 q1 np nq
        obtain ⟨⟨q0, q1⟩, _⟩ := row2 (stay_row Y2.out hb4)
        obtain ⟨⟨r0, r1⟩, _⟩ := row2 (fresh_row hb4)
        clear hb4
        go_wp2_with fail
        go_ret
        exact ⟨rfl, B4.out⟩
    · have S1 := Lib.hid (sparse_no (s := s) (sheet_no hp) hp (by omega))
      have S2 := Lib.hid (fun w hE => (sparse_any t w hE (by omega)).mono fun _ _ g => g.written)
      have S3 := Lib.hid (fun w hE => (sparse_any (s ++ t) w hE (by omega)).mono fun _ _ g => g.written)
      obtain ⟨m, hm⟩ : ∃ m, (Sh.parse s.data.toList).2 = m := ⟨_, rfl⟩
      obtain ⟨q, hq⟩ : ∃ q, Sh.parse t.data.toList = q := ⟨_, rfl⟩
      obtain ⟨r, hr⟩ : ∃ r, Sh.parse (s ++ t).data.toList = r := ⟨_, rfl⟩
      rw [hm] at S1
      rw [hq] at S2
      rw [hr] at S3
      clear hlong hsz hdt e1 e2 l1 l2 l3 J hp hm hq hr
      go_enter Tryd.func6, Tryd.ntmps6
      go_wp2_with fail
      refine (S1.out _ HE.out).mono ?_; rintro e w1 ⟨A1, c1, rfl, hb1⟩
      have X1 := (Below.refl w1.heap.size w1).alloc (Nat.le_refl _) (.cells #[.int .i64 2, .int .i64 m] 27)
      have H1 := Lib.hid ((HE.out.below rfl hb1).below rfl X1)
      have B1 := Lib.hid (hb1.trans (X1.mono hb1.size))
      clear hb1 X1
      go_wp2_with fail
      refine (S2.out _ H1.out).mono ?_; rintro e w2 ⟨A2, c2, rfl, _, hb2⟩
      have X2 := (Below.refl w2.heap.size w2).alloc (Nat.le_refl _) (.cells #[.int .i64 (exF q.2), .int .i64 q.2] 27)
      have H2 := Lib.hid ((H1.out.below rfl hb2).below rfl X2)
      have B2' := B1.out.trans (hb2.mono B1.out.size)
      have B2 := Lib.hid (B2'.trans (X2.mono B2'.size))
      have R12 := Lib.hid (fresh_row hb2)
      clear hb2 X2 B2'
      go_wp2_with fail
      refine (S3.out _ H2.out).mono ?_; rintro e w3 ⟨A3, c3, rfl, _, hb3⟩
      have X3 := (Below.refl w3.heap.size w3).alloc (Nat.le_refl _) (.cells #[.int .i64 (exF r.2), .int .i64 r.2] 27)
      have H3 := Lib.hid ((H2.out.below rfl hb3).below rfl X3)
      have B3' := B2.out.trans (hb3.mono B2.out.size)
      have B3 := Lib.hid (B3'.trans (X3.mono B3'.size))
      obtain ⟨⟨p0, p1⟩, _⟩ := row2 (keep_row R12.out hb3)
      have np := World.new_ne _ _ p0
      clear hb3 X3 B3'
      go_wp2_with fail
      refine (AW.out _ H3.out).mono ?_; rintro e w4 ⟨rfl, hb4⟩
      go_wp2_with fail
      go_ret
      exact ⟨rfl, B3.out.trans (hb4.mono B3.out.size)⟩
end Go.Proofs.YtgagandecjljoaaDoor

