/-
  Texts of this claim, merged: PlanFaultsWalk.
-/
import Derived.Test.YtaheiolbeiofpaaGreatDoorMg24
import Derived.Deep.AppendSrc
/-
  The walk of the law PlanFaults: it returns true.
-/
namespace Go.Proofs.YtaheiolbeiofpaaGreatDoor
open Go.RowKit

/-- The library's law on append, of items that lie anywhere (none, too), onto a slice of the call's own, at an operation whose guard says yes. -/
theorem wpList_append_its {P : Program} (w : World) {ops : Array Oper} {rest : List Oper} {o : Oper} {a : Act} {Q : Exit → Act → World → Prop} (hw : Region.wanted o (yielded ops a.tmps) = true) (s x : Operand) (t : TypeId)
    (ho : o.op = .call { callee := .builtin .append, args := #[s, x], argTypes := #[t, t] })
    (base : Nat) (e : TypeId) (i : TypeInfo) (z : Value) (ht : P.underlying t = some (.slice e)) (hi : P.info? e = some i) (hz : i.zero = some z)
    (hsize : i.size = 7) (hby : i.bytes = 80) (hzs : z.cells.size = 7)
    (g n cap : Nat) (xs : List Value) (hs : a.eval s = .slice (some ⟨g, 0, none⟩) n cap) (hown : w.ownsRow base e 7 (.slice (some ⟨g, 0, none⟩) n cap) n xs)
    (A : Option Addr) (c m : Nat) (L : List It.Itm) (hm : L.length = m) (hx : a.eval x = .slice A m c) (hI : Its w A L) (hn : n + m ≤ 1000000000) (hbase : base ≤ w.heap.size)
    (h : ∀ g' cap' w', w'.ownsRow base e 7 (.slice (some ⟨g', 0, none⟩) (n + m) cap') (n + m) (xs ++ cellsL L) → w.grownBy w' (some g) → wpList P ops Q rest (a.put o.dst (.slice (some ⟨g', 0, none⟩) (n + m) cap')) w') : wpList P ops Q (o :: rest) a w := by
  subst hm
  by_cases hL : L = []
  · subst hL
    have hcap : n ≤ cap := by
      rcases hown.2 with ⟨h, _⟩ | ⟨g', cap', cur, h, _, _, hc, _⟩
      · cases h
      · cases h; exact hc
    refine BigFrame.wpList_want hw fun _ hK => ?_
    have src : Src P i.size t (.slice A 0 c) 0 [] w := by
      cases A with
      | none => exact Src.ofNil w ht c
      | some ad => exact Src.ofSlice w ht ad 0 c [] (by simp) (fun j u hu => by simp at hu) (fun u hu => by cases hu)
    have hr := run_append_room_src (P := P) w t t o.type e i ht hi g 0 n cap (.slice A 0 c) 0 [] src (by omega) (fun j hj => absurd hj (by simp)) (fun j hj => absurd hj (by simp))
    unfold Oper.wp execOp
    rw [List.length_nil] at hx
    simp only [ho, resolve, invoke, builtin, Sem.run_bind, Sem.run_pure, Result.andThen_ok, List.map_toArray, List.map_cons, List.map_nil, hs, hx, hr]
    have hK' := hK _ _ (h g cap w (by simpa [cellsL] using hown) ⟨rfl, rfl, rfl, Nat.le_refl _, fun _ _ _ => rfl⟩)
    exact hK'
  · rcases hI with hI | ⟨b, off, rfl, _, hI⟩
    · exact absurd hI hL
    have hlen : 0 < L.length := List.length_pos_iff.2 hL
    exact BigFrame.wpList_want hw fun _ hK => wp_append_lies w s x t ho base e i z 7 80 ht hi hz hsize hby hzs (by omega) _ n xs hs hown ⟨b, off, none⟩ L.length c (cellsL L) hx (cellsL_length L) (Its.news hI) (cellsL_one' L) hlen (by unfold maxLen; omega) (by omega) hbase _ rfl
      fun g' cap' w' h2 h3 _ _ => hK _ _ (h g' cap' w' h2 h3)
theorem Its.firsts {w : World} {A : Option Addr} {L : List It.Itm} (h : Its w A L) (n : Nat) : Its w A (L.take n) := by
  rcases h with h | ⟨b, o, hA, hlt, h⟩
  · subst h; exact .inl (by simp)
  · exact .inr ⟨b, o, hA, hlt, fun k y hy => h k y (by
      rw [List.getElem?_take] at hy
      split at hy
      · exact hy
      · cases hy)⟩
theorem fault_form {L : List It.Itm} {i : Nat} {x : Int} (hi : i < L.length) (h : Pl.errAt L i = x) : ((x == 2) == !(It.right L[i])) = true := by
  have := Pl.errAt_form hi
  rw [h] at this
  cases hr : It.right L[i] with
  | false => rw [this.2 hr]; rfl
  | true =>
    have hx : (x == 2) = false := by
      rw [beq_eq_false_iff_ne]
      intro h2
      have := this.1 h2
      rw [hr] at this
      cases this
    rw [hx]; rfl
/-- What Build leaves of items that aren't a station. -/
def PlanNil (x : Int) (i : Nat) (w : World) (e : Ending) (w' : World) : Prop :=
  ∃ S cS G cG, e = .returned (.tuple #[.agg #[.int .i64 0, .int .i64 0, .int .i64 0, .int .i64 0, .slice S 0 cS, .slice G 0 cG], .agg #[.int .i64 x, .int .i64 ((i : Int) + 1)]]) ∧ Below w.heap.size w w'
theorem PlanAny.nil {x : Int} {i : Nat} {w w' : World} {e : Ending} (h : PlanAny Pl.Plan.zero x (i + 1) w e w') : PlanNil x i w e w' := by
  obtain ⟨A, c, A', c', he, _, hb⟩ := h
  exact ⟨A, c, A', c', he, hb⟩
abbrev planN (S : Option Addr) (cS : Nat) (G : Option Addr) (cG : Nat) : Obj := .cells #[.int .i64 0, .int .i64 0, .int .i64 0, .int .i64 0, .slice S 0 cS, .slice G 0 cG] 28
abbrev faultN (x : Int) (i : Nat) : Obj := .cells #[.int .i64 x, .int .i64 ((i : Int) + 1)] 31
set_option maxHeartbeats 8000000 in
set_option maxRecDepth 100000 in
theorem planFaults_walk (A : Option Addr) (c n : Nat) (L : List It.Itm) (B : Option Addr) (d m : Nat) (M : List It.Itm) (W : World) (hn : L.length = n) (hI : Its W A L) (hc : n ≤ c) (hl : n ≤ maxLen) (hN : ∀ y ∈ L, y.n ≤ 9223372036854775807) (hm : M.length = m) (hJ : Its W B M) (_hd : m ≤ d) (hk : m ≤ maxLen) (hM : ∀ y ∈ M, y.n ≤ 9223372036854775807) (hE : Env W) :
    Calls Tryz.prog 6 #[.slice A n c, .slice B m d] W fun e w' => e = .returned (.bool true) ∧ Below W.heap.size W w' := by
  subst hn hm
  obtain ⟨i0, hi, hz0, hz1, hz2⟩ := info_parts infoItem
  have AW := Lib.hid pAwake_any
  have SH := Lib.hid (pShort_any A c L W hI hl)
  have SJ := Lib.hid (pShort_any B d M W hJ hk)
  have HE := Lib.hid hE
  have HI := Lib.hid hI
  have HJ := Lib.hid hJ
  clear hE hI hJ
  cases hsh : shortQ L
  · rw [hsh] at SH
    clear hsh
    go_enter Tryz.func6, Tryz.ntmps6
    go_wp2_with fail
    refine SH.out.mono ?_; rintro e w1 ⟨rfl, rfl⟩
    go_wp2_with fail
    refine (AW.out _ HE.out).mono ?_; rintro e w1 ⟨rfl, hb1⟩
    go_wp2
    go_ret
    exact ⟨rfl, hb1⟩
  rw [hsh] at SH
  cases hsj : shortQ M
  · rw [hsj] at SJ
    clear hsh hsj
    go_enter Tryz.func6, Tryz.ntmps6
    go_wp2_with fail
    refine SH.out.mono ?_; rintro e w1 ⟨rfl, rfl⟩
    go_wp2_with fail
    refine SJ.out.mono ?_; rintro e w1 ⟨rfl, rfl⟩
    go_wp2_with fail
    refine (AW.out _ HE.out).mono ?_; rintro e w1 ⟨rfl, hb1⟩
    go_wp2
    go_ret
    exact ⟨rfl, hb1⟩
  rw [hsj] at SJ
  obtain ⟨h80, hf⟩ := shortQ_fits hsh hN
  obtain ⟨k80, hg⟩ := shortQ_fits hsj hM
  have CB := Lib.hid (fun W (hI : Its W A L) hE => pBuild_any pPlan_any A c L W hI (by omega) hf hE)
  have HF := Lib.hid hf
  have HG := Lib.hid hg
  cases hpe : Pl.build L with
  | mk p xm =>
  obtain ⟨x, m⟩ := xm
  rw [hpe] at CB
  clear hsh hsj hf hg hN hM
  by_cases hx : x = 0 ∨ x = 7 ∨ x = 8
  · have hD : ∃ b1 b2 b3 : Bool, (x == 0) = b1 ∧ (x == 7) = b2 ∧ (x == 8) = b3 ∧ (b1 = true ∨ b1 = false ∧ b2 = true ∨ b1 = false ∧ b2 = false ∧ b3 = true) := by
      refine ⟨_, _, _, rfl, rfl, rfl, ?_⟩
      rcases hx with rfl | rfl | rfl
      · exact .inl rfl
      · exact .inr (.inl ⟨rfl, rfl⟩)
      · exact .inr (.inr ⟨rfl, rfl, rfl⟩)
    obtain ⟨b1, b2, b3, D1, D2, D3, hb⟩ := hD
    clear hx hpe
    rcases hb with rfl | ⟨rfl, rfl⟩ | ⟨rfl, rfl, rfl⟩
    all_goals
      go_enter Tryz.func6, Tryz.ntmps6
      go_wp2_with fail
      refine SH.out.mono ?_; rintro e w1 ⟨rfl, rfl⟩
      go_wp2_with fail
      refine SJ.out.mono ?_; rintro e w1 ⟨rfl, rfl⟩
      go_wp2_with fail
      refine (CB.out _ HI.out HE.out).mono ?_; rintro e w1 h1
      obtain ⟨S, cS, G, cG, rfl, pin, hb1⟩ := h1.any
      obtain ⟨RP, RF, X1, XS⟩ := two_blocks w1 (planO p S cS G cG) (.cells #[.int .i64 x, .int .i64 m] 31)
      have B1 := Lib.hid (hb1.trans (X1.mono hb1.size))
      have E1 := Lib.hid (HE.out.below rfl B1.out)
      obtain ⟨⟨t0, t1⟩, gt⟩ := row2c RF
      clear h1 hb1 X1 pin RP RF
      go_wp2_with fail
      refine (AW.out _ E1.out).mono ?_; rintro e w2 ⟨rfl, hb2⟩
      go_wp2
      go_ret
      exact ⟨rfl, B1.out.trans (hb2.mono B1.out.size)⟩
  have x0 : x ≠ 0 := fun h => hx (.inl h)
  have x7 : x ≠ 7 := fun h => hx (.inr (.inl h))
  have x8 : x ≠ 8 := fun h => hx (.inr (.inr h))
  obtain ⟨i, rfl, hiL, rfl, herr, hj⟩ := Pl.build_line hpe x0 x7 x8
  have C1 := Lib.hid (fun W (hI : Its W A L) hE => (CB.out W hI hE).mono fun _ _ h => h.any.nil)
  have C2 := Lib.hid (fun W D e (hI : Its W D (L ++ M)) hE => (show Calls Tryz.prog 10 #[.slice D (L.length + M.length) e] W (PlanNil x i W) from by
    have := pBuild_any pPlan_any D e (L ++ M) W hI (by rw [List.length_append]; omega) (fun y hy => (List.mem_append.1 hy).elim (HF.out y) (HG.out y)) hE
    rw [Pl.build_more hiL herr x0 hj M, List.length_append] at this
    exact this.mono fun _ _ h => h.any.nil))
  have C3 := Lib.hid (fun W (hI : Its W A L) hE => (show Calls Tryz.prog 10 #[.slice A (i + 1) c] W (PlanNil x i W) from by
    have := pBuild_any pPlan_any A c (L.take (i + 1)) W (hI.firsts (i + 1)) (by rw [List.length_take]; omega) (fun y hy => HF.out y (List.mem_of_mem_take hy)) hE
    rw [Pl.build_less hiL herr x0 hj, List.length_take, Nat.min_eq_left (by omega)] at this
    exact this.mono fun _ _ h => h.any.nil))
  have EF := fault_form hiL herr
  have D1 : (x == 0) = false := by rw [beq_eq_false_iff_ne]; exact x0
  have D2 : (x == 7) = false := by rw [beq_eq_false_iff_ne]; exact x7
  have D3 : (x == 8) = false := by rw [beq_eq_false_iff_ne]; exact x8
  have hfy := HF.out _ (List.getElem_mem hiL)
  have hIi := HI.out.at hiL
  generalize L[i] = y at EF hfy hIi
  obtain ⟨b, o, rfl, hbW, i7⟩ := hIi
  obtain ⟨y0, y1, y2, y3, y4, y5, y6⟩ := i7.cells
  clear hpe hx herr hj x0 x7 x8 i7
  go_enter Tryz.func6, Tryz.ntmps6
  go_wp2_with fail
  refine SH.out.mono ?_; rintro e w1 ⟨rfl, rfl⟩
  go_wp2_with fail
  refine SJ.out.mono ?_; rintro e w1 ⟨rfl, rfl⟩
  go_wp2_with fail
  refine (C1.out _ HI.out HE.out).mono ?_; rintro e w1 ⟨S, cS, G, cG, rfl, hb1⟩
  obtain ⟨RP, RF, X1, XS⟩ := two_blocks w1 (planN S cS G cG) (faultN x i)
  have B1 := Lib.hid (hb1.trans (X1.mono hb1.size))
  obtain ⟨⟨t0, t1⟩, gt⟩ := row2c RF
  have X5 := (Below.refl ((w1.alloc (planN S cS G cG)).alloc (faultN x i)).heap.size ((w1.alloc (planN S cS G cG)).alloc (faultN x i))).alloc (Nat.le_refl _) (.cells #[] 44)
  have hB0 := Lib.hid (B1.out.trans (X5.mono B1.out.size))
  have F5 := Lib.hid ((X5.block _ gt).trans RF)
  have I5 := Lib.hid (HI.out.below rfl hB0.out)
  have O1 := World.ownsRow_lit (base := w1.heap.size + 2) (e := 44) (size := 7) ((w1.alloc (planN S cS G cG)).alloc (faultN x i)) #[] 0 (by simp) (by unfold maxLen; omega) rfl
  rw [XS] at O1
  have O0 := Lib.hid (show (((w1.alloc (planN S cS G cG)).alloc (faultN x i)).alloc (.cells #[] 44)).ownsRow (w1.heap.size + 2) 44 7 (.slice (some ⟨w1.heap.size + 1 + 1, 0, none⟩) 0 0) 0 [] from O1)
  have hW1 : W.heap.size ≤ w1.heap.size := hb1.size
  clear hb1 X1 RP RF X5 O1
  go_wp2_with (first
    | (at_builtin; refine wpList_append_its _ rfl (.tmp 40) (.tmp 41) 22 rfl (w1.heap.size + 2) 44 i0 _ Tryz.underlying22 hi hz0 hz1 hz2 rfl (w1.heap.size + 1 + 1) 0 0 [] rfl O0.out (some ⟨b, o, none⟩) c L.length L rfl rfl I5.out (by omega) (by simp) ?_; intro g1 cap1 w5 hown1 hg1; rw [Nat.zero_add, List.nil_append] at hown1; have hb5 := Lib.hid (hB0.out.grown hg1 (by first | (simp; done) | (simp; omega)) (fun g hg => by cases hg; omega)); have J5 := Lib.hid (HJ.out.below rfl hb5.out); have O1 := Lib.hid hown1; have F6 := Lib.hid ((hg1.block (w1.heap.size + 1) (by first | (simp; done) | (simp; omega)) (by simp)).trans F5.out); clear hown1 hg1)
    | (at_builtin; refine wpList_append_its _ rfl (.tmp 42) (.tmp 43) 22 rfl (w1.heap.size + 2) 44 i0 _ Tryz.underlying22 hi hz0 hz1 hz2 rfl g1 _ cap1 _ rfl O1.out B d M.length M rfl rfl J5.out (by omega) (Nat.le_trans (by have := (Array.getElem?_eq_some_iff.1 F6.out).1; omega) (Nat.le_refl _)) ?_; intro g2 cap2 w6 hown2 hg2; have hb6 := Lib.hid (hb5.out.grown hg2 hb5.out.size (fun g hg => by cases hg; have := (O1.out.lt g1 rfl).1; omega)); have O2 := Lib.hid hown2; have F7 := Lib.hid ((hg2.block (w1.heap.size + 1) (Array.getElem?_eq_some_iff.1 F6.out).1 (by have := (O1.out.lt g1 rfl).1; first | (simp; done) | (simp; omega))).trans F6.out); clear hown2 hg2))
  obtain ⟨-, D4, c4, hv2, -, its4⟩ := Its.of_own (L := L ++ M) (by rw [cellsL_append]; exact O2.out)
  have e4 : D4 = some ⟨g2, 0, none⟩ := by cases hv2; rfl
  subst e4
  refine (C2.out w6 _ cap2 its4 (HE.out.below rfl hb6.out)).mono ?_; rintro e w7 ⟨S2, cS2, G2, cG2, rfl, hb7⟩
  obtain ⟨RP2, RF2, X7, XS7⟩ := two_blocks w7 (planN S2 cS2 G2 cG2) (faultN x i)
  have BB7 := hb7.trans (X7.mono hb7.size)
  have B7 := Lib.hid (hb6.out.trans (BB7.mono hb6.out.size))
  have F8 := Lib.hid ((BB7.block _ (Array.getElem?_eq_some_iff.1 F7.out).1).trans F7.out)
  have HP7 := Lib.hid RP2
  have HF7 := Lib.hid RF2
  have n1 : i + 1 ≤ c := by omega
  have n2 : (i : Int) + 1 ≤ (c : Int) := by omega
  clear hv2 its4 hb7 X7 BB7 RP2 RF2 t0 t1 gt O0 O1 O2 hb5 J5 I5 F5 F6 F7
  obtain ⟨⟨t0, t1⟩, gt⟩ := row2c F8.out
  have I7 := Lib.hid (HI.out.below rfl B7.out)
  have E7 := Lib.hid (HE.out.below rfl B7.out)
  dsimp only
  go_wp2_with fail
  refine (C3.out _ I7.out E7.out).mono ?_; rintro e w8 ⟨S3, cS3, G3, cG3, rfl, hb8⟩
  obtain ⟨RP3, RF3, X8, XS8⟩ := two_blocks w8 (planN S3 cS3 G3 cG3) (faultN x i)
  have BB8 := hb8.trans (X8.mono hb8.size)
  have B8 := Lib.hid (B7.out.trans (BB8.mono B7.out.size))
  obtain ⟨⟨t0, t1⟩, gt⟩ := row2c ((BB8.block _ (Array.getElem?_eq_some_iff.1 F8.out).1).trans F8.out)
  obtain ⟨⟨u0', u1'⟩, gu⟩ := row2c ((BB8.block _ (Array.getElem?_eq_some_iff.1 HF7.out).1).trans HF7.out)
  obtain ⟨⟨-, -, -, -, p4, -⟩, -, gp⟩ := row6 ((BB8.block _ (Array.getElem?_eq_some_iff.1 HP7.out).1).trans HP7.out)
  obtain ⟨⟨v0, v1⟩, gv⟩ := row2c RF3
  obtain ⟨⟨-, -, -, -, q4, -⟩, -, gq⟩ := row6 RP3
  have hBW := Nat.lt_of_lt_of_le hbW B8.out.size
  have W0 := Lib.hid (Below.refl ((w8.alloc (planN S3 cS3 G3 cG3)).alloc (faultN x i)).heap.size ((w8.alloc (planN S3 cS3 G3 cG3)).alloc (faultN x i)))
  have Q := fun W => bin_fault W x ((i : Int) + 1) x ((i : Int) + 1)
  simp only [beq_self_eq_true, Bool.and_self] at Q
  clear hb8 RP3 RF3 X8 BB8 F8 HF7 HP7 I7 E7
  generalize hw3 : (w8.alloc (planN S3 cS3 G3 cG3)).alloc (faultN x i) = w9 at B8 t0 t1 u0' u1' p4 v0 v1 q4 gt gu gp gv gq hBW W0
  have KS := Lib.hid (fun w' (hb : Below w9.heap.size w9 w') => show (w'.cell? ⟨w1.heap.size + 1, 0, none⟩ = some (.int .i64 x) ∧ w'.cell? ⟨w1.heap.size + 1, 1, none⟩ = some (.int .i64 ((i : Int) + 1))) ∧ (w'.cell? ⟨w7.heap.size + 1, 0, none⟩ = some (.int .i64 x) ∧ w'.cell? ⟨w7.heap.size + 1, 1, none⟩ = some (.int .i64 ((i : Int) + 1))) ∧ (w'.cell? ⟨w8.heap.size + 1, 0, none⟩ = some (.int .i64 x) ∧ w'.cell? ⟨w8.heap.size + 1, 1, none⟩ = some (.int .i64 ((i : Int) + 1))) ∧ w'.cell? ⟨w7.heap.size, 4, none⟩ = some (.slice S2 0 cS2) ∧ w'.cell? ⟨w8.heap.size, 4, none⟩ = some (.slice S3 0 cS3) ∧
      (w'.cell? ⟨b, o + i * 7, none⟩ = some (.int .i64 y.k) ∧ w'.cell? ⟨b, o + i * 7 + 1, none⟩ = some (.string (txt y.name)) ∧ w'.cell? ⟨b, o + i * 7 + 2, none⟩ = some (.int .i64 y.n) ∧ w'.cell? ⟨b, o + i * 7 + 3, none⟩ = some (.string (txt y.e0.n)) ∧ w'.cell? ⟨b, o + i * 7 + 4, none⟩ = some (.int .u8 y.e0.c.toNat) ∧ w'.cell? ⟨b, o + i * 7 + 5, none⟩ = some (.string (txt y.e1.n)) ∧ w'.cell? ⟨b, o + i * 7 + 6, none⟩ = some (.int .u8 y.e1.c.toNat)) from
    have k1 := fun k => hb.cell (p := ⟨w1.heap.size + 1, k, none⟩) gt
    have k2 := fun k => hb.cell (p := ⟨w7.heap.size + 1, k, none⟩) gu
    have k3 := fun k => hb.cell (p := ⟨w8.heap.size + 1, k, none⟩) gv
    have k4 := fun k => (hb.cell (p := ⟨b, k, none⟩) hBW).trans (B8.out.cell (p := ⟨b, k, none⟩) hbW)
    ⟨⟨(k1 _).trans t0, (k1 _).trans t1⟩, ⟨(k2 _).trans u0', (k2 _).trans u1'⟩, ⟨(k3 _).trans v0, (k3 _).trans v1⟩, (hb.cell (p := ⟨w7.heap.size, 4, none⟩) gp).trans p4, (hb.cell (p := ⟨w8.heap.size, 4, none⟩) gq).trans q4, (k4 _).trans y0, (k4 _).trans y1, (k4 _).trans y2, (k4 _).trans y3, (k4 _).trans y4, (k4 _).trans y5, (k4 _).trans y6⟩)
  have HE3 := Lib.hid (HE.out.below rfl B8.out)
  have AM := Lib.hid (fun W' (hW : Below w9.heap.size w9 W') => Made.of hW (AW.out W' (HE3.out.below rfl hW)))
  have RM := Lib.hid (fun W' (hW : Below w9.heap.size w9 W') => Made.of hW (rpRight_y y W' hfy))
  generalize It.right y = r at RM EF
  have D4 : (x == 2) = !r := by cases r <;> cases hx2 : (x == 2) <;> first | rfl | (rw [hx2] at EF; cases EF)
  have m0 : (i : Int) + 1 - 1 = (i : Int) := by omega
  have hi80 : i < 80 := by omega
  have w1w : IntKind.i64.wrap ((i : Int) + 1 - 1) = (i : Int) := by rw [m0]; exact IntWalk.i64_in _ (by omega)
  have w2w : IntKind.i64.wrap (i : Int) = (i : Int) := IntWalk.i64_in _ (by omega)
  have w3w : (0 : Int) ≤ (i : Int) := by omega
  have w4w : (i : Int) < (L.length : Int) := by omega
  clear EF n1 n2 hc hl _hd hk h80 k80 i0 hi hz0 hz1 hz2 HF HG hfy C1 C2 C3 CB SH SJ AW HJ hW1
  subst hw3
  dsimp only
  go_wp2_with fail
  clear t0 t1 u0' u1' p4 v0 v1 q4 y0 y1 y2 y3 y4 y5 y6 XS XS7 XS8 gt gu gp gv gq hBW hbW HE3 HE hB0 hb6 B7 B1
  generalize (w8.alloc (planN S3 cS3 G3 cG3)).alloc (faultN x i) = w9 at B8 W0 KS AM RM ⊢
  cases r
  all_goals simp only [Bool.not_true, Bool.not_false] at D4
  all_goals
    go_region_held3 (fun w' => (w'.cell? ⟨w1.heap.size + 1, 0, none⟩ = some (.int .i64 x) ∧ w'.cell? ⟨w1.heap.size + 1, 1, none⟩ = some (.int .i64 ((i : Int) + 1))) ∧ (w'.cell? ⟨w7.heap.size + 1, 0, none⟩ = some (.int .i64 x) ∧ w'.cell? ⟨w7.heap.size + 1, 1, none⟩ = some (.int .i64 ((i : Int) + 1))) ∧ (w'.cell? ⟨w8.heap.size + 1, 0, none⟩ = some (.int .i64 x) ∧ w'.cell? ⟨w8.heap.size + 1, 1, none⟩ = some (.int .i64 ((i : Int) + 1))) ∧ w'.cell? ⟨w7.heap.size, 4, none⟩ = some (.slice S2 0 cS2) ∧ w'.cell? ⟨w8.heap.size, 4, none⟩ = some (.slice S3 0 cS3) ∧
        (w'.cell? ⟨b, o + i * 7, none⟩ = some (.int .i64 y.k) ∧ w'.cell? ⟨b, o + i * 7 + 1, none⟩ = some (.string (txt y.name)) ∧ w'.cell? ⟨b, o + i * 7 + 2, none⟩ = some (.int .i64 y.n) ∧ w'.cell? ⟨b, o + i * 7 + 3, none⟩ = some (.string (txt y.e0.n)) ∧ w'.cell? ⟨b, o + i * 7 + 4, none⟩ = some (.int .u8 y.e0.c.toNat) ∧ w'.cell? ⟨b, o + i * 7 + 5, none⟩ = some (.string (txt y.e1.n)) ∧ w'.cell? ⟨b, o + i * 7 + 6, none⟩ = some (.int .u8 y.e1.c.toNat)))
      (first | with_reducible exact KS.out _ W0.out.drew | with_reducible exact KS.out _ hacc)
      (first
        | (go_at_call 9; (with_reducible refine (AM.out _ W0.out.drew).mono ?_); rintro e w' ⟨rfl, hbl, hacc, hz⟩)
        | (go_at_call 21; (with_reducible refine (RM.out _ hacc).mono ?_); rintro e w' ⟨rfl, hbl, hacc, hz⟩))
    all_goals go_wp2_with fail
    all_goals go_ret
    all_goals exact ⟨rfl, B8.out.trans (hacc.mono B8.out.size)⟩
end Go.Proofs.YtaheiolbeiofpaaGreatDoor
