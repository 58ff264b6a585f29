/-
  Texts of this claim, merged: NrAwake.
-/
import Derived.Test.YtgajdfecajleiaaMg14
import Derived.Test.YtgajdfecajleiaaMg23
/-
  The walk of layer 11's examples: they are as the document says; are numbers the same.
-/
namespace Go.Proofs.Ytgajdfecajleiaa
open Go.RowKit

set_option maxHeartbeats 4000000 in
set_option maxRecDepth 100000 in
theorem nrInts_any (A : Option Addr) (c n : Nat) (L : List Int) (A' : Option Addr) (c' n' : Nat) (M : List Int) (w : World) (hn : L.length = n) (h : LNum.Row w A L) (hl : n ≤ 1000000) (hn' : M.length = n') (h' : LNum.Row w A' M) :
    Calls Try.prog 11 #[.slice A n c, .slice A' n' c'] w (OneIs (.bool (decide (L = M))) w) := by
  --[
  subst hn hn'
  have B0 := Lib.hid (Below.refl w.heap.size w)
  have HR := Lib.hid h
  have HR' := Lib.hid h'
  clear h h'
  by_cases hn : L.length = M.length
  · have E : ((L.length : Int) != (M.length : Int)) = false := by rw [bne_eq_false_iff_eq]; omega
    have HN := Lib.hid hn
    go_enter Try.func11, Try.ntmps11
    go_wp2_with fail
    go_loopw [5] (fun v w' => ∃ j : Nat, j ≤ L.length ∧ v = .int .i64 j ∧ L.take j = M.take j ∧ Below w.heap.size w w') (fun v _ => L.length - (intOf v).toNat)
    case atStart => exact ⟨0, Nat.zero_le _, rfl, rfl, B0.out⟩
    case round =>
      obtain ⟨j, hj, rfl, hp, hb⟩ := hrel
      by_cases hlt : j < L.length
      · have hy := List.getElem?_eq_getElem hlt
        have hy' := List.getElem?_eq_getElem (show j < M.length by omega)
        have HB := Lib.hid hb
        obtain ⟨b, o, rfl, hbb, on⟩ := (HR.out.below rfl hb).at hlt
        obtain ⟨b', o', rfl, hbb', on'⟩ := (HR'.out.below rfl hb).at (show j < M.length by omega)
        generalize L[j] = x at hy on
        generalize M[j] = y at hy' on'
        have c0 := num_on on
        have c0' := num_on on'
        rw [show j * LNum.m = j from Nat.mul_one j] at c0 c0'
        have d1 : decide ((j : Int) < (L.length : Int)) = true := dec_t (by omega)
        have i0 : (0 : Int) ≤ (j : Int) := Int.natCast_nonneg j
        have i1 : (j : Int) < (L.length : Int) := by omega
        have i1' : (j : Int) < (M.length : Int) := by omega
        have HY := Lib.hid (And.intro hy hy')
        have HP := Lib.hid hp
        clear hb hy hy' on on' hp E hn
        by_cases h1 : x = y
        · have E1 : (x != y) = false := by rw [bne_eq_false_iff_eq]; exact h1
          have HP2 := Lib.hid (show L.take (j + 1) = M.take (j + 1) from by
            rw [List.take_add_one, List.take_add_one, HY.out.1, HY.out.2, HP.out, h1])
          clear h1
          go_upto_region 6 with fail
          go_quiet (fail)
          go_wp2_with fail
          go_roundw
          case rel => exact ⟨j + 1, by omega, by go_num, HP2.out, below_drewN HB.out _⟩
          case measure => simp [intOf]; omega
        · have E1 : (x != y) = true := by rw [bne_iff_ne]; exact h1
          have HF := Lib.hid (show decide (L = M) = false from decide_eq_false fun e => by
            have h3 := HY.out.1
            rw [e, HY.out.2] at h3
            cases h3
            exact h1 rfl)
          clear h1
          go_upto_region 6 with fail
          go_quiet (fail)
          go_wp2_with fail
          go_ret
          exact ⟨by rw [HF.out] <;> rfl, below_drewN HB.out _⟩
      · obtain rfl : j = L.length := by omega
        have d1 : decide ((L.length : Int) < (L.length : Int)) = false := dec_f (by omega)
        have HB := Lib.hid hb
        have HP := Lib.hid (show decide (L = M) = true from decide_eq_true (by
          rw [List.take_length, hn, List.take_length] at hp
          exact hp))
        clear hb hp hn E
        go_wp2_with fail
        go_ret
        exact ⟨by rw [HP.out] <;> rfl, HB.out⟩
  · have E : ((L.length : Int) != (M.length : Int)) = true := by rw [bne_iff_ne]; omega
    have P := Lib.hid (show decide (L = M) = false from decide_eq_false fun h => hn (by rw [h]))
    clear hn
    go_enter Try.func11, Try.ntmps11
    go_wp2_with fail
    go_ret
    exact ⟨by rw [P.out] <;> rfl, B0.out⟩
  --]
theorem awL_fit : Pl.Fit awL ∧ Lp.Meas awL := by
  obtain ⟨hf, L, hL, hS, e⟩ := madeP_some made_exL
  refine ⟨hf, ?_⟩
  rw [e]
  exact Lp.meas_fin hL hS
theorem far_fit {p : Pl.Plan} (h : Pl.Fit p) (n : Int) : Pl.Fit (Nr.far p n) := ⟨h.ends, h.plain, h.sigs, h.few, h.gfew⟩
theorem far_meas {p : Pl.Plan} (h : Lp.Meas p) (n : Int) : Lp.Meas (Nr.far p n) := ⟨h.ov, h.len, h.sig⟩
def nrT0 : List Int := [-1, -1, -1, -1, -1, -1, -1, -1, -1, -1, -1, -1, -1, -1, -1, -1, -1, -1, -1, 9000, -1, -1, 0, -1]
def nrT1 : List Int := [-1, -1, -1, -1, -1, -1, -1, -1, -1, -1, -1, -1, -1, 0, -1, -1, -1, -1, -1, -1, -1, -1, -1, -1]
def nrT3 : List Int := [0, -1, -1, -1, -1, -1, -1, -1, -1, -1, -1, -1, -1, -1, -1, -1, -1, -1, -1, -1, -1, -1, -1, -1]
def nrT4 : List Int := [-1, -1, -1, -1, -1, -1, -1, 7000, -1, -1, -1, -1, -1, 0, -1, -1, -1, -1, -1, -1, -1, -1, 12000, -1]
theorem nrA0 : Nr.of awL 0 = ([6, 7], 17000) :=
  Nr.of_eval awL_fit.1 awL_fit.2 (i := 0) (g := ⟨[65], 7, 1⟩) (by decide +kernel) (by decide +kernel) (T := nrT0) (by decide +kernel) (by decide +kernel) (by decide +kernel)
theorem nrA1 : Nr.of (Nr.far awL 5000) 1 = ([4], 7000) :=
  Nr.of_eval (far_fit awL_fit.1 _) (far_meas awL_fit.2 _) (i := 1) (g := ⟨[66], 4, 1⟩) (by decide +kernel) (by decide +kernel) (T := nrT1) (by decide +kernel) (by decide +kernel) (by decide +kernel)
theorem nrA2 : Nr.of (Nr.far awL 5000) 9 = ([], 0) := by
  unfold Nr.of
  rw [show Cr.sigAt (Nr.far awL 5000) 9 = none by decide +kernel]
theorem nrA3 : Nr.of (Nr.far awL 8000) 3 = ([0], 9000) :=
  Nr.of_eval (far_fit awL_fit.1 _) (far_meas awL_fit.2 _) (i := 3) (g := ⟨[68], 0, 0⟩) (by decide +kernel) (by decide +kernel) (T := nrT3) (by decide +kernel) (by decide +kernel) (by decide +kernel)
theorem nrA4 : Nr.of (Nr.far awL 15000) 1 = ([2, 4, 7], 21000) :=
  Nr.of_eval (far_fit awL_fit.1 _) (far_meas awL_fit.2 _) (i := 1) (g := ⟨[66], 4, 1⟩) (by decide +kernel) (by decide +kernel) (T := nrT4) (by decide +kernel) (by decide +kernel) (by decide +kernel)
/-- Numbers that lie elsewhere than in a block. -/
def NumAt (g : Nat) (w : World) (B : Option Addr) (L : List Int) : Prop := LNum.Row w B L ∧ ∀ a, B = some a → a.block ≠ g
theorem NumAt.below {g : Nat} {w w' : World} {B : Option Addr} {L : List Int} (h : NumAt g w B L) (hb : Below w.heap.size w w') : NumAt g w' B L := ⟨h.1.below rfl hb, h.2⟩
theorem NumAt.set {g : Nat} {w : World} {B : Option Addr} {L : List Int} (h : NumAt g w B L) (k : Nat) (v : Value) : NumAt g (w.setCell ⟨g, k, none⟩ v) B L := by
  refine ⟨?_, h.2⟩
  rcases h.1 with h0 | ⟨b, o, rfl, hlt, h0⟩
  · exact .inl h0
  · refine .inr ⟨b, o, rfl, by rw [World.size_setCell]; exact hlt, fun k' y hk j u hu => ?_⟩
    rw [World.cell?_setCell_other w ⟨g, k, none⟩ _ v (fun e => h.2 _ rfl (by show b = g; exact (congrArg Addr.block e).symm))]
    exact h0 k' y hk j u hu
/-- What a call of near's leaves, its values told. -/
def NearAre (g n : Nat) (L : List Int) (m : Int) (w : World) (e : Ending) (w' : World) : Prop := ∃ B d, e = .returned (.tuple #[.slice B n d, .int .i64 m]) ∧ NumAt g w' B L ∧ Below w.heap.size w w'
theorem NearAre.of {g n : Nat} {L : List Int} {m : Int} {x : List Nat × Int} {w : World} {f : FuncId} {xs : Array Value} (hg : g < w.heap.size) (hn : x.1.length = n) (hL : ints x.1 = L) (hm : x.2 = m) (hc : Calls Try.prog f xs w (NearIs x w)) : Calls Try.prog f xs w (NearAre g n L m w) :=
  hc.mono fun e w' ⟨B, d, he, hr, hb, hnew⟩ => by
    subst hn hL hm
    exact ⟨B, d, he, ⟨hr, fun a ha => by have := hnew a ha; omega⟩, hb⟩
theorem pLoop11_any (w : World) : Calls Try.prog 16 #[] w fun e w' => e = .returned (.string exL) ∧ w = w' := by
  go_enter Try.func16, Try.ntmps16
  go_wp2
  go_ret
  exact ⟨rfl, rfl⟩
theorem nrOne.to {u v : Value} {w : World} {f : FuncId} {xs : Array Value} (h : u = v) (hc : Calls Try.prog f xs w (OneIs u w)) : Calls Try.prog f xs w (OneIs v w) := by subst h; exact hc
set_option maxHeartbeats 16000000 in
set_option maxRecDepth 100000 in
theorem nrAwake_any (w : World) : Calls Try.prog 8 #[] w fun e w' => e = .returned (.bool true) ∧ Below w.heap.size w w' := by
  --[
  have CL := Lib.hid pLoop11_any
  have CM := Lib.hid (fun W => made_some made_exL W)
  go_enter Try.func8, Try.ntmps8
  go_wp2_with fail
  refine (CL.out _).mono ?_; rintro e w0 ⟨rfl, rfl⟩
  go_wp2_with fail
  refine (CM.out _).mono ?_; rintro e w1 ⟨A, c, A', c', rfl, pin, hb1⟩
  have B1 := Lib.hid hb1
  have I1 := Lib.hid pin
  have XX := Lib.hid ((Below.refl w1.heap.size w1).alloc (Nat.le_refl _) (planO awL A c A' c'))
  have RP := Lib.hid (heap_alloc_new w1 (planO awL A c A' c'))
  obtain ⟨⟨p0, p1, p2, p3, p4, p5⟩, -, gx⟩ := row6 RP.out
  clear hb1 pin CM CL
  go_upto_region 4 with fail
  generalize w1.alloc (planO awL A c A' c') = v0 at XX RP p0 p1 p2 p3 p4 p5 gx ⊢
  generalize hg : w1.heap.size = g at RP p0 p1 p2 p3 p4 p5 gx ⊢
  have HG := Lib.hid hg
  clear hg
  have YY := Lib.hid XX.out
  have CC := Lib.hid (NearAre.of (g := g) (n := 2) (L := [6, 7]) (m := 17000) gx (by rw [nrA0]; rfl) (by rw [nrA0]; rfl) (by rw [nrA0]) (pnOf_any awL awL_fit.1 awL_fit.2 (by decide +kernel) A c A' c' 0 v0 (I1.out.below YY.out)))
  go_wp2_with fail
  refine CC.out.mono ?_; rintro e v1 ⟨Q0, d0, rfl, hN, hb⟩
  have RPn := Lib.hid ((hb.block _ gx).trans RP.out)
  have YYn := Lib.hid (YY.out.trans (hb.mono YY.out.size))
  have N0 := Lib.hid hN
  clear CC RP YY p0 p1 p2 p3 p4 p5 gx hN hb 
  have RP := RPn
  have YY := YYn
  clear RPn YYn 
  obtain ⟨⟨p0, p1, p2, p3, p4, p5⟩, ⟨f0, f1, -, -, -, -⟩, gx⟩ := row6 RP.out
  have RPn := Lib.hid (show (v1.setCell ⟨g, 1, none⟩ (.int .i64 5000)).heap[g]? = some (planO (Nr.far awL 5000) A c A' c') from by rw [heap_setCell_same _ _ _ _ _ _ RP.out]; rfl)
  have YYn := Lib.hid (YY.out.setCell (p := ⟨g, 1, none⟩) (Nat.le_of_eq HG.out) (.int .i64 5000))
  have N0n := Lib.hid (N0.out.set 1 (.int .i64 5000))
  clear RP YY N0
  have RP := RPn
  have YY := YYn
  have N0 := N0n
  clear RPn YYn N0n
  go_upto_region 6 with fail
  clear p0 p1 p2 p3 p4 p5 f0 f1 gx
  generalize v1.setCell ⟨g, 1, none⟩ (.int .i64 5000) = v2 at RP YY N0 ⊢
  obtain ⟨⟨p0, p1, p2, p3, p4, p5⟩, -, gx⟩ := row6 RP.out
  have CC := Lib.hid (NearAre.of (g := g) (n := 1) (L := [4]) (m := 7000) gx (by rw [nrA1]; rfl) (by rw [nrA1]; rfl) (by rw [nrA1]) (pnOf_any (Nr.far awL 5000) (far_fit awL_fit.1 _) (far_meas awL_fit.2 _) (by decide +kernel) A c A' c' 1 v2 (show PlanIn v2 (Nr.far awL 5000) A A' from I1.out.below YY.out)))
  go_wp2_with fail
  refine CC.out.mono ?_; rintro e v3 ⟨Q1, d1, rfl, hN, hb⟩
  have RPn := Lib.hid ((hb.block _ gx).trans RP.out)
  have YYn := Lib.hid (YY.out.trans (hb.mono YY.out.size))
  have N0n := Lib.hid (N0.out.below hb)
  have N1 := Lib.hid hN
  clear CC RP YY p0 p1 p2 p3 p4 p5 gx hN hb N0
  have RP := RPn
  have YY := YYn
  have N0 := N0n
  clear RPn YYn N0n
  obtain ⟨⟨p0, p1, p2, p3, p4, p5⟩, -, gx⟩ := row6 RP.out
  have CC := Lib.hid (NearAre.of (g := g) (n := 0) (L := []) (m := 0) gx (by rw [nrA2]; rfl) (by rw [nrA2]; rfl) (by rw [nrA2]) (pnOf_any (Nr.far awL 5000) (far_fit awL_fit.1 _) (far_meas awL_fit.2 _) (by decide +kernel) A c A' c' 9 v3 (show PlanIn v3 (Nr.far awL 5000) A A' from I1.out.below YY.out)))
  go_wp2_with fail
  refine CC.out.mono ?_; rintro e v4 ⟨Q2, d2, rfl, hN, hb⟩
  have RPn := Lib.hid ((hb.block _ gx).trans RP.out)
  have YYn := Lib.hid (YY.out.trans (hb.mono YY.out.size))
  have N0n := Lib.hid (N0.out.below hb)
  have N1n := Lib.hid (N1.out.below hb)
  have N2 := Lib.hid hN
  clear CC RP YY p0 p1 p2 p3 p4 p5 gx hN hb N0 N1
  have RP := RPn
  have YY := YYn
  have N0 := N0n
  have N1 := N1n
  clear RPn YYn N0n N1n
  obtain ⟨⟨p0, p1, p2, p3, p4, p5⟩, ⟨f0, f1, -, -, -, -⟩, gx⟩ := row6 RP.out
  have RPn := Lib.hid (show (v4.setCell ⟨g, 1, none⟩ (.int .i64 8000)).heap[g]? = some (planO (Nr.far awL 8000) A c A' c') from by rw [heap_setCell_same _ _ _ _ _ _ RP.out]; rfl)
  have YYn := Lib.hid (YY.out.setCell (p := ⟨g, 1, none⟩) (Nat.le_of_eq HG.out) (.int .i64 8000))
  have N0n := Lib.hid (N0.out.set 1 (.int .i64 8000))
  have N1n := Lib.hid (N1.out.set 1 (.int .i64 8000))
  have N2n := Lib.hid (N2.out.set 1 (.int .i64 8000))
  clear RP YY N0 N1 N2
  have RP := RPn
  have YY := YYn
  have N0 := N0n
  have N1 := N1n
  have N2 := N2n
  clear RPn YYn N0n N1n N2n
  go_upto_region 9 with fail
  clear p0 p1 p2 p3 p4 p5 f0 f1 gx
  generalize v4.setCell ⟨g, 1, none⟩ (.int .i64 8000) = v5 at RP YY N0 N1 N2 ⊢
  obtain ⟨⟨p0, p1, p2, p3, p4, p5⟩, -, gx⟩ := row6 RP.out
  have CC := Lib.hid (NearAre.of (g := g) (n := 1) (L := [0]) (m := 9000) gx (by rw [nrA3]; rfl) (by rw [nrA3]; rfl) (by rw [nrA3]) (pnOf_any (Nr.far awL 8000) (far_fit awL_fit.1 _) (far_meas awL_fit.2 _) (by decide +kernel) A c A' c' 3 v5 (show PlanIn v5 (Nr.far awL 8000) A A' from I1.out.below YY.out)))
  go_wp2_with fail
  refine CC.out.mono ?_; rintro e v6 ⟨Q3, d3, rfl, hN, hb⟩
  have RPn := Lib.hid ((hb.block _ gx).trans RP.out)
  have YYn := Lib.hid (YY.out.trans (hb.mono YY.out.size))
  have N0n := Lib.hid (N0.out.below hb)
  have N1n := Lib.hid (N1.out.below hb)
  have N2n := Lib.hid (N2.out.below hb)
  have N3 := Lib.hid hN
  clear CC RP YY p0 p1 p2 p3 p4 p5 gx hN hb N0 N1 N2
  have RP := RPn
  have YY := YYn
  have N0 := N0n
  have N1 := N1n
  have N2 := N2n
  clear RPn YYn N0n N1n N2n
  obtain ⟨⟨p0, p1, p2, p3, p4, p5⟩, ⟨f0, f1, -, -, -, -⟩, gx⟩ := row6 RP.out
  have RPn := Lib.hid (show (v6.setCell ⟨g, 1, none⟩ (.int .i64 15000)).heap[g]? = some (planO (Nr.far awL 15000) A c A' c') from by rw [heap_setCell_same _ _ _ _ _ _ RP.out]; rfl)
  have YYn := Lib.hid (YY.out.setCell (p := ⟨g, 1, none⟩) (Nat.le_of_eq HG.out) (.int .i64 15000))
  have N0n := Lib.hid (N0.out.set 1 (.int .i64 15000))
  have N1n := Lib.hid (N1.out.set 1 (.int .i64 15000))
  have N2n := Lib.hid (N2.out.set 1 (.int .i64 15000))
  have N3n := Lib.hid (N3.out.set 1 (.int .i64 15000))
  clear RP YY N0 N1 N2 N3
  have RP := RPn
  have YY := YYn
  have N0 := N0n
  have N1 := N1n
  have N2 := N2n
  have N3 := N3n
  clear RPn YYn N0n N1n N2n N3n
  go_upto_region 11 with fail
  clear p0 p1 p2 p3 p4 p5 f0 f1 gx
  generalize v6.setCell ⟨g, 1, none⟩ (.int .i64 15000) = v7 at RP YY N0 N1 N2 N3 ⊢
  obtain ⟨⟨p0, p1, p2, p3, p4, p5⟩, -, gx⟩ := row6 RP.out
  have CC := Lib.hid (NearAre.of (g := g) (n := 3) (L := [2, 4, 7]) (m := 21000) gx (by rw [nrA4]; rfl) (by rw [nrA4]; rfl) (by rw [nrA4]) (pnOf_any (Nr.far awL 15000) (far_fit awL_fit.1 _) (far_meas awL_fit.2 _) (by decide +kernel) A c A' c' 1 v7 (show PlanIn v7 (Nr.far awL 15000) A A' from I1.out.below YY.out)))
  go_wp2_with fail
  refine CC.out.mono ?_; rintro e v8 ⟨Q4, d4, rfl, hN, hb⟩
  have RPn := Lib.hid ((hb.block _ gx).trans RP.out)
  have YYn := Lib.hid (YY.out.trans (hb.mono YY.out.size))
  have N0n := Lib.hid (N0.out.below hb)
  have N1n := Lib.hid (N1.out.below hb)
  have N2n := Lib.hid (N2.out.below hb)
  have N3n := Lib.hid (N3.out.below hb)
  have N4 := Lib.hid hN
  clear CC RP YY p0 p1 p2 p3 p4 p5 gx hN hb N0 N1 N2 N3
  have RP := RPn
  have YY := YYn
  have N0 := N0n
  have N1 := N1n
  have N2 := N2n
  have N3 := N3n
  clear RPn YYn N0n N1n N2n N3n
  have T0 := Lib.hid (Below.refl v8.heap.size v8)
  have X0 := (Below.refl v8.heap.size v8).alloc (Nat.le_refl _) (.cells #[.int .i64 6, .int .i64 7] 3)
  have U0 := Lib.hid (T0.out.trans (X0.mono T0.out.size))
  have C0 := Lib.hid (nrOne.to (v := .bool true) (by rw [decide_eq_true rfl]) (nrInts_any Q0 d0 2 [6, 7] (some ⟨v8.heap.size, 0, none⟩) 2 2 [6, 7] _ rfl (N0.out.below U0.out).1 (by decide) rfl (Lies.Row.fresh (E := LNum) v8 [6, 7] 3)))
  clear X0
  go_wp2_with fail
  refine C0.out.mono ?_; rintro e z0 ⟨rfl, hb⟩
  have V0 := Lib.hid (U0.out.trans (hb.mono U0.out.size))
  clear hb C0
  have X1 := (Below.refl z0.heap.size z0).alloc (Nat.le_refl _) (.cells #[.int .i64 4] 3)
  have U1 := Lib.hid (V0.out.trans (X1.mono V0.out.size))
  have C1 := Lib.hid (nrOne.to (v := .bool true) (by rw [decide_eq_true rfl]) (nrInts_any Q1 d1 1 [4] (some ⟨z0.heap.size, 0, none⟩) 1 1 [4] _ rfl (N1.out.below U1.out).1 (by decide) rfl (Lies.Row.fresh (E := LNum) z0 [4] 3)))
  clear X1
  go_wp2_with fail
  refine C1.out.mono ?_; rintro e z1 ⟨rfl, hb⟩
  have V1 := Lib.hid (U1.out.trans (hb.mono U1.out.size))
  clear hb C1
  have X2 := (Below.refl z1.heap.size z1).alloc (Nat.le_refl _) (.cells #[.int .i64 0] 3)
  have U2 := Lib.hid (V1.out.trans (X2.mono V1.out.size))
  have C2 := Lib.hid (nrOne.to (v := .bool true) (by rw [decide_eq_true rfl]) (nrInts_any Q3 d3 1 [0] (some ⟨z1.heap.size, 0, none⟩) 1 1 [0] _ rfl (N3.out.below U2.out).1 (by decide) rfl (Lies.Row.fresh (E := LNum) z1 [0] 3)))
  clear X2
  go_wp2_with fail
  refine C2.out.mono ?_; rintro e z2 ⟨rfl, hb⟩
  have V2 := Lib.hid (U2.out.trans (hb.mono U2.out.size))
  clear hb C2
  have X3 := (Below.refl z2.heap.size z2).alloc (Nat.le_refl _) (.cells #[.int .i64 2, .int .i64 4, .int .i64 7] 3)
  have U3 := Lib.hid (V2.out.trans (X3.mono V2.out.size))
  have C3 := Lib.hid (nrOne.to (v := .bool true) (by rw [decide_eq_true rfl]) (nrInts_any Q4 d4 3 [2, 4, 7] (some ⟨z2.heap.size, 0, none⟩) 3 3 [2, 4, 7] _ rfl (N4.out.below U3.out).1 (by decide) rfl (Lies.Row.fresh (E := LNum) z2 [2, 4, 7] 3)))
  clear X3
  go_wp2_with fail
  refine C3.out.mono ?_; rintro e z3 ⟨rfl, hb⟩
  have V3 := Lib.hid (U3.out.trans (hb.mono U3.out.size))
  clear hb C3
  have YF := Lib.hid (B1.out.trans ((YY.out.trans (V3.out.mono YY.out.size)).mono B1.out.size))
  go_wp2_with fail
  go_ret
  exact ⟨rfl, YF.out⟩
  --]
end Go.Proofs.Ytgajdfecajleiaa
