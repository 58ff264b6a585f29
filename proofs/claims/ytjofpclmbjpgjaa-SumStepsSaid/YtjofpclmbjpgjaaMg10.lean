/-
  Texts of this claim, merged: SumStepsWalk.
-/
import Derived.Test.YtjofpclmbjpgjaaMg06
/-
  The walk of the law SumSteps: it returns true.
-/
namespace Go.Proofs.Ytjofpclmbjpgjaa
open Go.RowKit

/-- Two bytes turned into one another, as far as one has come. -/
def Sm.zip (L M : List Nat) : List Nat := List.zipWith (· ^^^ ·) L M
theorem Sm.zip_len {L M : List Nat} (h : L.length = M.length) : (Sm.zip L M).length = L.length := by unfold Sm.zip; rw [List.length_zipWith]; omega
theorem Sm.zip_at {L M : List Nat} {k : Nat} (h1 : k < L.length) (h2 : k < M.length) : (Sm.zip L M)[k]? = some (L.getD k 0 ^^^ M.getD k 0) := by
  unfold Sm.zip
  rw [List.getElem?_zipWith, List.getD_eq_getElem?_getD, List.getD_eq_getElem?_getD, List.getElem?_eq_getElem h1, List.getElem?_eq_getElem h2]
  rfl
theorem Sm.zip_bytes {L M : List Nat} (h : L.length = M.length) (hL : Sm.Bytes L) (hM : Sm.Bytes M) : Sm.Bytes (Sm.zip L M) := fun x hx => by
  obtain ⟨k, hk⟩ := List.getElem?_of_mem hx
  have hlt : k < L.length := by
    have := (List.getElem?_eq_some_iff.1 hk).1
    rwa [Sm.zip_len h] at this
  rw [Sm.zip_at hlt (by omega)] at hk
  cases hk
  exact Nat.xor_lt_two_pow (n := 8) (hL.at k) (hM.at k)
set_option maxHeartbeats 16000000 in
set_option maxRecDepth 100000 in
theorem sumSteps_walk (A : Option Addr) (c n : Nat) (L : List Nat) (B : Option Addr) (d m : Nat) (M : List Nat) (W : World)
    (hn : L.length = n) (hL : LBt.Row W A L) (_hc : n ≤ c) (_hl : n ≤ maxLen) (hb : Sm.Bytes L) (hm : M.length = m) (hM : LBt.Row W B M) (_hd : m ≤ d) (_hk : m ≤ maxLen) (hb' : Sm.Bytes M) :
    Calls Try.prog 6 #[.slice A n c, .slice B m d] W fun e w' => e = .returned (.bool true) ∧ Below W.heap.size W w' := by
  --[
  subst hn hm
  have HL := Lib.hid hL
  have HM := Lib.hid hM
  have AW := Lib.hid (fun W => smAwake_any W)
  by_cases g1 : L.length = M.length
  case neg =>
    have D1 : ((L.length : Int) != (M.length : Int)) = true := by rw [bne_iff_ne]; omega
    go_enter Try.func6, Try.ntmps6
    go_wp2_with fail
    refine (AW.out _).mono ?_; rintro e w8 ⟨rfl, hb8⟩
    go_wp2_with fail
    go_ret
    exact ⟨rfl, hb8⟩
  have D1 : ((L.length : Int) != (M.length : Int)) = false := by rw [bne_eq_false_iff_eq]; omega
  by_cases g2 : 300 < L.length
  · have D2 : decide (300 < (L.length : Int)) = true := dec_t (by omega)
    go_enter Try.func6, Try.ntmps6
    go_wp2_with fail
    refine (AW.out _).mono ?_; rintro e w8 ⟨rfl, hb8⟩
    go_wp2_with fail
    go_ret
    exact ⟨rfl, hb8⟩
  have D2 : decide (300 < (L.length : Int)) = false := dec_f (by omega)
  have hl : L.length ≤ 300 := by omega
  have HGL := Lib.hid g1
  have HBL := Lib.hid hb
  have HBM := Lib.hid hb'
  have C1 := Lib.hid (fun W' (h : Below W.heap.size W W') => spOf_any A c L W' (HL.out.below rfl h) hb (by omega))
  have C2 := Lib.hid (fun W' (h : Below W.heap.size W W') => spOf_any B d M W' (HM.out.below rfl h) hb' (by omega))
  have hmk := run_make_k LBt (P := Try.prog) 0 22 5 (.int .u8 0) 1 Try.underlying22 infoBt rfl .i64 .i64 L.length (by omega) (by omega)
  have HZ := Lib.hid (List.length_replicate (n := L.length) (a := 0))
  generalize hZ : List.replicate L.length 0 = Z at hmk HZ
  have HZE := Lib.hid hZ
  have W1 := Lib.hid (((Below.refl W.heap.size W).alloc (Nat.le_refl _) (.cells (LBt.all Z).toArray 5)).alloc (by simp) (.cells (LBt.all Z).toArray 5))
  have Oa := Lib.hid (show ((W.alloc (.cells (LBt.all Z).toArray 5)).alloc (.cells (LBt.all Z).toArray 5)).ownsRow W.heap.size 5 LBt.m (.slice (some ⟨W.heap.size, 0, none⟩) L.length L.length) L.length (LBt.all Z) from by
    have := (own_madeB W Z (by rw [HZ.out]; omega)).alloc (.cells (LBt.all Z).toArray 5)
    rwa [HZ.out] at this)
  have Ob := Lib.hid (show ((W.alloc (.cells (LBt.all Z).toArray 5)).alloc (.cells (LBt.all Z).toArray 5)).ownsRow W.heap.size 5 LBt.m (.slice (some ⟨W.heap.size + 1, 0, none⟩) L.length L.length) L.length (LBt.all Z) from by
    have := own_low (b0 := W.heap.size) (own_madeB (W.alloc (.cells (LBt.all Z).toArray 5)) Z (by rw [HZ.out]; omega)) (by simp)
    rw [HZ.out] at this
    simpa using this)
  clear hL hM g1 g2 hb hb' hZ
  go_enter Try.func6, Try.ntmps6
  go_upto_region 3 with fail
  go_cut [5, 6] from 19 to 56 (fun s5 s6 w' => ∃ g1 g2, s5 = .slice (some ⟨g1, 0, none⟩) L.length L.length ∧ s6 = .slice (some ⟨g2, 0, none⟩) L.length L.length ∧ g1 ≠ g2 ∧
    w'.ownsRow W.heap.size 5 LBt.m (.slice (some ⟨g1, 0, none⟩) L.length L.length) L.length (LBt.all Z) ∧ w'.ownsRow W.heap.size 5 LBt.m (.slice (some ⟨g2, 0, none⟩) L.length L.length) L.length (LBt.all Z) ∧ Below W.heap.size W w')
  case first =>
    go_region_with (fail)
    all_goals go_wp2_with fail
    all_goals go_meet
    all_goals first
      | exact ⟨_, _, rfl, rfl, by omega, Oa.out.drew, Ob.out.drew, W1.out.drew⟩
      | exact ⟨_, _, rfl, rfl, by omega, Ob.out.drew, Oa.out.drew, W1.out.drew⟩
  case rest =>
    obtain ⟨g1, g2, rfl, rfl, hne, ho1, ho2, hbw⟩ := hcut
    have HO1 := Lib.hid ho1
    have HO2 := Lib.hid ho2
    have HB := Lib.hid hbw
    have hg1 : W.heap.size ≤ g1 := (ho1.lt g1 rfl).1
    have HNE := Lib.hid hne
    clear ho1 ho2 hbw hne hmk Oa Ob W1
    go_wp2_with fail
    go_loopw [7] (fun v7 w' => ∃ (k : Nat) (X : List Nat), k ≤ L.length ∧ v7 = .int .i64 k ∧ X.length = L.length ∧ (∀ j, j < k → X[j]? = (Sm.zip L M)[j]?) ∧ w'.ownsRow W.heap.size 5 LBt.m (.slice (some ⟨g1, 0, none⟩) L.length L.length) L.length (LBt.all X) ∧
      w'.ownsRow W.heap.size 5 LBt.m (.slice (some ⟨g2, 0, none⟩) L.length L.length) L.length (LBt.all Z) ∧ Below W.heap.size W w') (fun v7 _ => L.length - (intOf v7).toNat)
    case atStart => exact ⟨0, Z, Nat.zero_le _, rfl, HZ.out, fun j hj => absurd hj (Nat.not_lt_zero j), HO1.out, HO2.out, HB.out⟩
    case round =>
      obtain ⟨k, X, hk, rfl, hxl, hxz, ho1, ho2, hbw⟩ := hrel
      have KX := Lib.hid hxz
      have KO1 := Lib.hid ho1
      have KO2 := Lib.hid ho2
      have KB := Lib.hid hbw
      have KL := Lib.hid hxl
      by_cases hlt : k < L.length
      · obtain ⟨b, o, rfl, -, c0⟩ := bt_at (HL.out.below rfl hbw) hlt
        obtain ⟨b', o', rfl, -, c1⟩ := bt_at (HM.out.below rfl hbw) (show k < M.length by have := HGL.out; omega)
        have ho : wr.ownsRow W.heap.size 5 LBt.m (.slice (some ⟨g1, 0, none⟩) X.length L.length) X.length (LBt.all X) := by rw [hxl]; exact ho1
        obtain ⟨c2, hfz⟩ := bown_at ho (show k < X.length by omega)
        have e := u8_xor_nat (L.getD k 0) (M.getD k 0) (HBL.out.at k) (HBM.out.at k)
        have hz := Sm.zip_at hlt (show k < M.length by have := HGL.out; omega)
        have hw := bown_set ho k (L.getD k 0 ^^^ M.getD k 0)
        rw [show (X.set k (L.getD k 0 ^^^ M.getD k 0)).length = L.length from by rw [List.length_set]; exact hxl, hxl] at hw
        have HX2 := Lib.hid (show ∀ j, j < k + 1 → (X.set k (L.getD k 0 ^^^ M.getD k 0))[j]? = (Sm.zip L M)[j]? from fun j hj => by
          by_cases hjk : j = k
          · rw [hjk, hz, List.getElem?_set_self (by omega)]
          · rw [List.getElem?_set_ne (Ne.symm hjk)]
            exact KX.out j (by omega))
        have HXL := Lib.hid (show (X.set k (L.getD k 0 ^^^ M.getD k 0)).length = L.length from by rw [List.length_set]; exact hxl)
        generalize L.getD k 0 ^^^ M.getD k 0 = y at e hw HX2 HXL hz
        generalize X.set k y = X2 at hw HX2 HXL
        generalize L.getD k 0 = x0 at c0 e
        generalize M.getD k 0 = x1 at c1 e
        generalize X.getD k 0 = x2 at c2
        have HW := Lib.hid hw
        have HW2 := Lib.hid (own_kept (w' := wr.setCell ⟨g1, k, none⟩ (.int .u8 (y : Int))) ho2 (fun g hg => by
          cases hg
          exact setCells_other g1 g2 (Ne.symm HNE.out) [.int .u8 (y : Int)] k wr))
        have HWB := Lib.hid (hbw.setCell (p := ⟨g1, k, none⟩) hg1 (.int .u8 (y : Int)))
        have d1 : decide ((k : Int) < (L.length : Int)) = true := dec_t (by omega)
        have i0 : (0 : Int) ≤ (k : Int) := Int.natCast_nonneg k
        have i1 : (k : Int) < (L.length : Int) := by omega
        have i2 : (k : Int) < (M.length : Int) := by have := HGL.out; omega
        have q1 : IntKind.i64.wrap ((k : Int) + 1) = (k : Int) + 1 := IntWalk.i64_in _ (by omega)
        clear hxl hxz ho1 ho2 hbw ho hz hw
        go_upto_region 7 with fail
        go_region_with (fail)
        all_goals go_wp2_with fail
        all_goals go_roundw
        all_goals first
          | exact ⟨k + 1, X2, by omega, by go_num, HXL.out, HX2.out, HW.out.drew, HW2.out.drew, HWB.out.drew⟩
          | (simp [intOf]; omega)
      · obtain rfl : k = L.length := by omega
        have d1 : decide ((L.length : Int) < (L.length : Int)) = false := dec_f (by omega)
        have hX : X = Sm.zip L M := List.ext_getElem? fun j => by
          by_cases hj : j < L.length
          · exact hxz j hj
          · rw [List.getElem?_eq_none (by omega), List.getElem?_eq_none (by rw [Sm.zip_len HGL.out]; omega)]
        have R3 := Lib.hid (fun w' (hW : Below wr.heap.size wr w') => show LBt.Row w' (some ⟨g1, 0, none⟩) X from by
          obtain ⟨-, A', c', h1, -, hR⟩ := Lies.Row.of_own (E := LBt) ho1
          cases h1
          exact hR.below rfl hW)
        have R4 := Lib.hid (fun w' (hW : Below wr.heap.size wr w') => show LBt.Row w' (some ⟨g2, 0, none⟩) Z from by
          obtain ⟨-, A', c', h1, -, hR⟩ := Lies.Row.of_own (E := LBt) ho2
          cases h1
          exact hR.below rfl hW)
        have BX : Sm.Bytes X := by rw [hX]; exact Sm.zip_bytes HGL.out HBL.out HBM.out
        have BZ : Sm.Bytes Z := fun x hx => by
          rw [← HZE.out] at hx
          rw [(List.mem_replicate.1 hx).2]; decide
        have C3 := Lib.hid (fun w' (hW : Below wr.heap.size wr w') => show Calls Try.prog 10 #[.slice (some ⟨g1, 0, none⟩) L.length L.length] w' (fun e w'' => e = .returned (.int .u32 (Sm.of X : Nat)) ∧ w'' = w') from by
          have := spOf_any (some ⟨g1, 0, none⟩) L.length X w' (R3.out _ hW) BX (by omega)
          rwa [hxl] at this)
        have C4 := Lib.hid (fun w' (hW : Below wr.heap.size wr w') => show Calls Try.prog 10 #[.slice (some ⟨g2, 0, none⟩) L.length L.length] w' (fun e w'' => e = .returned (.int .u32 (Sm.of Z : Nat)) ∧ w'' = w') from by
          have := spOf_any (some ⟨g2, 0, none⟩) L.length Z w' (R4.out _ hW) BZ (by have := HZ.out; omega)
          rwa [HZ.out] at this)
        have HST : Sm.of L ^^^ Sm.of M ^^^ Sm.of X = Sm.of Z := by
          rw [hX, ← HZE.out]
          exact Sm.steps L M HGL.out
        have e1 := u32_xor_nat (Sm.of L) (Sm.of M) (Sm.of_lt HBL.out) (Sm.of_lt HBM.out)
        have e2 := u32_xor_nat (Sm.of L ^^^ Sm.of M) (Sm.of X) (Nat.xor_lt_two_pow (n := 32) (Sm.of_lt HBL.out) (Sm.of_lt HBM.out)) (Sm.of_lt BX)
        rw [HST] at e2
        generalize Sm.of L ^^^ Sm.of M = s12 at e1 e2
        generalize Sm.of X = s3 at C3 e2
        generalize Sm.of Z = s4 at C4 e2
        generalize Sm.of L = s1 at C1 e1
        generalize Sm.of M = s2 at C2 e1
        clear hX BX BZ HST ho1 ho2 hbw hxl hxz
        go_wp2_with fail
        refine (AW.out _).mono ?_; rintro e w5 ⟨rfl, hb5⟩
        have B5 := Lib.hid hb5
        have B6 := Lib.hid (KB.out.trans (hb5.mono KB.out.size))
        clear hb5
        go_wp2_with fail
        refine (C1.out _ B6.out).mono ?_; rintro e w6 ⟨rfl, rfl⟩
        go_wp2_with fail
        refine (C2.out _ B6.out).mono ?_; rintro e w6 ⟨rfl, rfl⟩
        go_wp2_with fail
        refine (C3.out _ B5.out).mono ?_; rintro e w6 ⟨rfl, rfl⟩
        go_wp2_with fail
        refine (C4.out _ B5.out).mono ?_; rintro e w6 ⟨rfl, rfl⟩
        go_wp2_with fail
        go_ret
        exact ⟨rfl, B6.out⟩
  --]
end Go.Proofs.Ytjofpclmbjpgjaa
