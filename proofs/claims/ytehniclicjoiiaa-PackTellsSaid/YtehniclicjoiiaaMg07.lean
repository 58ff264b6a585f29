/-
  Texts of this claim, merged: PackTellsWalk.
-/
import Derived.Test.YtehniclicjoiiaaMg06
/-
  The walk of the law PackTells: it returns true.
-/
namespace Go.Proofs.Ytehniclicjoiiaa
open Go.RowKit

def Bd (p : Int) : Prop := -9223372036854775808 ≤ p ∧ p ≤ 9223372036854775807
theorem numAt_bd {L : List Nat} {p : Int} {bad : Bool} {s : Nat} (h : Bd p) (hl : L.length ≤ 1000000) : Bd (Pk.numAt L p bad s) := by
  unfold Pk.numAt
  split
  case isTrue hf =>
    have := (Pk.fits_iff.1 hf).2
    unfold Bd; omega
  case isFalse => exact h
theorem textAt_bd {L : List Nat} {p : Int} {bad : Bool} (h : Bd p) (hl : L.length ≤ 1000000) : Bd (Pk.textAt L p bad) := by
  unfold Pk.textAt
  split
  case isTrue hf =>
    unfold Pk.fitsT at hf
    rw [Bool.and_eq_true, decide_eq_true_eq] at hf
    have := (Pk.fits_iff.1 hf.1).2
    unfold Bd; omega
  case isFalse => exact h
set_option maxHeartbeats 16000000 in
set_option maxRecDepth 100000 in
theorem packTells_walk (A : Option Addr) (c n : Nat) (L : List Nat) (p : Int) (B : Option Addr) (d m : Nat) (M : List Nat) (W : World)
    (hn : L.length = n) (hL : LBt.Row W A L) (hc : n ≤ c) (_hl : n ≤ maxLen) (hb : Sm.Bytes L) (hp : (Lit.int .i64 p).wf = true) (hm : M.length = m) (hM : LBt.Row W B M) (_hd : m ≤ d) (_hk : m ≤ maxLen) (hb' : Sm.Bytes M) :
    Calls Try.prog 3 #[.slice A n c, .int .i64 p, .slice B m d] W fun e w' => e = .returned (.bool true) ∧ Below W.heap.size W w' := by
  --[
  subst hn hm
  have hp := wf_i64 hp
  have HL := Lib.hid hL
  have HM := Lib.hid hM
  have AW := Lib.hid (fun W => pkAwake_any W)
  by_cases g1 : 100 < L.length
  · have D1 : decide (100 < (L.length : Int)) = true := dec_t (by omega)
    go_enter Try.func3, Try.ntmps3
    go_wp2_with fail
    refine (AW.out _).mono ?_; rintro e w8 ⟨rfl, hb8⟩
    go_wp2_with fail
    go_ret
    exact ⟨rfl, hb8⟩
  have D1 : decide (100 < (L.length : Int)) = false := dec_f (by omega)
  by_cases g2 : 20 < M.length
  · have D2 : decide (20 < (M.length : Int)) = true := dec_t (by omega)
    go_enter Try.func3, Try.ntmps3
    go_wp2_with fail
    refine (AW.out _).mono ?_; rintro e w8 ⟨rfl, hb8⟩
    go_wp2_with fail
    go_ret
    exact ⟨rfl, hb8⟩
  have D2 : decide (20 < (M.length : Int)) = false := dec_f (by omega)
  have hl : L.length ≤ 100 := by omega
  have hml : M.length ≤ 20 := by omega
  have HLB := Lib.hid hb
  have HMB := Lib.hid hb'
  have HC := Lib.hid hc
  have HP := Lib.hid hp
  have g0 : W.heap.size ≤ W.heap.size + 1 := Nat.le_succ _
  have X1 := Lib.hid ((Below.refl W.heap.size W).alloc (Nat.le_refl _) (.cells #[.slice A L.length c, .int .i64 p, .bool false] 26))
  have X2 := Lib.hid (X1.out.alloc X1.out.size (.cells #[.slice A L.length c, .int .i64 p, .bool false] 28))
  have G1 := Lib.hid (show ((W.alloc (.cells #[.slice A L.length c, .int .i64 p, .bool false] 26)).alloc (.cells #[.slice A L.length c, .int .i64 p, .bool false] 28)).heap[W.heap.size]? = some (curO 26 A L.length c p false) from by
    rw [heap_alloc_old _ _ (by simp)]
    exact cur_new W 26 A L.length c p false)
  have G2 := Lib.hid (show ((W.alloc (.cells #[.slice A L.length c, .int .i64 p, .bool false] 26)).alloc (.cells #[.slice A L.length c, .int .i64 p, .bool false] 28)).heap[W.heap.size + 1]? = some (curO 28 A L.length c p false) from by
    have := cur_new (W.alloc (.cells #[.slice A L.length c, .int .i64 p, .bool false] 26)) 28 A L.length c p false
    rw [show (W.alloc (.cells #[.slice A L.length c, .int .i64 p, .bool false] 26)).heap.size = W.heap.size + 1 from by simp] at this
    exact this)
  clear hL hM g1 g2 hb hb' hc hp g0
  go_enter Try.func3, Try.ntmps3
  go_wp2_with fail
  generalize (W.alloc (.cells #[.slice A L.length c, .int .i64 p, .bool false] 26)).alloc (.cells #[.slice A L.length c, .int .i64 p, .bool false] 28) = w1 at X1 X2 G1 G2 ⊢
  have HP2 := Lib.hid (show Bd p from HP.out)
  obtain ⟨N, hN1, hN2⟩ : ∃ N : Nat, IntKind.u64.wrap p = (N : Int) ∧ p % 18446744073709551616 = (N : Int) := ⟨(p % 18446744073709551616).toNat, by rw [IntKind.wrap_u64]; omega, by omega⟩
  have HGL := Lib.hid (show W.heap.size ≤ W.heap.size + 1 from Nat.le_succ _)
  go_loopw [9, 10] (fun v9 _ w' => ∃ (j : Nat) (q : Int) (bad : Bool), j ≤ M.length ∧ v9 = .int .i64 j ∧ w'.heap[W.heap.size]? = some (curO 26 A L.length c q bad) ∧ w'.heap[W.heap.size + 1]? = some (curO 28 A L.length c q bad) ∧ Bd q ∧ Below W.heap.size W w') (fun v9 _ _ => M.length - (intOf v9).toNat)
  case atStart => exact ⟨0, p, false, Nat.zero_le _, rfl, G1.out, G2.out, HP2.out, X2.out⟩
  case round =>
    obtain ⟨j, q, bad, hj, rfl, hg1, hg2, hq, hbw⟩ := hrel
    have HB := Lib.hid hbw
    have H1 := Lib.hid hg1
    have H2 := Lib.hid hg2
    have HQ := Lib.hid hq
    have HS2 := Lib.hid (Array.getElem?_eq_some_iff.1 hg2).1
    have HR := Lib.hid (fun W' (hW : Below W.heap.size W W') => HL.out.below rfl hW)
    have HA := Lib.hid (fun k (hk : W.heap.size ≤ k) => show ∀ a, A = some a → L ≠ [] → a.block ≠ k from fun a ha hn => by
      have := row_block HL.out (by cases L with | nil => exact absurd rfl hn | cons x l => exact Nat.zero_lt_succ _) a ha
      omega)
    clear hg1 hg2 hq hbw
    by_cases hlt : j < M.length
    case pos =>
      obtain ⟨b, o, rfl, -, c0⟩ := bt_at (HM.out.below rfl HB.out) hlt
      have hx := HMB.out.at j
      generalize M.getD j 0 = x at c0 hx
      have d1 : decide ((j : Int) < (M.length : Int)) = true := dec_t (by omega)
      have i0 : (0 : Int) ≤ (j : Int) := Int.natCast_nonneg j
      have i1 : (j : Int) < (M.length : Int) := by omega
      have r1 : (x : Int).tmod 10 = ((x % 10 : Nat) : Int) := by rw [Int.tmod_eq_emod_of_nonneg (Int.natCast_nonneg x)]; omega
      have r2 : (x : Int) % 10 = ((x % 10 : Nat) : Int) := by omega
      have r3 : IntKind.i64.wrap ((x % 10 : Nat) : Int) = ((x % 10 : Nat) : Int) := IntWalk.i64_in _ (by omega)
      have hx9 : x % 10 ≤ 9 := by omega
      generalize x % 10 = y at r1 r2 r3 hx9
      have HY := Lib.hid hx9
      by_cases hy : y = 9
      case' pos =>
        have e1 : ((y : Int) == 9) = true := by rw [beq_iff_eq]; omega
        have C1 := Lib.hid (pkName_any A c L wr W.heap.size q bad (HR.out _ HB.out) HLB.out (by omega) HC.out HQ.out H1.out)
        clear hy hx hx9
        go_wp2_with fail
        refine C1.out.mono ?_; rintro e w2 ⟨rfl, k1, K1⟩
        have HB2 := Lib.hid (K1.below (Nat.le_refl _) HB.out)
        have hg2' := (K1.block HS2.out (Nat.succ_ne_self W.heap.size)).trans H2.out
        have hs1 : W.heap.size < w2.heap.size := (Array.getElem?_eq_some_iff.1 k1).1
        have C2 := Lib.hid (rkName_any A c L w2 (W.heap.size + 1) q bad (HR.out _ HB2.out) HLB.out (HA.out _ HGL.out) (by omega) HC.out HQ.out hg2')
        have KG1 := Lib.hid k1
        have KS1 := Lib.hid hs1
        clear k1 K1 hg2' hs1 C1
        go_wp2_with fail
        refine C2.out.mono ?_; rintro e w3 ⟨rfl, k2, K2⟩
        have HB3 := Lib.hid (K2.below HGL.out HB2.out)
        have HQ2 := Lib.hid (textAt_bd (L := L) (p := q) (bad := bad) HQ.out (show L.length ≤ 1000000 by omega))
        have hg1 := (K2.block KS1.out (Nat.ne_of_lt (Nat.lt_succ_self W.heap.size))).trans KG1.out
        have hg2 := k2
        clear k2 K2 C2 KG1 KS1
        generalize Pk.textAt L q bad = q2 at hg1 hg2 HQ2
        generalize (!Pk.fitsT L q bad) = b2 at hg1 hg2
        go_upto_region 13 with fail
      case' neg =>
        have e1 : ((y : Int) == 9) = false := by rw [beq_eq_false_iff_ne]; omega
        have HY8 := Lib.hid (show y ≤ 8 by omega)
        have C1 := Lib.hid (pkTake_any A c L wr W.heap.size q bad y (HR.out _ HB.out) HLB.out (by omega) HC.out HQ.out (by omega) H1.out)
        clear hy hx hx9
        go_wp2_with fail
        refine C1.out.mono ?_; rintro e w2 ⟨rfl, k1, K1⟩
        have HB2 := Lib.hid (K1.below (Nat.le_refl _) HB.out)
        have hg2' := (K1.block HS2.out (Nat.succ_ne_self W.heap.size)).trans H2.out
        have hs1 : W.heap.size < w2.heap.size := (Array.getElem?_eq_some_iff.1 k1).1
        have C2 := Lib.hid (rkTake_any A c L w2 (W.heap.size + 1) q bad y (HR.out _ HB2.out) HLB.out (by omega) HQ.out HY8.out hg2')
        have KG1 := Lib.hid k1
        have KS1 := Lib.hid hs1
        clear k1 K1 hg2' hs1 C1
        go_wp2_with fail
        refine C2.out.mono ?_; rintro e w3 ⟨rfl, k2, K2⟩
        have HB3 := Lib.hid (K2.below HGL.out HB2.out)
        have HQ2 := Lib.hid (numAt_bd (L := L) (p := q) (bad := bad) (s := y) HQ.out (show L.length ≤ 1000000 by omega))
        have hg1 := (K2.block KS1.out (Nat.ne_of_lt (Nat.lt_succ_self W.heap.size))).trans KG1.out
        have hg2 := k2
        clear k2 K2 C2 KG1 KS1
        generalize Pk.numAt L q bad y = q2 at hg1 hg2 HQ2
        generalize (!Pk.fits L q bad y) = b2 at hg1 hg2
        go_upto_region 13 with fail
      all_goals
        obtain ⟨a0, a1, a2⟩ := cur_cells hg1
        obtain ⟨b0, b1, b2'⟩ := cur_cells hg2
        have HG1 := Lib.hid hg1
        have HG2 := Lib.hid hg2
        clear hg1 hg2
        have U3 := Lib.hid (Below.refl w3.heap.size w3)
        have mn : min (y : Int) 8 = ((min y 8 : Nat) : Int) := by omega
        have hs8 : min y 8 ≤ 8 := by omega
        have CP := Lib.hid (fun W' (hW : Below w3.heap.size w3 W') => pkPut_any A c L N (min y 8) W' (HR.out _ (HB3.out.trans (hW.mono HB3.out.size))) (by omega) hs8)
        have CR := Lib.hid (fun W' (hW : Below w3.heap.size w3 W') => rkPut_any A c L N (min y 8) W' (HR.out _ (HB3.out.trans (hW.mono HB3.out.size))) (by omega) hs8)
        have HK := Lib.hid (fun W' (hW : Below w3.heap.size w3 W') => And.intro ((hW.block _ (Array.getElem?_eq_some_iff.1 HG1.out).1).trans HG1.out) (And.intro ((hW.block _ (Array.getElem?_eq_some_iff.1 HG2.out).1).trans HG2.out) (HB3.out.trans (hW.mono HB3.out.size))))
        generalize Pk.put L N (min y 8) = K at CP CR
        generalize min y 8 = s at mn CP CR hs8
        go_quiet (fail)
        go_upto_region 15 with fail
        clear a0 a1 a2 b0 b1 b2' hs8
        go_region_with (first
          | (go_at_call 11
             (with_reducible refine (CP.out _ h6.out).mono ?_)
             rintro e5 z5 ⟨v5, rfl, ho5, hb5⟩
             obtain ⟨-, B5, d5, rfl, -, hR5⟩ := Lies.Row.of_own (E := LBt) ho5
             have HR5 := Lib.hid hR5
             have h5 := Lib.hid ((h6.out : Below w3.heap.size w3 _).trans (hb5.mono (h6.out : Below w3.heap.size w3 _).size))
             have t5 := run_text hR5 d5
             have t65 := run_text (HR6.out.below rfl hb5) d6
             clear ho5 hb5 hR5)
          | (go_at_call 11
             (with_reducible refine (CP.out _ (below_drewN U3.out _).drew).mono ?_)
             rintro e5 z5 ⟨v5, rfl, ho5, hb5⟩
             obtain ⟨-, B5, d5, rfl, -, hR5⟩ := Lies.Row.of_own (E := LBt) ho5
             have HR5 := Lib.hid hR5
             have h5 := Lib.hid (((below_drewN U3.out _).drew : Below w3.heap.size w3 _).trans (hb5.mono ((below_drewN U3.out _).drew : Below w3.heap.size w3 _).size))
             have t5 := run_text hR5 d5
             clear ho5 hb5 hR5)
          | (go_at_call 11
             (with_reducible refine (CP.out _ (below_drewN U3.out _)).mono ?_)
             rintro e5 z5 ⟨v5, rfl, ho5, hb5⟩
             obtain ⟨-, B5, d5, rfl, -, hR5⟩ := Lies.Row.of_own (E := LBt) ho5
             have HR5 := Lib.hid hR5
             have h5 := Lib.hid (((below_drewN U3.out _) : Below w3.heap.size w3 _).trans (hb5.mono ((below_drewN U3.out _) : Below w3.heap.size w3 _).size))
             have t5 := run_text hR5 d5
             clear ho5 hb5 hR5)
          | (go_at_call 11
             (with_reducible refine (CP.out _ U3.out.drew).mono ?_)
             rintro e5 z5 ⟨v5, rfl, ho5, hb5⟩
             obtain ⟨-, B5, d5, rfl, -, hR5⟩ := Lies.Row.of_own (E := LBt) ho5
             have HR5 := Lib.hid hR5
             have h5 := Lib.hid ((U3.out.drew : Below w3.heap.size w3 _).trans (hb5.mono (U3.out.drew : Below w3.heap.size w3 _).size))
             have t5 := run_text hR5 d5
             clear ho5 hb5 hR5)
          | (go_at_call 12
             (with_reducible refine (CR.out _ h5.out).mono ?_)
             rintro e6 z6 ⟨v6, rfl, ho6, hb6⟩
             obtain ⟨-, B6, d6, rfl, -, hR6⟩ := Lies.Row.of_own (E := LBt) ho6
             have HR6 := Lib.hid hR6
             have h6 := Lib.hid ((h5.out : Below w3.heap.size w3 _).trans (hb6.mono (h5.out : Below w3.heap.size w3 _).size))
             have t6 := run_text hR6 d6
             have t56 := run_text (HR5.out.below rfl hb6) d5
             clear ho6 hb6 hR6)
          | (go_at_call 12
             (with_reducible refine (CR.out _ (below_drewN U3.out _).drew).mono ?_)
             rintro e6 z6 ⟨v6, rfl, ho6, hb6⟩
             obtain ⟨-, B6, d6, rfl, -, hR6⟩ := Lies.Row.of_own (E := LBt) ho6
             have HR6 := Lib.hid hR6
             have h6 := Lib.hid (((below_drewN U3.out _).drew : Below w3.heap.size w3 _).trans (hb6.mono ((below_drewN U3.out _).drew : Below w3.heap.size w3 _).size))
             have t6 := run_text hR6 d6
             clear ho6 hb6 hR6)
          | (go_at_call 12
             (with_reducible refine (CR.out _ (below_drewN U3.out _)).mono ?_)
             rintro e6 z6 ⟨v6, rfl, ho6, hb6⟩
             obtain ⟨-, B6, d6, rfl, -, hR6⟩ := Lies.Row.of_own (E := LBt) ho6
             have HR6 := Lib.hid hR6
             have h6 := Lib.hid (((below_drewN U3.out _) : Below w3.heap.size w3 _).trans (hb6.mono ((below_drewN U3.out _) : Below w3.heap.size w3 _).size))
             have t6 := run_text hR6 d6
             clear ho6 hb6 hR6)
          | (go_at_call 12
             (with_reducible refine (CR.out _ U3.out.drew).mono ?_)
             rintro e6 z6 ⟨v6, rfl, ho6, hb6⟩
             obtain ⟨-, B6, d6, rfl, -, hR6⟩ := Lies.Row.of_own (E := LBt) ho6
             have HR6 := Lib.hid hR6
             have h6 := Lib.hid ((U3.out.drew : Below w3.heap.size w3 _).trans (hb6.mono (U3.out.drew : Below w3.heap.size w3 _).size))
             have t6 := run_text hR6 d6
             clear ho6 hb6 hR6))
        all_goals go_wp2_with fail
        all_goals go_roundw
        all_goals first
          | exact ⟨j + 1, q2, b2, by omega, by go_num, (HK.out _ h6.out).1, (HK.out _ h6.out).2.1, HQ2.out, (HK.out _ h6.out).2.2⟩
          | exact ⟨j + 1, q2, b2, by omega, by go_num, (HK.out _ h5.out).1, (HK.out _ h5.out).2.1, HQ2.out, (HK.out _ h5.out).2.2⟩
          | (simp [intOf]; omega)
    case neg =>
      obtain rfl : j = M.length := by omega
      have d1 : decide ((M.length : Int) < (M.length : Int)) = false := dec_f (by omega)
      have t0 := run_text (HR.out _ HB.out) c
      have hsz : (btext L).size = L.length := by
        show (strOfNums (bnums L)).size = _
        rw [strOfNums_size, bnums_len]
      have CP := Lib.hid (fun W' (hW : Below wr.heap.size wr W') => pkPutName_any B d M (btext L) W' (HM.out.below rfl (HB.out.trans (hW.mono HB.out.size))) (by omega) (by omega))
      have CR := Lib.hid (fun W' (hW : Below wr.heap.size wr W') => rkPutName_any B d M (btext L) W' (HM.out.below rfl (HB.out.trans (hW.mono HB.out.size))) (by omega) (by omega))
      have U0 := Lib.hid (Below.refl wr.heap.size wr)
      generalize btext L = s at t0 CP CR
      generalize Pk.name M (sbytes s) = K at CP CR
      clear hsz
      go_upto_region 18 with fail
      clear t0
      go_region_with (first
        | (go_at_call 6
           (with_reducible refine (AW.out _).mono ?_)
           rintro e0 z0 ⟨rfl, hb0⟩
           have h0 := Lib.hid (show Below wr.heap.size wr z0 from U0.out.drew.trans hb0)
           clear hb0)
        | (go_at_call 13
           (with_reducible refine (CP.out _ h6.out).mono ?_)
           rintro e5 z5 ⟨v5, rfl, ho5, hb5⟩
           obtain ⟨-, B5, d5, rfl, -, hR5⟩ := Lies.Row.of_own (E := LBt) ho5
           have HR5 := Lib.hid hR5
           have h5 := Lib.hid (h6.out.trans (hb5.mono h6.out.size))
           have t5 := run_text hR5 d5
           have t65 := run_text (HR6.out.below rfl hb5) d6
           clear ho5 hb5 hR5)
        | (go_at_call 13
           (with_reducible refine (CP.out _ h0.out).mono ?_)
           rintro e5 z5 ⟨v5, rfl, ho5, hb5⟩
           obtain ⟨-, B5, d5, rfl, -, hR5⟩ := Lies.Row.of_own (E := LBt) ho5
           have HR5 := Lib.hid hR5
           have h5 := Lib.hid (h0.out.trans (hb5.mono h0.out.size))
           have t5 := run_text hR5 d5
           clear ho5 hb5 hR5)
        | (go_at_call 14
           (with_reducible refine (CR.out _ h5.out).mono ?_)
           rintro e6 z6 ⟨v6, rfl, ho6, hb6⟩
           obtain ⟨-, B6, d6, rfl, -, hR6⟩ := Lies.Row.of_own (E := LBt) ho6
           have HR6 := Lib.hid hR6
           have h6 := Lib.hid (h5.out.trans (hb6.mono h5.out.size))
           have t6 := run_text hR6 d6
           have t56 := run_text (HR5.out.below rfl hb6) d5
           clear ho6 hb6 hR6)
        | (go_at_call 14
           (with_reducible refine (CR.out _ h0.out).mono ?_)
           rintro e6 z6 ⟨v6, rfl, ho6, hb6⟩
           obtain ⟨-, B6, d6, rfl, -, hR6⟩ := Lies.Row.of_own (E := LBt) ho6
           have HR6 := Lib.hid hR6
           have h6 := Lib.hid (h0.out.trans (hb6.mono h0.out.size))
           have t6 := run_text hR6 d6
           clear ho6 hb6 hR6))
      all_goals rename_i KK kk
      all_goals (refine kk _ _ ?_)
      all_goals go_wp2_with fail
      all_goals first
        | exact post_put rfl rfl (by simp only [put_size]; exact Nat.le_of_ble_eq_true rfl) (by simp only [put_defers]) ⟨rfl, HB.out.trans (h6.out.mono HB.out.size)⟩
        | exact post_put rfl rfl (by simp only [put_size]; exact Nat.le_of_ble_eq_true rfl) (by simp only [put_defers]) ⟨rfl, HB.out.trans (h5.out.mono HB.out.size)⟩
  --]
end Go.Proofs.Ytehniclicjoiiaa
