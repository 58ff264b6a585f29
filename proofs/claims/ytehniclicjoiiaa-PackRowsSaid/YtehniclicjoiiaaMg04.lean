/-
  Texts of this claim, merged: PkRef, PkPrA.
-/
import Derived.Test.YtehniclicjoiiaaMg02
/-
  The walks of the document's layer 17: Take, Name, Put, Name of a text.
-/
namespace Go.Proofs.Ytehniclicjoiiaa
open Go.RowKit

theorem Pk.shl8 (u x : Nat) (h : u < 72057594037927936) (hx : x < 256) : IntKind.u64.wrap ((u : Int) * 256) = ((u * 256 : Nat) : Int) ∧ (u : Int) * 256 % 18446744073709551616 = ((u * 256 : Nat) : Int) ∧ bits .or .u64 ((u * 256 : Nat) : Int) (x : Int) = ((u * 256 + x : Nat) : Int) := by
  refine ⟨by rw [IntKind.wrap_u64]; omega, by omega, ?_⟩
  rw [u64_or_nat _ _ (by omega) (by omega)]
  congr 1
  have := Nat.two_pow_add_eq_or_of_lt (i := 8) (show x < 2 ^ 8 from hx) u
  rw [Nat.mul_comm u, show (256 : Nat) = 2 ^ 8 from rfl, ← this]
set_option maxHeartbeats 8000000 in
set_option maxRecDepth 100000 in
theorem rkTake_any (A : Option Addr) (c : Nat) (L : List Nat) (w : World) (g : Nat) (p : Int) (bad : Bool) (s : Nat) (h : LBt.Row w A L) (hL : Sm.Bytes L) (hl : L.length ≤ 1000000)
    (hp : -9223372036854775808 ≤ p ∧ p ≤ 9223372036854775807) (hs : s ≤ 8) (hg : w.heap[g]? = some (curO 28 A L.length c p bad)) :
    Calls Try.prog 10 #[.pointer (some ⟨g, 0, none⟩), .int .i64 s] w (CurIs g (curO 28 A L.length c (Pk.numAt L p bad s) (!Pk.fits L p bad s)) (.int .u64 (Pk.num L p bad s : Nat)) w) := by
  --[
  obtain ⟨c0, c1, c2⟩ := cur_cells hg
  obtain ⟨z1, z2⟩ := cur_free hg
  have HG := Lib.hid hg
  have K0 := Lib.hid (Kept.refl g w)
  by_cases hf : Pk.fits L p bad s = true
  case neg =>
    have e1 : Pk.numAt L p bad s = p := if_neg hf
    have e2 : Pk.num L p bad s = 0 := if_neg hf
    have e3 : Pk.fits L p bad s = false := by simpa using hf
    rw [e1, e2, e3]
    have HF := Lib.hid (fun q => show CurIs g (curO 28 A L.length c p (!false)) (.int .u64 ((0 : Nat) : Int)) w (.returned (.int .u64 0)) ((w.drewN q).setCell ⟨g, 2, none⟩ (.bool true)) from ⟨rfl, cur_bad (w := w.drewN q) hg true, (K0.out.drewN q).set 2 _⟩)
    have q0 : 0 ≤ p → p ≤ L.length → IntKind.i64.wrap ((L.length : Int) - p) = (L.length : Int) - p := fun _ _ => IntWalk.i64_in _ (by omega)
    cases bad with
    | true =>
      clear h hg e1 e2 e3 hf q0
      go_enter Try.func10, Try.ntmps10
      go_upto_region 1 with fail
      go_quiet (fail)
      go_wp2_with fail
      go_ret
      exact HF.out _
    | false =>
      have hf2 : ¬ (0 ≤ p ∧ p + s ≤ L.length) := fun h2 => hf (Pk.fits_iff.2 ⟨rfl, h2⟩)
      by_cases h1 : p < 0
      · have D1 : decide (p < 0) = true := dec_t h1
        clear h hg e1 e2 e3 hf q0 hf2 h1
        go_enter Try.func10, Try.ntmps10
        go_upto_region 1 with fail
        go_quiet (fail)
        go_wp2_with fail
        go_ret
        exact HF.out _
      · have D1 : decide (p < 0) = false := dec_f h1
        by_cases h2 : (L.length : Int) < p
        · have D2 : decide ((L.length : Int) < p) = true := dec_t h2
          clear h hg e1 e2 e3 hf q0 hf2 h1 h2
          go_enter Try.func10, Try.ntmps10
          go_upto_region 1 with fail
          go_quiet (fail)
          go_wp2_with fail
          go_ret
          exact HF.out _
        · have D2 : decide ((L.length : Int) < p) = false := dec_f h2
          have q1 := q0 (by omega) (by omega)
          have D3 : decide ((L.length : Int) - p < (s : Int)) = true := dec_t (by omega)
          clear h hg e1 e2 e3 hf q0 hf2 h1 h2
          go_enter Try.func10, Try.ntmps10
          go_upto_region 1 with fail
          go_quiet (fail)
          go_wp2_with fail
          go_ret
          exact HF.out _
  case pos =>
    obtain ⟨rfl, h0, h1⟩ := Pk.fits_iff.1 hf
    have e1 : Pk.numAt L p false s = p + s := if_pos hf
    have e2 : Pk.num L p false s = Pk.val (Pk.got L p s) := if_pos hf
    rw [e1, e2, hf]
    have HF := Lib.hid (fun q => show CurIs g (curO 28 A L.length c (p + s) (!true)) (.int .u64 (Pk.val (Pk.got L p s) : Nat)) w (.returned (.int .u64 (Pk.val (Pk.got L p s) : Nat))) ((w.drewN q).setCell ⟨g, 1, none⟩ (.int .i64 (p + s))) from ⟨rfl, cur_at (w := w.drewN q) hg (p + s), (K0.out.drewN q).set 1 _⟩)
    obtain ⟨m, rfl⟩ : ∃ m : Nat, p = (m : Int) := ⟨p.toNat, by omega⟩
    have hgl := Pk.got_len (B := L) h0 h1
    have HGB := Lib.hid (Pk.got_bytes hL m s)
    have HGA := Lib.hid (fun k (hk : k < s) => show (Pk.got L m s)[k]? = some (L.getD (m + k) 0) from by
      unfold Pk.got
      rw [List.getElem?_take_of_lt hk, List.getElem?_drop, Int.toNat_natCast, List.getD_eq_getElem?_getD, List.getElem?_eq_getElem (by omega)]
      rfl)
    have D1 : decide ((m : Int) < 0) = false := dec_f (by omega)
    have D2 : decide (L.length < m) = false := dec_f (by omega)
    have q1 : IntKind.i64.wrap ((L.length : Int) - (m : Int)) = (L.length : Int) - (m : Int) := IntWalk.i64_in _ (by omega)
    have D3 : decide ((L.length : Int) - (m : Int) < (s : Int)) = false := dec_f (by omega)
    have HR := Lib.hid h
    have HLB := Lib.hid hL
    have q2 : IntKind.i64.wrap ((m : Int) + (s : Int)) = (m : Int) + (s : Int) := IntWalk.i64_in _ (by omega)
    clear h hg e1 e2 hf hL
    go_enter Try.func10, Try.ntmps10
    go_upto_region 1 with fail
    go_quiet (fail)
    rename_i nq
    have HD0 := Lib.hid (show ∃ q, w.drewN nq = w.drewN q from ⟨nq, rfl⟩)
    go_wp2_with fail
    go_loopw [5, 6] (fun v5 v6 w' => ∃ k : Nat, k ≤ s ∧ v6 = .int .i64 k ∧ v5 = .int .u64 (Pk.val ((Pk.got L m s).take k) : Nat) ∧ ∃ q, w' = w.drewN q) (fun _ v6 _ => s - (intOf v6).toNat)
    case atStart => exact ⟨0, Nat.zero_le _, rfl, rfl, HD0.out⟩
    case round =>
      obtain ⟨k, hk, rfl, rfl, q, rfl⟩ := hrel
      by_cases hlt : k < s
      · obtain ⟨b, o, rfl, -, c3⟩ := bt_at HR.out (show m + k < L.length by omega)
        have HV := Lib.hid (Pk.val_take (HGA.out k hlt))
        have hu := Pk.val_lt (HGB.out.take k)
        have hx := HLB.out.at (m + k)
        have hu2 : Pk.val ((Pk.got L m s).take k) < 72057594037927936 := by
          rw [List.length_take, Nat.min_eq_left (by omega)] at hu
          exact Nat.lt_of_lt_of_le hu (Nat.pow_le_pow_right (n := 256) (by decide) (show k ≤ 7 by omega))
        generalize L.getD (m + k) 0 = x at c3 HV hx
        generalize Pk.val ((Pk.got L m s).take k) = u at HV hu2 ⊢
        obtain ⟨s1, s2, s3⟩ := Pk.shl8 u x hu2 hx
        have s4 : IntKind.u64.wrap (x : Int) = (x : Int) := by rw [IntKind.wrap_u64]; omega
        generalize hy : u * 256 + x = y at s3 HV
        generalize u * 256 = u2 at s1 s2 s3
        have d1 : decide ((k : Int) < (s : Int)) = true := dec_t (by omega)
        have a1 : IntKind.i64.wrap ((m : Int) + (k : Int)) = ((m + k : Nat) : Int) := by rw [IntWalk.i64_in _ (by omega)]; omega
        have i0 : (0 : Int) ≤ ((m + k : Nat) : Int) := Int.natCast_nonneg _
        have i1 : ((m + k : Nat) : Int) < (L.length : Int) := by omega
        generalize m + k = i at a1 i0 i1 c3
        clear hu hu2 hx hy
        go_upto_region 8 with fail
        go_quiet (fail)
        go_wp2_with fail
        go_roundw
        case rel => exact ⟨k + 1, by omega, by go_num, by rw [HV.out], _, rfl⟩
        case measure => simp [intOf]; omega
      · obtain rfl : k = s := by omega
        have d1 : decide ((k : Int) < (k : Int)) = false := dec_f (by omega)
        have HT := Lib.hid (show (Pk.got L m k).take k = Pk.got L m k from List.take_of_length_le (by rw [hgl]; exact Nat.le_refl _))
        rw [HT.out]
        go_wp2_with fail
        go_ret
        exact HF.out _
  --]
set_option maxHeartbeats 8000000 in
set_option maxRecDepth 100000 in
theorem rkName_any (A : Option Addr) (c : Nat) (L : List Nat) (w : World) (g : Nat) (p : Int) (bad : Bool) (h : LBt.Row w A L) (hL : Sm.Bytes L) (hA : ∀ a, A = some a → L ≠ [] → a.block ≠ g) (hl : L.length ≤ 1000000) (hc : L.length ≤ c)
    (hp : -9223372036854775808 ≤ p ∧ p ≤ 9223372036854775807) (hg : w.heap[g]? = some (curO 28 A L.length c p bad)) :
    Calls Try.prog 8 #[.pointer (some ⟨g, 0, none⟩)] w (CurIs g (curO 28 A L.length c (Pk.textAt L p bad) (!Pk.fitsT L p bad)) (.string (btext (Pk.text L p bad))) w) := by
  --[
  obtain ⟨-, c1, -⟩ := cur_cells hg
  have CT := Lib.hid (rkTake_any A c L w g p bad 1 h hL hl hp (by decide) hg)
  have HR := Lib.hid h
  have HA := Lib.hid hA
  have HE := Lib.hid (show btext [] = ⟨#[]⟩ from rfl)
  have hN := Pk.num_lt hL p bad 1
  generalize hNN : Pk.num L p bad 1 = N at CT hN
  have q0 : IntKind.i64.wrap (N : Int) = (N : Int) := IntWalk.i64_in _ (by omega)
  by_cases hf : Pk.fits L p bad 1 = true
  case neg =>
    have e0 : Pk.fits L p bad 1 = false := by simpa using hf
    have e1 : Pk.fitsT L p bad = false := by unfold Pk.fitsT; rw [e0]; rfl
    have e2 : Pk.textAt L p bad = p := if_neg (by rw [e1]; exact Bool.false_ne_true)
    have e3 : Pk.text L p bad = [] := if_neg (by rw [e1]; exact Bool.false_ne_true)
    have e4 : Pk.numAt L p bad 1 = p := if_neg hf
    rw [e1, e2, e3, HE.out]
    rw [e0, e4] at CT
    clear hg h hA hf e0 e1 e2 e3 e4 hL hN hNN
    go_enter Try.func8, Try.ntmps8
    go_wp2_with fail
    refine CT.out.mono ?_; rintro e w1 ⟨rfl, hg1, hk1⟩
    obtain ⟨c0, c1, c2⟩ := cur_cells hg1
    obtain ⟨z1, z2⟩ := cur_free hg1
    have HF := Lib.hid (fun q => show CurIs g (curO 28 A L.length c p (!false)) (.string ⟨#[]⟩) w (.returned (.string ⟨#[]⟩)) (((w1.drewN q).setCell ⟨g, 1, none⟩ (.int .i64 p)).setCell ⟨g, 2, none⟩ (.bool true)) from
      ⟨rfl, cur_bad (cur_at (w := w1.drewN q) hg1 p) true, ((hk1.drewN q).set 1 _).set 2 _⟩)
    clear hg1 hk1 CT
    go_upto_region 3 with fail
    go_quiet (fail)
    go_wp2_with fail
    go_ret
    exact HF.out _
  case pos =>
    obtain ⟨rfl, h0, h1⟩ := Pk.fits_iff.1 hf
    have e4 : Pk.numAt L p false 1 = p + 1 := if_pos hf
    rw [hf, e4] at CT
    by_cases ht : p + 1 + (N : Int) ≤ L.length
    case neg =>
      have e1 : Pk.fitsT L p false = false := by unfold Pk.fitsT; rw [hf, hNN, decide_eq_false ht]; rfl
      have e2 : Pk.textAt L p false = p := if_neg (by rw [e1]; exact Bool.false_ne_true)
      have e3 : Pk.text L p false = [] := if_neg (by rw [e1]; exact Bool.false_ne_true)
      rw [e1, e2, e3, HE.out]
      have q1 : IntKind.i64.wrap ((L.length : Int) - (p + 1)) = (L.length : Int) - (p + 1) := IntWalk.i64_in _ (by omega)
      have D1 : decide ((L.length : Int) - (p + 1) < (N : Int)) = true := dec_t (by omega)
      clear hg h hA hf e1 e2 e3 e4 hL hN hNN h0 h1 ht
      go_enter Try.func8, Try.ntmps8
      go_wp2_with fail
      refine CT.out.mono ?_; rintro e w1 ⟨rfl, hg1, hk1⟩
      obtain ⟨c0, c1, c2⟩ := cur_cells hg1
      obtain ⟨z1, z2⟩ := cur_free hg1
      have HF := Lib.hid (fun q => show CurIs g (curO 28 A L.length c p (!false)) (.string ⟨#[]⟩) w (.returned (.string ⟨#[]⟩)) (((w1.drewN q).setCell ⟨g, 1, none⟩ (.int .i64 p)).setCell ⟨g, 2, none⟩ (.bool true)) from
        ⟨rfl, cur_bad (cur_at (w := w1.drewN q) hg1 p) true, ((hk1.drewN q).set 1 _).set 2 _⟩)
      clear hg1 hk1 CT
      go_upto_region 3 with fail
      go_quiet (fail)
      go_wp2_with fail
      go_ret
      exact HF.out _
    case pos =>
      have e1 : Pk.fitsT L p false = true := by unfold Pk.fitsT; rw [hf, hNN, decide_eq_true ht]; rfl
      have e2 : Pk.textAt L p false = p + 1 + (N : Int) := by rw [← hNN]; exact if_pos e1
      have e3 : Pk.text L p false = Pk.got L (p + 1) N := by rw [← hNN]; exact if_pos e1
      rw [e1, e2, e3]
      obtain ⟨m, hm⟩ : ∃ m : Nat, p + 1 = (m : Int) := ⟨(p + 1).toNat, by omega⟩
      rw [hm] at CT ht ⊢
      have hgl := Pk.got_len (B := L) (p := (m : Int)) (s := N) (by omega) ht
      have q1 : IntKind.i64.wrap ((L.length : Int) - (m : Int)) = (L.length : Int) - (m : Int) := IntWalk.i64_in _ (by omega)
      have D1 : decide ((L.length : Int) - (m : Int) < (N : Int)) = false := dec_f (by omega)
      have q2 : IntKind.i64.wrap ((m : Int) + (N : Int)) = (m : Int) + (N : Int) := IntWalk.i64_in _ (by omega)
      obtain ⟨b, o, rfl, -, -⟩ := bt_at h (show 0 < L.length by omega)
      have HX := Lib.hid (show Pk.got L m N = (L.drop m).take N from by unfold Pk.got; rw [Int.toNat_natCast])
      clear hg h hA hf e1 e2 e3 e4 hL hN hNN h0 h1 hm
      go_enter Try.func8, Try.ntmps8
      go_wp2_with fail
      refine CT.out.mono ?_; rintro e w1 ⟨rfl, hg1, hk1⟩
      obtain ⟨c0, c1, c2⟩ := cur_cells hg1
      obtain ⟨z1, z2⟩ := cur_free hg1
      have HR1 := Lib.hid (hk1.row HA.out HR.out)
      have HF := Lib.hid (fun q v => show CurIs g (curO 28 (some ⟨b, o, none⟩) L.length c ((m : Int) + (N : Int)) (!true)) v w (.returned v) ((w1.drewN q).setCell ⟨g, 1, none⟩ (.int .i64 ((m : Int) + (N : Int)))) from
        ⟨rfl, cur_at (w := w1.drewN q) hg1 _, (hk1.drewN q).set 1 _⟩)
      clear hg1 hk1 CT
      by_cases hcm : c = m
      · have hN0 : N = 0 := by omega
        subst hN0
        have t1 : ∀ (q : Nat) (A' : Option Addr) d, (convert 22 9 (.slice A' 0 d)).run Try.prog (w1.drewN q) = .ok (.string (btext [])) (w1.drewN q) := fun q A' d => run_text (w := w1.drewN q) (A := A') (L := []) (.inl rfl) d
        have HX0 := Lib.hid (show btext (Pk.got L m 0) = btext [] from by rw [HX.out, List.take_zero])
        go_upto_region 3 with fail
        go_quiet (fail)
        go_upto_region 6 with fail
        go_quiet (fail)
        go_wp2_with fail
        go_ret
        rw [HX0.out]
        exact HF.out _ _
      · have HXL := Lib.hid (show (Pk.got L m N).length = N from hgl)
        have t1 : ∀ (q : Nat), (convert 22 9 (.slice (some ⟨b, o + m, none⟩) N (c - m))).run Try.prog (w1.drewN q) = .ok (.string (btext (Pk.got L m N))) (w1.drewN q) := fun q => by
          have R := Lies.Row.take LBt (Lies.Row.drop LBt (HR1.out.below rfl (below_drewN (Below.refl w1.heap.size w1) q)) m) N
          rw [show m * LBt.m = m from Nat.mul_one m, ← HX.out] at R
          have := run_text R (c - m)
          rwa [HXL.out] at this
        clear hgl
        go_upto_region 3 with fail
        go_quiet (fail)
        go_upto_region 6 with fail
        go_quiet (fail)
        go_wp2_with fail
        go_ret
        exact HF.out _ _
  --]
theorem Pk.shr_byte (n t : Nat) : IntKind.u8.wrap ((n : Int) / 2 ^ (8 * t)) = ((n / 256 ^ t % 256 : Nat) : Int) ∧ (n : Int) / 2 ^ (8 * t) % 256 = ((n / 256 ^ t % 256 : Nat) : Int) := by
  have e : (n : Int) / 2 ^ (8 * t) = ((n / 256 ^ t : Nat) : Int) := by
    rw [show (256 : Nat) = 2 ^ 8 from rfl, ← Nat.pow_mul]
    simp
  rw [e, IntKind.wrap_u8]
  exact ⟨by omega, by omega⟩
set_option maxHeartbeats 8000000 in
set_option maxRecDepth 100000 in
theorem rkPut_any (A : Option Addr) (c : Nat) (L : List Nat) (N s : Nat) (w : World) (h : LBt.Row w A L) (hl : L.length ≤ 100000) (hs : s ≤ 8) :
    Calls Try.prog 12 #[.slice A L.length c, .int .u64 N, .int .i64 s] w (BtOwn (Pk.put L N s) w) := by
  --[
  have HB := Lib.hid ((Below.refl w.heap.size w).alloc (Nat.le_refl _) (.cells #[] 5))
  have HR := Lib.hid (h.below rfl HB.out)
  have HO := Lib.hid (own_bytes0 w rfl (Nat.le_refl _))
  have HP := Lib.hid (show Pk.put L N s = L ++ (Pk.low N s).take s from by unfold Pk.put; rw [List.take_of_length_le (by rw [Pk.low_len]; exact Nat.le_refl _)])
  have HLL := Lib.hid (Pk.low_len N s)
  have q0 : IntKind.i64.wrap ((s : Int) - 1) = (s : Int) - 1 := IntWalk.i64_in _ (by omega)
  clear h
  obtain ⟨i0, hi, hz0, hz1, hz2⟩ := info_parts infoBt
  go_enter Try.func12, Try.ntmps12
  go_wp2_with (at_builtin; refine wpList_append_at LBt rfl (.tmp 9) (.tmp 10) 22 rfl w.heap.size 5 i0 _ 1 Try.underlying22 hi hz0 hz1 hz2 rfl (.slice (some ⟨w.heap.size, 0, none⟩) 0 0) 0 [] rfl HO.out A L.length c L rfl rfl HR.out (by omega) (by omega) (by simp) ?_; intro v1 w1 hown hg)
  have HB1 := Lib.hid (Below.grown HB.out hg (by simp) (fun k hk => by cases hk; exact Nat.le_refl _))
  rw [Nat.zero_add, List.nil_append] at hown
  have HO1 := Lib.hid (show w1.ownsRow w.heap.size 5 LBt.m v1 (L ++ (Pk.low N s).take 0).length (LBt.all (L ++ (Pk.low N s).take 0)) from by rw [List.take_zero, List.append_nil]; exact hown)
  clear hg hown HR HB HO
  go_loopw [7, 8] (fun v7 v8 w' => ∃ j : Nat, j ≤ s ∧ v8 = .int .i64 ((s : Int) - 1 - (j : Int)) ∧ w'.ownsRow w.heap.size 5 LBt.m v7 (L ++ (Pk.low N s).take j).length (LBt.all (L ++ (Pk.low N s).take j)) ∧ Below w.heap.size w w') (fun _ v8 _ => ((intOf v8) + 1).toNat)
  case atStart => exact ⟨0, Nat.zero_le _, by go_num, HO1.out, HB1.out⟩
  case round =>
    obtain ⟨j, hj, rfl, ho, hb⟩ := hrel
    have HO2 := Lib.hid ho
    have HB2 := Lib.hid hb
    have HS2 := Lib.hid hb.size
    clear ho hb
    by_cases hlt : j < s
    · obtain ⟨t, hst⟩ : ∃ t, s = j + t + 1 := ⟨s - j - 1, by omega⟩
      have et : (s : Int) - 1 - (j : Int) = (t : Int) := by omega
      rw [et]
      have hat := Pk.low_at N j t
      rw [← hst] at hat
      obtain ⟨r1, r2⟩ := Pk.shr_byte N t
      have HL2 := Lib.hid (show L ++ (Pk.low N s).take (j + 1) = (L ++ (Pk.low N s).take j) ++ [N / 256 ^ t % 256] from by rw [List.take_add_one, hat, ← List.append_assoc]; rfl)
      have HJL := Lib.hid (show (L ++ (Pk.low N s).take j).length = L.length + j from by rw [List.length_append, List.length_take, HLL.out]; omega)
      generalize N / 256 ^ t % 256 = x at r1 r2 HL2
      have d1 : decide ((0 : Int) ≤ (t : Int)) = true := dec_t (by omega)
      have a1 : IntKind.i64.wrap (8 * (t : Int)) = ((8 * t : Nat) : Int) := by rw [IntWalk.i64_in _ (by omega)]; omega
      have a2 : IntKind.u64.wrap ((8 * t : Nat) : Int) = ((8 * t : Nat) : Int) := by rw [IntKind.wrap_u64]; omega
      have a3 : (0 : Int) ≤ ((8 * t : Nat) : Int) := Int.natCast_nonneg _
      have a4 : min (8 * t) 64 = 8 * t := by omega
      have a5 : IntKind.i64.wrap ((t : Int) - 1) = (t : Int) - 1 := IntWalk.i64_in _ (by omega)
      generalize 8 * t = t8 at a1 a2 a3 a4 r1 r2
      have HO3 := Lib.hid (HO2.out.alloc (.cells #[.int .u8 (x : Int)] 5))
      have HB3 := Lib.hid (HB2.out.alloc HS2.out (.cells #[.int .u8 (x : Int)] 5))
      have HX := Lib.hid (show LBt.Row (wr.alloc (.cells #[.int .u8 (x : Int)] 5)) (some ⟨wr.heap.size, 0, none⟩) [x] from Lies.Row.fresh (E := LBt) wr [x] 5)
      have HS3 := Lib.hid HB3.out.size
      have HST := Lib.hid hst
      clear hat hst et
      go_wp2_with (at_builtin; refine wpList_append_at LBt rfl (.tmp 18) (.tmp 25) 22 rfl w.heap.size 5 i0 _ 1 Try.underlying22 hi hz0 hz1 hz2 rfl _ (L ++ (Pk.low N s).take j).length (LBt.all (L ++ (Pk.low N s).take j)) rfl HO3.out (some ⟨wr.heap.size, 0, none⟩) 1 1 [x] rfl rfl HX.out (by rw [HJL.out]; omega) (by rw [HJL.out]; omega) HS3.out ?_; intro v4 w4 hown4 hg4)
      have HB4 := Lib.hid (Below.grown HB3.out hg4 HB3.out.size (fun b hb => (HO3.out.lt b hb).1))
      have HO4 := Lib.hid (show w4.ownsRow w.heap.size 5 LBt.m v4 (L ++ (Pk.low N s).take (j + 1)).length (LBt.all (L ++ (Pk.low N s).take (j + 1))) from by rw [HL2.out, List.length_append (bs := [x]), LBt.all_append (b := [x])]; exact hown4)
      clear hown4 hg4
      go_roundw
      case rel => exact ⟨j + 1, by omega, by have := HST.out; congr 1; omega, HO4.out, HB4.out⟩
      case measure => simp [intOf]
    · obtain rfl : j = s := by omega
      have d1 : decide ((0 : Int) ≤ (j : Int) - 1 - (j : Int)) = false := dec_f (by omega)
      go_wp2_with fail
      go_ret
      exact ⟨_, rfl, by rw [HP.out]; exact HO2.out, HB2.out⟩
  --]
set_option maxHeartbeats 8000000 in
set_option maxRecDepth 100000 in
theorem rkPutName_any (A : Option Addr) (c : Nat) (L : List Nat) (s : ByteArray) (w : World) (h : LBt.Row w A L) (hl : L.length ≤ 50000) (hs : s.size ≤ 40000) :
    Calls Try.prog 14 #[.slice A L.length c, .string s] w (BtOwn (Pk.name L (sbytes s)) w) := by
  --[
  have CP := Lib.hid (rkPut_any A c L s.size 1 w h (by omega) (by decide))
  have HP := Lib.hid (show Pk.name L (sbytes s) = Pk.put L s.size 1 ++ sbytes s from by unfold Pk.name; rw [sbytes_len])
  have HL := Lib.hid (Pk.put_len L s.size 1)
  have HSL := Lib.hid (sbytes_len s)
  have HC := Lib.hid (sbytes_cells s)
  have q0 : IntKind.u64.wrap (s.size : Int) = (s.size : Int) := by rw [IntKind.wrap_u64]; omega
  clear h
  obtain ⟨i0, hi, hz0, hz1, hz2⟩ := info_parts infoBt
  go_enter Try.func14, Try.ntmps14
  go_wp2_with fail
  refine CP.out.mono ?_; rintro e w1 ⟨v, rfl, ho, hb⟩
  have HO := Lib.hid ho
  have HB := Lib.hid hb
  clear ho hb CP
  go_wp2_with (at_builtin; refine Lib.wpList_append_own_string w1 rfl (.tmp 9) (.tmp 10) 22 9 rfl w.heap.size 5 i0 Try.underlying22 Try.underlying9 hi hz0 hz1 hz2 v (Pk.put L s.size 1).length (LBt.all (Pk.put L s.size 1)) rfl HO.out s rfl (by rw [HL.out]; unfold maxLen; omega) (by rw [HL.out]; omega) HB.out.size ?_; intro v1 w2 hown hg hnil)
  have HB2 := Lib.hid (Below.grown HB.out hg HB.out.size (fun b hb => (HO.out.lt b hb).1))
  have HO2 := Lib.hid (show w2.ownsRow w.heap.size 5 LBt.m v1 (Pk.name L (sbytes s)).length (LBt.all (Pk.name L (sbytes s))) from by
    rw [HP.out, List.length_append, HSL.out, LBt.all_append, ← HC.out]
    exact hown)
  clear hg hown hnil
  go_wp2_with fail
  go_ret
  exact ⟨_, rfl, HO2.out, HB2.out⟩
  --]
end Go.Proofs.Ytehniclicjoiiaa
/-
  The walks of the program's layer 17: which sizes may be, whether so many bytes are left, the next bytes.
-/
namespace Go.Proofs.Ytehniclicjoiiaa
open Go.RowKit

set_option maxHeartbeats 8000000 in
set_option maxRecDepth 100000 in
theorem pkSized_any (s : Nat) (w : World) (hs : s ≤ 8) : Calls Try.prog 16 #[.int .i64 s] w fun e w' => e = .returned (.bool true) ∧ w' = w := by
  --[
  have d0 : decide ((0 : Int) ≤ (s : Int)) = true := dec_t (by omega)
  have d1 : decide ((s : Int) ≤ 8) = true := dec_t (by omega)
  go_enter Try.func16, Try.ntmps16
  go_wp2_with fail
  go_ret
  exact ⟨rfl, rfl⟩
  --]
set_option maxHeartbeats 8000000 in
set_option maxRecDepth 100000 in
theorem pkHas_any (A : Option Addr) (c : Nat) (L : List Nat) (w : World) (g : Nat) (p : Int) (bad : Bool) (s : Nat) (hl : L.length ≤ 1000000)
    (hp : -9223372036854775808 ≤ p ∧ p ≤ 9223372036854775807) (hg : w.heap[g]? = some (curO 26 A L.length c p bad)) :
    Calls Try.prog 19 #[.pointer (some ⟨g, 0, none⟩), .int .i64 s] w fun e w' => e = .returned (.bool (Pk.fits L p bad s)) ∧ ∃ q, w' = w.drewN q := by
  --[
  obtain ⟨c0, c1, c2⟩ := cur_cells hg
  have q0 : 0 ≤ p → IntKind.i64.wrap ((L.length : Int) - p) = (L.length : Int) - p := fun _ => IntWalk.i64_in _ (by omega)
  have HZ := Lib.hid (show Pk.fits L p bad s = (!bad && decide (0 ≤ p) && decide ((s : Int) ≤ (L.length : Int) - p)) from by
    unfold Pk.fits
    rw [Bool.and_assoc, ← Bool.decide_and]
    congr 2
    rw [eq_iff_iff]; omega)
  generalize Pk.fits L p bad s = z at HZ ⊢
  clear hg
  cases bad with
  | true =>
    obtain rfl : z = false := HZ.out
    clear q0
    go_enter Try.func19, Try.ntmps19
    go_upto_region 1 with fail
    go_quiet (fail)
    go_wp2_with fail
    go_ret
    exact ⟨rfl, _, rfl⟩
  | false =>
    by_cases h0 : 0 ≤ p
    · have D1 : decide (0 ≤ p) = true := dec_t h0
      have q1 := q0 h0
      have HZ2 := Lib.hid (show decide ((s : Int) ≤ (L.length : Int) - p) = z from by rw [HZ.out, D1]; rfl)
      have D2 := HZ2.out
      clear q0 h0 HZ
      go_enter Try.func19, Try.ntmps19
      go_upto_region 1 with fail
      go_quiet (fail)
      go_wp2_with fail
      go_ret
      exact ⟨rfl, _, rfl⟩
    · have D1 : decide (0 ≤ p) = false := dec_f h0
      obtain rfl : z = false := by rw [HZ.out, D1]; rfl
      clear q0 h0 HZ
      go_enter Try.func19, Try.ntmps19
      go_upto_region 1 with fail
      go_quiet (fail)
      go_wp2_with fail
      go_ret
      exact ⟨rfl, _, rfl⟩
  --]
/-- The bytes that are cut off, and the cursor behind them. -/
def CutIs (g : Nat) (o : Obj) (M : List Nat) (w : World) (e : Ending) (w' : World) : Prop := ∃ B d, e = .returned (.slice B M.length d) ∧ LBt.Row w' B M ∧ M.length ≤ d ∧ w'.heap[g]? = some o ∧ Kept g w w'
set_option maxHeartbeats 8000000 in
set_option maxRecDepth 100000 in
theorem pkCut_any (A : Option Addr) (c : Nat) (L : List Nat) (w : World) (g : Nat) (p : Int) (bad : Bool) (s : Nat) (h : LBt.Row w A L) (hl : L.length ≤ 1000000) (hc : L.length ≤ c)
    (hp : -9223372036854775808 ≤ p ∧ p ≤ 9223372036854775807) (hg : w.heap[g]? = some (curO 26 A L.length c p bad)) :
    Calls Try.prog 15 #[.pointer (some ⟨g, 0, none⟩), .int .i64 s] w (CutIs g (curO 26 A L.length c (Pk.numAt L p bad s) (!Pk.fits L p bad s)) (Pk.cut L p bad s) w) := by
  --[
  have CH := Lib.hid (pkHas_any A c L w g p bad s hl hp hg)
  have HA := Lib.hid (row_apart h hg)
  obtain ⟨c0, c1, c2⟩ := cur_cells hg
  obtain ⟨z1, z2⟩ := cur_free hg
  have K0 := Lib.hid (Kept.refl g w)
  by_cases hf : Pk.fits L p bad s = true
  case neg =>
    have e1 : Pk.numAt L p bad s = p := if_neg hf
    have e2 : Pk.cut L p bad s = [] := if_neg hf
    have e3 : Pk.fits L p bad s = false := by simpa using hf
    rw [e3] at CH
    rw [e1, e2, e3]
    have HF := Lib.hid (fun q => show CutIs g (curO 26 A L.length c p (!false)) [] w (.returned (.slice none 0 0)) ((w.drewN q).setCell ⟨g, 2, none⟩ (.bool true)) from ⟨none, 0, rfl, .inl rfl, Nat.le_refl _, cur_bad (w := w.drewN q) hg true, (K0.out.drewN q).set 2 _⟩)
    clear h hg e1 e2 e3 hf
    go_enter Try.func15, Try.ntmps15
    go_wp2_with fail
    refine CH.out.mono ?_; rintro e w1 ⟨rfl, q, rfl⟩
    go_wp2_with fail
    go_ret
    exact HF.out _
  case pos =>
    obtain ⟨rfl, h0, h1⟩ := Pk.fits_iff.1 hf
    have e1 : Pk.numAt L p false s = p + s := if_pos hf
    have e2 : Pk.cut L p false s = Pk.got L p s := if_pos hf
    have hgl := Pk.got_len (B := L) h0 h1
    rw [hf] at CH
    rw [e1, e2, hf]
    obtain ⟨m, rfl⟩ : ∃ m : Nat, p = (m : Int) := ⟨p.toNat, by omega⟩
    have HF := Lib.hid (fun q k n (hn : n = s) => show CutIs g (curO 26 A L.length c ((m : Int) + (s : Int)) (!true)) (Pk.got L (m : Int) s) w (.returned (.slice (if c = m then A else A.map (fun x => x.add m)) n (c - m))) (((w.drewN q).setCell ⟨g, 1, none⟩ (.int .i64 ((m : Int) + (s : Int)))).drewN k) from by
      have hk := ((K0.out.drewN q).set 1 (.int .i64 ((m : Int) + (s : Int)))).drewN k
      refine ⟨if c = m then A else A.map (fun x => x.add m), c - m, ?_, ?_, by omega, cur_at (w := w.drewN q) hg _, hk⟩
      · rw [hgl, hn]
      · have R := Lies.Row.take LBt (Lies.Row.low (hk.row HA.out h) hc m) s
        rw [show m * LBt.m = m from Nat.mul_one m] at R
        exact R)
    have q1 : IntKind.i64.wrap ((m : Int) + (s : Int)) = (m : Int) + (s : Int) := IntWalk.i64_in _ (by omega)
    have b1 : (0 : Int) ≤ (m : Int) := by omega
    have b2 : (m : Int) ≤ (m : Int) + (s : Int) := by omega
    have b3 : (m : Int) + (s : Int) ≤ (c : Int) := by omega
    clear h hg e1 e2 hf hgl
    by_cases hcm : c = m
    · subst hcm
      obtain rfl : s = 0 := by omega
      have HF2 := Lib.hid (fun q k => by
        have := HF.out q k 0 rfl
        rw [if_pos rfl, Nat.sub_self] at this
        exact this)
      clear HF
      go_enter Try.func15, Try.ntmps15
      go_wp2_with fail
      refine CH.out.mono ?_; rintro e w1 ⟨rfl, q, rfl⟩
      go_upto_region 6 with fail
      go_quiet (fail)
      go_wp2_with fail
      go_ret
      exact HF2.out _ _
    · have HF2 := Lib.hid (fun q k => by
        have := HF.out q k (m + s - m) (by omega)
        rw [if_neg hcm] at this
        exact this)
      clear HF
      go_enter Try.func15, Try.ntmps15
      go_wp2_with fail
      refine CH.out.mono ?_; rintro e w1 ⟨rfl, q, rfl⟩
      go_upto_region 6 with fail
      go_quiet (fail)
      go_wp2_with fail
      go_ret
      exact HF2.out _ _
  --]
end Go.Proofs.Ytehniclicjoiiaa
