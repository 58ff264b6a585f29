/-
  Texts of this claim, merged: BsPrB, BsPrC.
-/
import Derived.Test.YtbmmcmdopekccaaMg34
import Derived.Deep.RegionLaw
import Derived.Lib.IndexLaws
import Derived.Lib.MinMax
/-
  The walks of the program's layer 13: New, slices.Clone, With, Of.
-/
namespace Go.Proofs.Ytbmmcmdopekccaa
open Go.RowKit

theorem own_made (w : World) (L : List Nat) (hl : L.length ≤ 1000000000) : (w.alloc (.cells (LWd.all L).toArray 53)).ownsRow w.heap.size 53 LWd.m (.slice (some ⟨w.heap.size, 0, none⟩) L.length L.length) L.length (LWd.all L) := by
  have e : (LWd.all L).length = L.length * LWd.m := LWd.all_len L
  refine ⟨e, .inr ⟨w.heap.size, L.length, _, rfl, Nat.le_refl _, heap_alloc_new _ _, Nat.le_refl _, by unfold maxLen; omega, by simpa using e, ?_⟩⟩
  rw [← e]
  simp
set_option maxHeartbeats 4000000 in
set_option maxRecDepth 100000 in
theorem bpNew_any (n : Int) (w : World) (h0 : -9223372036854775808 ≤ n ∧ n ≤ 1000000000) : Calls Try.prog 26 #[.int .i64 n] w (SetOwn (Bs.new n) w) := by
  --[
  by_cases hn : n < 1
  · have D0 : decide (n < 1) = true := dec_t hn
    have E : Bs.new n = [] := if_pos hn
    rw [E]
    clear hn
    go_enter Try.func26, Try.ntmps26
    go_wp2_with fail
    go_ret
    exact ⟨_, rfl, ⟨rfl, .inl ⟨rfl, rfl⟩⟩, Below.refl _ _⟩
  have D0 : decide (n < 1) = false := dec_f hn
  have E : Bs.new n = List.replicate ((n - 1).toNat / 32 + 1) 0 := if_neg hn
  rw [E]
  have q1 : IntKind.i64.wrap (n - 1) = n - 1 := IntWalk.i64_in _ (by omega)
  have q2 : IntKind.i64.wrap ((n - 1).tdiv 32) = (((n - 1).toNat / 32 : Nat) : Int) := by
    rw [Int.tdiv_eq_ediv_of_nonneg (by omega), IntWalk.i64_in _ (by omega)]; omega
  have q3 : IntKind.i64.wrap ((((n - 1).toNat / 32 : Nat) : Int) + 1) = (((n - 1).toNat / 32 + 1 : Nat) : Int) := by
    rw [IntWalk.i64_in _ (by omega)]; omega
  have hM : (n - 1).toNat / 32 + 1 ≤ 31250001 := by omega
  generalize hm : (n - 1).toNat / 32 = m at q2 q3 hM ⊢
  generalize m + 1 = M at q3 hM ⊢
  have D1 : decide ((536870911 : Int) < (M : Int)) = false := dec_f (by omega)
  have hmk := run_make_k LWd (P := Try.prog) 0 29 53 (.int .u32 0) 4 Try.underlying29 infoWd rfl .i64 .i64 M (by omega) (by omega)
  have HB := Lib.hid ((Below.refl w.heap.size w).alloc (Nat.le_refl _) (.cells (LWd.all (List.replicate M 0)).toArray 53))
  have HO := Lib.hid (own_made w (List.replicate M 0) (by rw [List.length_replicate]; omega))
  rw [List.length_replicate] at HO
  clear hn E hm h0
  go_enter Try.func26, Try.ntmps26
  go_wp2_with fail
  go_ret
  exact ⟨_, rfl, by rw [List.length_replicate]; exact HO.out, HB.out⟩
  --]
theorem Bs.put_at {L : List Nat} {k : Nat} (h : k / 32 < L.length) : Bs.put L (k : Int) = L.set (k / 32) (L.getD (k / 32) 0 ||| 2 ^ (k % 32)) := by
  unfold Bs.put
  rw [if_pos (Bs.fits_iff.2 ⟨Int.natCast_nonneg k, by rw [Int.toNat_natCast]; exact h⟩), Int.toNat_natCast]
set_option maxHeartbeats 4000000 in
set_option maxRecDepth 100000 in
theorem bpOf_any (n : Int) (A : Option Addr) (c : Nat) (l : List Int) (w : World) (h0 : -9223372036854775808 ≤ n ∧ n ≤ 1000000) (h : LNum.Row w A l) (hl : l.length ≤ 1000000) (hx : ∀ x ∈ l, -9223372036854775808 ≤ x ∧ x ≤ 9223372036854775807) :
    Calls Try.prog 16 #[.int .i64 n, .slice A l.length c] w (SetOwn (Bs.ofL n l) w) := by
  --[
  have CN := Lib.hid (bpNew_any n w (by omega))
  have HR := Lib.hid h
  have HX := Lib.hid hx
  have HLN := Lib.hid (Bs.new_len n)
  clear h hx
  go_enter Try.func16, Try.ntmps16
  go_wp2_with fail
  refine CN.out.mono ?_; rintro e w1 ⟨v, rfl, ho, hb⟩
  have HO := Lib.hid ho
  have HB := Lib.hid hb
  clear hb ho CN
  go_wp2_with fail
  go_loopw [7, 12] (fun _ v2 w' => ∃ k : Nat, k ≤ l.length ∧ v2 = .int .i64 k ∧ w'.ownsRow w.heap.size 53 LWd.m v (Bs.ofL n (l.take k)).length (LWd.all (Bs.ofL n (l.take k))) ∧ Below w.heap.size w w') (fun _ v2 _ => l.length - (intOf v2).toNat)
  case atStart => exact ⟨0, Nat.zero_le _, rfl, HO.out, HB.out⟩
  case round =>
    obtain ⟨k, hk, rfl, ho, hb⟩ := hrel
    have HB1 := Lib.hid hb
    have HO1 := Lib.hid ho
    by_cases hlt : k < l.length
    · have hy := List.getElem?_eq_getElem hlt
      obtain ⟨hy1, hy2⟩ := HX.out _ (List.getElem_mem hlt)
      obtain ⟨b1, o1, rfl, g1, on⟩ := (HR.out.below rfl hb).at hlt
      have HT := Lib.hid (Bs.ofL_take (n := n) hy)
      generalize l[k] = x at hy hy1 hy2 on HT
      have c0 := num_on on
      rw [show k * LNum.m = k from Nat.mul_one k] at c0
      have d1 : decide ((k : Int) < (l.length : Int)) = true := dec_t (by omega)
      have i0 : (0 : Int) ≤ (k : Int) := Int.natCast_nonneg k
      have i1 : (k : Int) < (l.length : Int) := by omega
      have hW := Bs.W32.ofL n (l.take k)
      have hML := Bs.ofL_len n (l.take k)
      have hM1 : (Bs.ofL n (l.take k)).length ≤ 1000000 := by
        have e := HLN.out
        rw [hML, e]
        split <;> omega
      generalize Bs.ofL n (l.take k) = M at ho HO1 HT hW hML hM1
      clear hy on hb
      by_cases hxn : x < n
      · have D2 : decide (x < n) = true := dec_t hxn
        rw [if_pos hxn] at HT
        by_cases hf : Bs.fits M x = true
        · obtain ⟨hn, hq⟩ := Bs.fits_iff.1 hf
          obtain ⟨j, rfl⟩ : ∃ j : Nat, x = (j : Int) := ⟨x.toNat, by omega⟩
          rw [Int.toNat_natCast] at hq
          rcases own_cases ho with ⟨-, rfl⟩ | ⟨g, cap, rfl, hg, hg2⟩
          · exact absurd hq (by simp)
          obtain ⟨hc, hfz⟩ := own_at ho hq
          have hv := hW.at (j / 32)
          have CF := Lib.hid (fun W => bpFits_any (some ⟨g, 0, none⟩) cap M (j : Int) W (by omega) (by omega))
          rw [hf] at CF
          have CB := Lib.hid (fun W => bpBit_any j W)
          rw [Bs.put_at hq] at HT
          have HG := Lib.hid hg
          have q : IntKind.i64.wrap ((j : Int).tdiv 32) = ((j / 32 : Nat) : Int) := by
            rw [Int.tdiv_eq_ediv_of_nonneg hn, IntWalk.i64_in _ (by omega)]; omega
          have q2 : (j : Int) / 32 = ((j / 32 : Nat) : Int) := by omega
          have q3 : IntKind.i64.wrap ((j : Int) / 32) = ((j / 32 : Nat) : Int) := by rw [IntWalk.i64_in _ (by omega)]; omega
          have q4 : IntKind.i64.wrap ((j / 32 : Nat) : Int) = ((j / 32 : Nat) : Int) := IntWalk.i64_in _ (by omega)
          have e0 : (0 : Int) ≤ ((j / 32 : Nat) : Int) := Int.natCast_nonneg _
          have e1 : ((j / 32 : Nat) : Int) < (M.length : Int) := by omega
          have hp2 : (2 : Nat) ^ (j % 32) < 2 ^ 32 := Nat.pow_lt_pow_right (by decide) (Nat.mod_lt _ (by decide))
          have e := u32_or_nat (M.getD (j / 32) 0) (2 ^ (j % 32)) hv hp2
          generalize hyy : M.getD (j / 32) 0 ||| 2 ^ (j % 32) = y at e HT
          generalize M.getD (j / 32) 0 = u at hc hv e hyy
          have HW := Lib.hid (fun (W : World) (hW : W.heap = wr.heap) => (own_set (w := W) (by unfold World.ownsRow at ho ⊢; rw [hW]; exact ho) (j / 32) y))
          generalize j / 32 = i at q q2 q3 q4 e0 e1 hc hfz HT HW
          generalize ((2 ^ (j % 32) : Nat) : Int) = z at CB e
          clear hf hq hn ho hyy hp2 hv hxn hW hML hM1 hy1 hy2
          go_upto_region 5 with fail
          go_wp2_with fail
          refine (CF.out _).mono ?_; rintro e2 z2 ⟨rfl, rfl⟩
          go_upto_region 6 with fail
          go_region_with (first
            | (go_at_call 28; (with_reducible refine (CB.out _).mono ?_); rintro e2 z3 ⟨rfl, rfl⟩))
          all_goals go_wp2_with fail
          all_goals go_roundw
          all_goals first
            | exact ⟨k + 1, by omega, by go_num, by rw [HT.out]; exact (HW.out _ rfl).drew, (HB1.out.setCell (p := ⟨g, i, none⟩) HG.out _).drew⟩
            | (simp [intOf]; omega)
        · have hf2 : Bs.fits M x = false := by simpa using hf
          have HP := Lib.hid (show Bs.put M x = M from if_neg hf)
          rw [HP.out] at HT
          obtain ⟨-, B, d, rfl, hd, hR⟩ := Lies.Row.of_own (E := LWd) ho
          have CF := Lib.hid (fun W => bpFits_any B d M x W (by omega) (by omega))
          rw [hf2] at CF
          clear hf hf2 ho hd hR hxn hW hML hM1 hy1 hy2 HP
          go_upto_region 5 with fail
          go_wp2_with fail
          refine (CF.out _).mono ?_; rintro e2 z2 ⟨rfl, rfl⟩
          go_wp2_with fail
          go_roundw
          case rel => exact ⟨k + 1, by omega, by go_num, by rw [HT.out]; exact HO1.out, HB1.out⟩
          case measure => simp [intOf]; omega
      · have D2 : decide (x < n) = false := dec_f hxn
        rw [if_neg hxn] at HT
        clear hxn ho hW hML hM1 hy1 hy2
        go_wp2_with fail
        go_roundw
        case rel => exact ⟨k + 1, by omega, by go_num, by rw [HT.out]; exact HO1.out, HB1.out⟩
        case measure => simp [intOf]; omega
    · obtain rfl : k = l.length := by omega
      have d1 : decide ((l.length : Int) < (l.length : Int)) = false := dec_f (by omega)
      rw [List.take_length] at HO1
      clear hb ho
      go_wp2_with fail
      go_ret
      exact ⟨_, rfl, HO1.out, HB1.out⟩
  --]
end Go.Proofs.Ytbmmcmdopekccaa
/-
  The walks of the program's layer 13: Meet, List.
-/
namespace Go.Proofs.Ytbmmcmdopekccaa
open Go.RowKit

theorem num_row1 (w : World) (y : Int) {g : Nat} (hg : w.heap.size = g) : LNum.Row (w.alloc (.cells #[.int .i64 y] 3)) (some ⟨g, 0, none⟩) [y] := hg ▸ Lies.Row.fresh (E := LNum) w [y] 3
/-- Numbers that a call leaves. -/
def NumsYes (L : List Int) (w : World) (e : Ending) (w' : World) : Prop := ∃ B d, e = .returned (.slice B L.length d) ∧ LNum.Row w' B L ∧ L.length ≤ d ∧ Below w.heap.size w w'
theorem NumsYes.of_own {L : List Int} {w w' : World} {base n : Nat} {v : Value} (h : w'.ownsRow base 3 LNum.m v n (LNum.all L)) (hn : n = L.length) (hb : Below w.heap.size w w') : NumsYes L w (.returned v) w' := by
  subst hn
  obtain ⟨-, B, d, rfl, hc, hR⟩ := Lies.Row.of_own (E := LNum) h
  exact ⟨B, d, rfl, hR, hc, hb⟩
theorem infoNumB : (Try.prog.info? 3).map (fun i => (i.zero, i.size, i.bytes)) = some (some (.int .i64 0), 1, 8) := by kernel_rfl
end Go.Proofs.Ytbmmcmdopekccaa
