/-
  Texts of this claim, merged: BsPrB.
-/
import Derived.Test.YtfgoakpdfnhddaaDoorMg03
import Derived.Deep.RegionLaw
import Derived.Lib.IndexLaws
/-
  The walks of the program's layer 13: New, slices.Clone, With, Of.
-/
namespace Go.Proofs.YtfgoakpdfnhddaaDoor
open Go.RowKit

theorem own_made (w : World) (L : List Nat) (hl : L.length ≤ 1000000000) : (w.alloc (.cells (LWd.all L).toArray 37)).ownsRow w.heap.size 37 LWd.m (.slice (some ⟨w.heap.size, 0, none⟩) L.length L.length) L.length (LWd.all L) := by
  have e : (LWd.all L).length = L.length * LWd.m := LWd.all_len L
  refine ⟨e, .inr ⟨w.heap.size, L.length, _, rfl, Nat.le_refl _, heap_alloc_new _ _, Nat.le_refl _, by unfold maxLen; omega, by simpa using e, ?_⟩⟩
  rw [← e]
  simp
set_option maxHeartbeats 4000000 in
set_option maxRecDepth 100000 in
theorem bpNew_any (n : Int) (w : World) (h0 : -9223372036854775808 ≤ n ∧ n ≤ 1000000000) : Calls Tryd.prog 10 #[.int .i64 n] w (SetOwn (Bs.new n) w) := by
  --[
  by_cases hn : n < 1
  · have D0 : decide (n < 1) = true := dec_t hn
    have E : Bs.new n = [] := if_pos hn
    rw [E]
    clear hn
    go_enter Tryd.func10, Tryd.ntmps10
    go_wp2_with fail
    go_ret
    exact ⟨_, rfl, ⟨rfl, .inl ⟨rfl, rfl⟩⟩, Below.refl _ _⟩
  have D0 : decide (n < 1) = false := dec_f hn
  have E : Bs.new n = List.replicate ((n - 1).toNat / 32 + 1) 0 := if_neg hn
  rw [E]
  have q1 : IntKind.i64.wrap (n - 1) = n - 1 := IntWalk.i64_in _ (by omega)
  have q2 : IntKind.i64.wrap ((n - 1).tdiv 32) = (((n - 1).toNat / 32 : Nat) : Int) := by
    rw [Int.tdiv_eq_ediv_of_nonneg (by omega), IntWalk.i64_in _ (by omega)]; omega
  have q3 : IntKind.i64.wrap ((((n - 1).toNat / 32 : Nat) : Int) + 1) = (((n - 1).toNat / 32 + 1 : Nat) : Int) := by
    rw [IntWalk.i64_in _ (by omega)]; omega
  have hM : (n - 1).toNat / 32 + 1 ≤ 31250001 := by omega
  generalize hm : (n - 1).toNat / 32 = m at q2 q3 hM ⊢
  generalize m + 1 = M at q3 hM ⊢
  have D1 : decide ((536870911 : Int) < (M : Int)) = false := dec_f (by omega)
  have hmk := run_make_k LWd (P := Tryd.prog) 0 22 37 (.int .u32 0) 4 Tryd.underlying22 infoWd rfl .i64 .i64 M (by omega) (by omega)
  have HB := Lib.hid ((Below.refl w.heap.size w).alloc (Nat.le_refl _) (.cells (LWd.all (List.replicate M 0)).toArray 37))
  have HO := Lib.hid (own_made w (List.replicate M 0) (by rw [List.length_replicate]; omega))
  rw [List.length_replicate] at HO
  clear hn E hm h0
  go_enter Tryd.func10, Tryd.ntmps10
  go_wp2_with fail
  go_ret
  exact ⟨_, rfl, by rw [List.length_replicate]; exact HO.out, HB.out⟩
  --]
set_option maxHeartbeats 4000000 in
set_option maxRecDepth 100000 in
theorem bpClone_any (A : Option Addr) (c : Nat) (L : List Nat) (w : World) (h : LWd.Row w A L) (hl : L.length ≤ 1000000) :
    Calls Tryd.prog 22 #[.slice A L.length c] w (SetOwn L w) := by
  --[
  have q22 : ∀ (w : World) (a : Option Addr) (n c n' c' : Nat), (binOp .eql 22 (.slice a n c) (.slice none n' c')).run Tryd.prog w = .ok (.bool a.isNone) w := fun w a n c n' c' => Lib.run_eql_slice_nil w _ _ a n c n' c' Tryd.underlying22
  cases A with
  | none =>
    obtain rfl : L = [] := by
      rcases h with h | ⟨b, o, hA, -⟩
      · exact h
      · cases hA
    go_enter Tryd.func22, Tryd.ntmps22
    go_wp2_with fail
    go_ret
    exact ⟨_, rfl, ⟨rfl, .inl ⟨rfl, rfl⟩⟩, Below.refl _ _⟩
  | some a =>
    obtain ⟨b, o, sp⟩ := a
    have HB := Lib.hid ((Below.refl w.heap.size w).alloc (Nat.le_refl _) (.cells #[] 37))
    have HR := Lib.hid (h.below rfl HB.out)
    have HO := Lib.hid (ownwd_empty w rfl (Nat.le_refl _))
    clear h
    obtain ⟨i0, hi, hz0, hz1, hz2⟩ := info_parts infoWd
    go_enter Tryd.func22, Tryd.ntmps22
    go_wp2_with (at_builtin; refine wpList_append_at LWd rfl (.tmp 5) (.tmp 6) 22 rfl w.heap.size 37 i0 _ 4 Tryd.underlying22 hi hz0 hz1 hz2 rfl (.slice (some ⟨w.heap.size, 0, none⟩) 0 0) 0 [] rfl HO.out (some ⟨b, o, sp⟩) L.length c L rfl rfl HR.out (by omega) (by omega) (by simp) ?_; intro v1 w1 hown hg)
    have HB1 := Lib.hid (Below.grown HB.out hg (by simp) (fun k hk => by cases hk; exact Nat.le_refl _))
    rw [Nat.zero_add, List.nil_append] at hown
    have HO1 := Lib.hid hown
    clear hg hown
    go_wp2_with fail
    go_ret
    exact ⟨_, rfl, HO1.out, HB1.out⟩
  --]
theorem Bs.put_at {L : List Nat} {k : Nat} (h : k / 32 < L.length) : Bs.put L (k : Int) = L.set (k / 32) (L.getD (k / 32) 0 ||| 2 ^ (k % 32)) := by
  unfold Bs.put
  rw [if_pos (Bs.fits_iff.2 ⟨Int.natCast_nonneg k, by rw [Int.toNat_natCast]; exact h⟩), Int.toNat_natCast]
set_option maxHeartbeats 4000000 in
set_option maxRecDepth 100000 in
theorem bpWith_any (A : Option Addr) (c : Nat) (L : List Nat) (n : Int) (w : World) (h0 : -9223372036854775808 ≤ n ∧ n ≤ 9223372036854775807) (h : LWd.Row w A L) (hw : Bs.W32 L) (hl : L.length ≤ 1000000) :
    Calls Tryd.prog 12 #[.slice A L.length c, .int .i64 n] w (SetOwn (Bs.put L n) w) := by
  --[
  have CC := Lib.hid (bpClone_any A c L w h hl)
  go_enter Tryd.func12, Tryd.ntmps12
  go_wp2_with fail
  refine CC.out.mono ?_; rintro e w1 ⟨v, rfl, ho, hb⟩
  have HO := Lib.hid ho
  have HB := Lib.hid hb
  have HS := Lib.hid hb.size
  clear hb CC
  by_cases hf : Bs.fits L n = true
  · obtain ⟨hn, hk⟩ := Bs.fits_iff.1 hf
    obtain ⟨k, rfl⟩ : ∃ k : Nat, n = (k : Int) := ⟨n.toNat, by omega⟩
    rw [Int.toNat_natCast] at hk
    rcases own_cases ho with ⟨-, rfl⟩ | ⟨g, cap, rfl, hg, hg2⟩
    · exact absurd hk (by simp)
    obtain ⟨hc, hfz⟩ := own_at ho hk
    have hv := hw.at (k / 32)
    have CF := Lib.hid (fun W => bpFits_any (some ⟨g, 0, none⟩) cap L (k : Int) W h0 (by omega))
    rw [hf] at CF
    have CB := Lib.hid (fun W => bpBit_any k W)
    have HP := Lib.hid (Bs.put_at hk)
    have HG := Lib.hid hg
    have q : IntKind.i64.wrap ((k : Int).tdiv 32) = ((k / 32 : Nat) : Int) := by
      rw [Int.tdiv_eq_ediv_of_nonneg hn, IntWalk.i64_in _ (by omega)]; omega
    have q2 : (k : Int) / 32 = ((k / 32 : Nat) : Int) := by omega
    have q3 : IntKind.i64.wrap ((k : Int) / 32) = ((k / 32 : Nat) : Int) := by rw [IntWalk.i64_in _ (by omega)]; omega
    have i0 : (0 : Int) ≤ ((k / 32 : Nat) : Int) := Int.natCast_nonneg _
    have i1 : ((k / 32 : Nat) : Int) < (L.length : Int) := by omega
    have hp2 : (2 : Nat) ^ (k % 32) < 2 ^ 32 := Nat.pow_lt_pow_right (by decide) (Nat.mod_lt _ (by decide))
    have e := u32_or_nat (L.getD (k / 32) 0) (2 ^ (k % 32)) hv hp2
    generalize hy : L.getD (k / 32) 0 ||| 2 ^ (k % 32) = y at e HP
    generalize L.getD (k / 32) 0 = x at hc hv e hy
    have HW := Lib.hid (fun (W : World) (hW : W.heap = w1.heap) => (own_set (w := W) (by unfold World.ownsRow at ho ⊢; rw [hW]; exact ho) (k / 32) y))
    have KS := Lib.hid (fun W' (hW : Below w1.heap.size w1 W') => And.intro ((hW.cell (p := ⟨g, k / 32, none⟩) hg2).trans hc) hfz)
    have q4 : IntKind.i64.wrap ((k / 32 : Nat) : Int) = ((k / 32 : Nat) : Int) := IntWalk.i64_in _ (by omega)
    generalize k / 32 = i at q q2 q3 q4 i0 i1 hc hfz HP HW KS
    generalize ((2 ^ (k % 32) : Nat) : Int) = z at CB e
    have U0 := Lib.hid (Below.refl w1.heap.size w1)
    clear hf hk h hw hn ho hy hp2 hv
    go_upto_region 2 with fail
    go_wp2_with fail
    refine (CF.out _).mono ?_; rintro e2 z2 ⟨rfl, rfl⟩
    go_upto_region 3 with fail
    go_region_with (first
      | (go_at_call 24; (with_reducible refine (CB.out _).mono ?_); rintro e2 z2 ⟨rfl, rfl⟩))
    all_goals go_wp2_with fail
    all_goals go_ret
    all_goals exact ⟨_, rfl, by rw [HP.out]; exact (HW.out z2 rfl).drew, (HB.out.setCell (p := ⟨g, i, none⟩) HG.out _).drew⟩
  · have hf2 : Bs.fits L n = false := by simpa using hf
    have HP := Lib.hid (show Bs.put L n = L from if_neg hf)
    obtain ⟨-, B, d, rfl, hd, hR⟩ := Lies.Row.of_own (E := LWd) ho
    have CF := Lib.hid (fun W => bpFits_any B d L n W h0 (by omega))
    rw [hf2] at CF
    clear hf hf2 ho hd hR
    go_upto_region 2 with fail
    go_wp2_with fail
    refine (CF.out _).mono ?_; rintro e2 z2 ⟨rfl, rfl⟩
    go_wp2_with fail
    go_ret
    exact ⟨_, rfl, by rw [HP.out]; exact HO.out, HB.out⟩
  --]
set_option maxHeartbeats 4000000 in
set_option maxRecDepth 100000 in
theorem bpOf_any (n : Int) (A : Option Addr) (c : Nat) (l : List Int) (w : World) (h0 : -9223372036854775808 ≤ n ∧ n ≤ 1000000) (h : LNum.Row w A l) (hl : l.length ≤ 1000000) (hx : ∀ x ∈ l, -9223372036854775808 ≤ x ∧ x ≤ 9223372036854775807) :
    Calls Tryd.prog 18 #[.int .i64 n, .slice A l.length c] w (SetOwn (Bs.ofL n l) w) := by
  --[
  have CN := Lib.hid (bpNew_any n w (by omega))
  have HR := Lib.hid h
  have HX := Lib.hid hx
  have HLN := Lib.hid (Bs.new_len n)
  clear h hx
  go_enter Tryd.func18, Tryd.ntmps18
  go_wp2_with fail
  refine CN.out.mono ?_; rintro e w1 ⟨v, rfl, ho, hb⟩
  have HO := Lib.hid ho
  have HB := Lib.hid hb
  clear hb ho CN
  go_wp2_with fail
  go_loopw [7, 12] (fun _ v2 w' => ∃ k : Nat, k ≤ l.length ∧ v2 = .int .i64 k ∧ w'.ownsRow w.heap.size 37 LWd.m v (Bs.ofL n (l.take k)).length (LWd.all (Bs.ofL n (l.take k))) ∧ Below w.heap.size w w') (fun _ v2 _ => l.length - (intOf v2).toNat)
  case atStart => exact ⟨0, Nat.zero_le _, rfl, HO.out, HB.out⟩
  case round =>
    obtain ⟨k, hk, rfl, ho, hb⟩ := hrel
    have HB1 := Lib.hid hb
    have HO1 := Lib.hid ho
    by_cases hlt : k < l.length
    · have hy := List.getElem?_eq_getElem hlt
      obtain ⟨hy1, hy2⟩ := HX.out _ (List.getElem_mem hlt)
      obtain ⟨b1, o1, rfl, g1, on⟩ := (HR.out.below rfl hb).at hlt
      have HT := Lib.hid (Bs.ofL_take (n := n) hy)
      generalize l[k] = x at hy hy1 hy2 on HT
      have c0 := num_on on
      rw [show k * LNum.m = k from Nat.mul_one k] at c0
      have d1 : decide ((k : Int) < (l.length : Int)) = true := dec_t (by omega)
      have i0 : (0 : Int) ≤ (k : Int) := Int.natCast_nonneg k
      have i1 : (k : Int) < (l.length : Int) := by omega
      have hW := Bs.W32.ofL n (l.take k)
      have hML := Bs.ofL_len n (l.take k)
      have hM1 : (Bs.ofL n (l.take k)).length ≤ 1000000 := by
        have e := HLN.out
        rw [hML, e]
        split <;> omega
      generalize Bs.ofL n (l.take k) = M at ho HO1 HT hW hML hM1
      clear hy on hb
      by_cases hxn : x < n
      · have D2 : decide (x < n) = true := dec_t hxn
        rw [if_pos hxn] at HT
        by_cases hf : Bs.fits M x = true
        · obtain ⟨hn, hq⟩ := Bs.fits_iff.1 hf
          obtain ⟨j, rfl⟩ : ∃ j : Nat, x = (j : Int) := ⟨x.toNat, by omega⟩
          rw [Int.toNat_natCast] at hq
          rcases own_cases ho with ⟨-, rfl⟩ | ⟨g, cap, rfl, hg, hg2⟩
          · exact absurd hq (by simp)
          obtain ⟨hc, hfz⟩ := own_at ho hq
          have hv := hW.at (j / 32)
          have CF := Lib.hid (fun W => bpFits_any (some ⟨g, 0, none⟩) cap M (j : Int) W (by omega) (by omega))
          rw [hf] at CF
          have CB := Lib.hid (fun W => bpBit_any j W)
          rw [Bs.put_at hq] at HT
          have HG := Lib.hid hg
          have q : IntKind.i64.wrap ((j : Int).tdiv 32) = ((j / 32 : Nat) : Int) := by
            rw [Int.tdiv_eq_ediv_of_nonneg hn, IntWalk.i64_in _ (by omega)]; omega
          have q2 : (j : Int) / 32 = ((j / 32 : Nat) : Int) := by omega
          have q3 : IntKind.i64.wrap ((j : Int) / 32) = ((j / 32 : Nat) : Int) := by rw [IntWalk.i64_in _ (by omega)]; omega
          have q4 : IntKind.i64.wrap ((j / 32 : Nat) : Int) = ((j / 32 : Nat) : Int) := IntWalk.i64_in _ (by omega)
          have e0 : (0 : Int) ≤ ((j / 32 : Nat) : Int) := Int.natCast_nonneg _
          have e1 : ((j / 32 : Nat) : Int) < (M.length : Int) := by omega
          have hp2 : (2 : Nat) ^ (j % 32) < 2 ^ 32 := Nat.pow_lt_pow_right (by decide) (Nat.mod_lt _ (by decide))
          have e := u32_or_nat (M.getD (j / 32) 0) (2 ^ (j % 32)) hv hp2
          generalize hyy : M.getD (j / 32) 0 ||| 2 ^ (j % 32) = y at e HT
          generalize M.getD (j / 32) 0 = u at hc hv e hyy
          have HW := Lib.hid (fun (W : World) (hW : W.heap = wr.heap) => (own_set (w := W) (by unfold World.ownsRow at ho ⊢; rw [hW]; exact ho) (j / 32) y))
          generalize j / 32 = i at q q2 q3 q4 e0 e1 hc hfz HT HW
          generalize ((2 ^ (j % 32) : Nat) : Int) = z at CB e
          clear hf hq hn ho hyy hp2 hv hxn hW hML hM1 hy1 hy2
          go_upto_region 5 with fail
          go_wp2_with fail
          refine (CF.out _).mono ?_; rintro e2 z2 ⟨rfl, rfl⟩
          go_upto_region 6 with fail
          go_region_with (first
            | (go_at_call 24; (with_reducible refine (CB.out _).mono ?_); rintro e2 z3 ⟨rfl, rfl⟩))
          all_goals go_wp2_with fail
          all_goals go_roundw
          all_goals first
            | exact ⟨k + 1, by omega, by go_num, by rw [HT.out]; exact (HW.out _ rfl).drew, (HB1.out.setCell (p := ⟨g, i, none⟩) HG.out _).drew⟩
            | (simp [intOf]; omega)
        · have hf2 : Bs.fits M x = false := by simpa using hf
          have HP := Lib.hid (show Bs.put M x = M from if_neg hf)
          rw [HP.out] at HT
          obtain ⟨-, B, d, rfl, hd, hR⟩ := Lies.Row.of_own (E := LWd) ho
          have CF := Lib.hid (fun W => bpFits_any B d M x W (by omega) (by omega))
          rw [hf2] at CF
          clear hf hf2 ho hd hR hxn hW hML hM1 hy1 hy2 HP
          go_upto_region 5 with fail
          go_wp2_with fail
          refine (CF.out _).mono ?_; rintro e2 z2 ⟨rfl, rfl⟩
          go_wp2_with fail
          go_roundw
          case rel => exact ⟨k + 1, by omega, by go_num, by rw [HT.out]; exact HO1.out, HB1.out⟩
          case measure => simp [intOf]; omega
      · have D2 : decide (x < n) = false := dec_f hxn
        rw [if_neg hxn] at HT
        clear hxn ho hW hML hM1 hy1 hy2
        go_wp2_with fail
        go_roundw
        case rel => exact ⟨k + 1, by omega, by go_num, by rw [HT.out]; exact HO1.out, HB1.out⟩
        case measure => simp [intOf]; omega
    · obtain rfl : k = l.length := by omega
      have d1 : decide ((l.length : Int) < (l.length : Int)) = false := dec_f (by omega)
      rw [List.take_length] at HO1
      clear hb ho
      go_wp2_with fail
      go_ret
      exact ⟨_, rfl, HO1.out, HB1.out⟩
  --]
end Go.Proofs.YtfgoakpdfnhddaaDoor
