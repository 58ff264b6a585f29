/-
  Texts of this claim, merged: SmCat.
-/
import Derived.Test.YtjofpclmbjpgjaaMg01
import Derived.Test.YtjofpclmbjpgjaaMg02
import Derived.Deep.CutRange
import Derived.Deep.RegionHeld3
import Derived.Deep.RegionWith
import Derived.Lib.AppendZeros
import Derived.Lib.IndexLaws
/-
  The walks of the library's functions over bytes that layer 16 calls: bytes.Equal, bytes.Clone, slices.Grow, slices.Concat.
-/
namespace Go.Proofs.Ytjofpclmbjpgjaa
open Go.RowKit

theorem own_low {w : World} {base b0 : Nat} {e : TypeId} {size : Nat} {v : Value} {n : Nat} {xs : List Value} (h : w.ownsRow base e size v n xs) (hb : b0 ≤ base) : w.ownsRow b0 e size v n xs := by
  refine ⟨h.1, h.2.imp id ?_⟩
  rintro ⟨g, cap, cur, h1, h2, h3⟩
  exact ⟨g, cap, cur, h1, Nat.le_trans hb h2, h3⟩
theorem own_bytes0 (w : World) {g base : Nat} (hg : w.heap.size = g) (hb : base ≤ g := by simp) : (w.alloc (.cells #[] 5)).ownsRow base 5 LBt.m (.slice (some ⟨g, 0, none⟩) 0 0) 0 [] := by
  subst hg
  exact ⟨rfl, .inr ⟨w.heap.size, 0, #[], rfl, hb, heap_alloc_new _ _, Nat.le_refl _, by unfold maxLen; omega, rfl, rfl⟩⟩
set_option maxHeartbeats 4000000 in
set_option maxRecDepth 100000 in
theorem spEqual_any (A : Option Addr) (c : Nat) (L : List Nat) (B : Option Addr) (d : Nat) (M : List Nat) (w : World) (h : LBt.Row w A L) (hL : Sm.Bytes L) (h' : LBt.Row w B M) (hM : Sm.Bytes M) :
    Calls Try.prog 14 #[.slice A L.length c, .slice B M.length d] w fun e w' => e = .returned (.bool (decide (L = M))) ∧ w' = w := by
  --[
  have t1 := run_text h c
  have t2 := run_text h' d
  have HE := Lib.hid (btext_beq hL hM)
  clear h h'
  go_enter Try.func14, Try.ntmps14
  go_wp2_with fail
  go_ret
  exact ⟨by rw [← HE.out] <;> rfl, rfl⟩
  --]
set_option maxHeartbeats 4000000 in
set_option maxRecDepth 100000 in
theorem spClone_any (A : Option Addr) (c : Nat) (L : List Nat) (w : World) (h : LBt.Row w A L) (hl : L.length ≤ 1000000) :
    Calls Try.prog 16 #[.slice A L.length c] w (BtOwn L w) := by
  --[
  have q22 : ∀ (w : World) (a : Option Addr) (n c n' c' : Nat), (binOp .eql 22 (.slice a n c) (.slice none n' c')).run Try.prog w = .ok (.bool a.isNone) w := fun w a n c n' c' => Lib.run_eql_slice_nil w _ _ a n c n' c' Try.underlying22
  cases A with
  | none =>
    obtain rfl : L = [] := by
      rcases h with h | ⟨b, o, hA, -⟩
      · exact h
      · cases hA
    go_enter Try.func16, Try.ntmps16
    go_wp2_with fail
    go_ret
    exact ⟨_, rfl, ⟨rfl, .inl ⟨rfl, rfl⟩⟩, Below.refl _ _⟩
  | some a =>
    obtain ⟨b, o, sp⟩ := a
    have HB := Lib.hid ((Below.refl w.heap.size w).alloc (Nat.le_refl _) (.cells #[] 5))
    have HR := Lib.hid (h.below rfl HB.out)
    have HO := Lib.hid (own_bytes0 w rfl (Nat.le_refl _))
    clear h
    obtain ⟨i0, hi, hz0, hz1, hz2⟩ := info_parts infoBt
    go_enter Try.func16, Try.ntmps16
    go_wp2_with (at_builtin; refine wpList_append_at LBt rfl (.tmp 5) (.tmp 6) 22 rfl w.heap.size 5 i0 _ 1 Try.underlying22 hi hz0 hz1 hz2 rfl (.slice (some ⟨w.heap.size, 0, none⟩) 0 0) 0 [] rfl HO.out (some ⟨b, o, sp⟩) L.length c L rfl rfl HR.out (by omega) (by omega) (by simp) ?_; intro v1 w1 hown hg)
    have HB1 := Lib.hid (Below.grown HB.out hg (by simp) (fun k hk => by cases hk; exact Nat.le_refl _))
    rw [Nat.zero_add, List.nil_append] at hown
    have HO1 := Lib.hid hown
    clear hg hown
    go_wp2_with fail
    go_ret
    exact ⟨_, rfl, HO1.out, HB1.out⟩
  --]
/-- A slice of the call's own, empty, with room. -/
def BtGrown (w : World) (e : Ending) (w' : World) : Prop := ∃ cap, e = .returned (.slice (some ⟨w.heap.size, 0, none⟩) 0 cap) ∧ w'.ownsRow w.heap.size 5 1 (.slice (some ⟨w.heap.size, 0, none⟩) 0 cap) 0 [] ∧ Below w.heap.size w w'
set_option maxHeartbeats 4000000 in
set_option maxRecDepth 100000 in
theorem spGrow_any (n : Nat) (w : World) (h0 : 0 < n) (hl : n ≤ 1000000) :
    Calls Try.prog 19 #[.slice none 0 0, .int .i64 n] w (BtGrown w) := by
  --[
  obtain ⟨i0, hi, hz0, hz1, hz2⟩ := info_parts infoBt
  have hr := fun ty => Lib.run_append_nil_zeros (P := Try.prog) w 22 3 ty 5 i0 (.int .u8 0) .i64 .i64 Try.underlying22 Try.underlying3 hi hz0 n h0 (by omega) (by omega) (by rw [hz2]; omega)
  have hge := grownCap_ge w n 0 5
  have hmx := grownCap_le_maxLen w n 0 5 (by unfold maxLen; omega)
  generalize grownCap w n 0 5 = G at hr hge hmx
  have hsz : (Builtin.zeroCells (Value.int .u8 0).cells n ++ Builtin.zeroCells (Value.int .u8 0).cells (G - n)).size = G * 1 := by
    rw [Array.size_append, size_zeroCells, size_zeroCells, show (Value.int .u8 0).cells.size = 1 from rfl, ← Nat.add_mul]
    congr 1; omega
  generalize Builtin.zeroCells (Value.int .u8 0).cells n ++ Builtin.zeroCells (Value.int .u8 0).cells (G - n) = Z at hr hsz
  have HB := Lib.hid ((Below.refl w.heap.size w).drew.alloc (Nat.le_refl _) (.cells Z 5))
  have HO := Lib.hid (show (w.drew.alloc (.cells Z 5)).ownsRow w.heap.size 5 1 (.slice (some ⟨w.heap.size, 0, none⟩) 0 G) 0 [] from
    ⟨rfl, .inr ⟨w.heap.size, G, Z, rfl, Nat.le_refl _, heap_alloc_new w.drew _, Nat.zero_le _, hmx, hsz, by simp⟩⟩)
  have D1 : decide ((n : Int) < 0) = false := dec_f (by omega)
  have D2 : decide ((0 : Int) < (n : Int)) = true := dec_t (by omega)
  have HG : (G : Int) ≤ 9223372036854775807 := by unfold maxLen at hmx; omega
  clear hsz hmx hz1 hz2 hi
  go_enter Try.func19, Try.ntmps19
  go_wp2_with (at_builtin; refine Lib.wpList_append_run _ rfl _ _ _ _ rfl _ _ rfl rfl _ _ (hr _) ?_)
  go_ret
  exact ⟨G, rfl, HO.out, HB.out⟩
  --]
/-- The first rows of some, one behind the other. -/
def Sm.catTo (Ls : Nat → List Nat) : Nat → List Nat
  | 0 => []
  | k + 1 => Sm.catTo Ls k ++ Ls k
theorem Sm.catTo_len (Ls : Nat → List Nat) : ∀ {k m : Nat}, k ≤ m → (Sm.catTo Ls k).length ≤ (Sm.catTo Ls m).length
  | k, 0, h => by obtain rfl : k = 0 := by omega
                  exact Nat.le_refl _
  | k, m + 1, h => by
    rcases Nat.lt_or_ge m k with h2 | h2
    · obtain rfl : k = m + 1 := by omega
      exact Nat.le_refl _
    · have := Sm.catTo_len Ls h2
      rw [show Sm.catTo Ls (m + 1) = Sm.catTo Ls m ++ Ls m from rfl, List.length_append]
      omega
set_option maxHeartbeats 8000000 in
set_option maxRecDepth 100000 in
theorem spConcat_any (m : Nat) (g : Nat) (As : Nat → Option Addr) (cs : Nat → Nat) (Ls : Nat → List Nat) (w : World) (hg : g < w.heap.size)
    (hC : ∀ k, k < m → w.cell? ⟨g, k, none⟩ = some (.slice (As k) (Ls k).length (cs k))) (hR : ∀ k, k < m → LBt.Row w (As k) (Ls k)) (hm : m ≤ 1000) (h0 : 0 < (Sm.catTo Ls m).length) (hl : (Sm.catTo Ls m).length ≤ 1000000) :
    Calls Try.prog 18 #[.slice (some ⟨g, 0, none⟩) m m] w (BtOwn (Sm.catTo Ls m) w) := by
  --[
  have B0 := Lib.hid (Below.refl w.heap.size w)
  have KC := Lib.hid (fun W (hW : Below w.heap.size w W) k (hk : k < m) => (hW.cell (p := ⟨g, k, none⟩) hg).trans (hC k hk))
  have KR := Lib.hid (fun W (hW : Below w.heap.size w W) k (hk : k < m) => (hR k hk).below rfl hW)
  have KL := Lib.hid (fun k (hk : k ≤ m) => Sm.catTo_len Ls hk)
  clear hC hR
  obtain ⟨i0, hi, hz0, hz1, hz2⟩ := info_parts infoBt
  go_enter Try.func18, Try.ntmps18
  go_wp2_with fail
  go_loopw [3, 5, 11] (fun v1 _ v2 w' => ∃ k : Nat, k ≤ m ∧ v1 = .int .i64 ((Sm.catTo Ls k).length : Int) ∧ v2 = .int .i64 k ∧ Below w.heap.size w w') (fun _ _ v2 _ => m - (intOf v2).toNat)
  case atStart => exact ⟨0, Nat.zero_le _, rfl, rfl, B0.out⟩
  case round =>
    obtain ⟨k, hk, rfl, rfl, hb⟩ := hrel
    have HB := Lib.hid hb
    clear hb
    by_cases hlt : k < m
    · have c0 := KC.out _ HB.out k hlt
      have hk1 := KL.out (k + 1) hlt
      have hk0 := KL.out k hk
      have HL := Lib.hid (show (Sm.catTo Ls (k + 1)).length = (Sm.catTo Ls k).length + (Ls k).length from by rw [show Sm.catTo Ls (k + 1) = Sm.catTo Ls k ++ Ls k from rfl, List.length_append])
      have d1 : decide ((k : Int) < (m : Int)) = true := dec_t (by omega)
      have i0 : (0 : Int) ≤ (k : Int) := Int.natCast_nonneg k
      have i1 : (k : Int) < (m : Int) := by omega
      have q : IntKind.i64.wrap (((Sm.catTo Ls k).length : Int) + ((Ls k).length : Int)) = ((Sm.catTo Ls (k + 1)).length : Int) := by
        have := HL.out
        rw [IntWalk.i64_in _ (by omega)]; omega
      have D2 : decide (((Sm.catTo Ls (k + 1)).length : Int) < 0) = false := dec_f (by omega)
      clear hk1 hk0
      go_wp2_with fail
      go_roundw
      case rel => exact ⟨k + 1, by omega, rfl, by go_num, HB.out⟩
      case measure => simp [intOf]; omega
    · obtain rfl : k = m := by omega
      have d1 : decide ((k : Int) < (k : Int)) = false := dec_f (by omega)
      have CG := Lib.hid (spGrow_any (Sm.catTo Ls k).length wr h0 hl)
      have HN := Lib.hid h0
      clear h0
      go_wp2_with fail
      refine CG.out.mono ?_; rintro e w2 ⟨cap, rfl, ho, hb2⟩
      have O2 := Lib.hid (show w2.ownsRow wr.heap.size 5 1 (.slice (some ⟨wr.heap.size, 0, none⟩) 0 cap) (Sm.catTo Ls 0).length (LBt.all (Sm.catTo Ls 0)) from ho)
      have B2 := Lib.hid (HB.out.trans (hb2.mono HB.out.size))
      have S2 := Lib.hid hb2.size
      have SZ := Lib.hid HB.out.size
      clear ho hb2 CG
      go_wp2_with fail
      generalize wr.heap.size = base at O2 S2 SZ ⊢
      go_loopw [6, 8, 27] (fun v1 _ v2 w' => ∃ j : Nat, j ≤ k ∧ v2 = .int .i64 j ∧ w'.ownsRow base 5 1 v1 (Sm.catTo Ls j).length (LBt.all (Sm.catTo Ls j)) ∧ base ≤ w'.heap.size ∧ Below w.heap.size w w') (fun _ _ v2 _ => k - (intOf v2).toNat)
      case atStart => exact ⟨0, Nat.zero_le _, rfl, O2.out, S2.out, B2.out⟩
      case round =>
        obtain ⟨j, hj, rfl, ho, hs, hb⟩ := hrel
        have HO := Lib.hid ho
        have HB3 := Lib.hid hb
        have HS3 := Lib.hid hs
        clear ho hb hs
        by_cases hjt : j < k
        · have c0 := KC.out _ HB3.out j hjt
          have hk1 := KL.out (j + 1) hjt
          have HL := Lib.hid (show (Sm.catTo Ls (j + 1)).length = (Sm.catTo Ls j).length + (Ls j).length from by rw [show Sm.catTo Ls (j + 1) = Sm.catTo Ls j ++ Ls j from rfl, List.length_append])
          have HE := Lib.hid (show LBt.all (Sm.catTo Ls (j + 1)) = LBt.all (Sm.catTo Ls j) ++ LBt.all (Ls j) from by rw [show Sm.catTo Ls (j + 1) = Sm.catTo Ls j ++ Ls j from rfl, LBt.all_append])
          have hsum : (Sm.catTo Ls j).length + (Ls j).length ≤ 1000000 := by have := HL.out; omega
          have d1 : decide ((j : Int) < (k : Int)) = true := dec_t (by omega)
          have i0' : (0 : Int) ≤ (j : Int) := Int.natCast_nonneg j
          have i1 : (j : Int) < (k : Int) := by omega
          clear hk1
          go_wp2_with (at_builtin; refine wpList_append_at LBt rfl (.tmp 31) (.tmp 32) 22 rfl base 5 i0 _ 1 Try.underlying22 hi hz0 hz1 hz2 rfl _ (Sm.catTo Ls j).length (LBt.all (Sm.catTo Ls j)) rfl HO.out (As j) (Ls j).length (cs j) (Ls j) rfl rfl (KR.out _ HB3.out j hjt) (by omega) (by omega) HS3.out ?_; intro v4 w4 hown4 hg4)
          have HB4 := Lib.hid (Below.grown HB3.out hg4 HB3.out.size (fun b hb => Nat.le_trans SZ.out (HO.out.lt b hb).1))
          have HS4 := Lib.hid (Nat.le_trans HS3.out hg4.size)
          have HO4 := Lib.hid (show w4.ownsRow base 5 1 v4 (Sm.catTo Ls (j + 1)).length (LBt.all (Sm.catTo Ls (j + 1))) from by rw [HL.out, HE.out]; exact hown4)
          clear hown4 hg4
          go_wp2_with fail
          go_roundw
          case rel => exact ⟨j + 1, by omega, by go_num, HO4.out, HS4.out, HB4.out⟩
          case measure => simp [intOf]; omega
        · obtain rfl : j = k := by omega
          have d1 : decide ((j : Int) < (j : Int)) = false := dec_f (by omega)
          go_wp2_with fail
          go_ret
          exact ⟨_, rfl, own_low HO.out SZ.out, HB3.out⟩
  --]
end Go.Proofs.Ytjofpclmbjpgjaa
