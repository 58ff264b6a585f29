/-
  The walks of layer 1's Print and of the document's answer to it: both give a number's decimal digits; memory that there was is as it was.
-/
import Derived.Test.YtgagandecjljoaaDoorTxt
import Derived.Test.YtgagandecjljoaaDoorFigWalks
import Derived.Test.YtgagandecjljoaaDoorShelf
import Derived.Lib.ItoaLen
import Derived.Lib.AppendIntMem
namespace Go.Proofs.YtgagandecjljoaaDoor
open Go.RowKit

theorem retS {a b : List UInt8} (h : a = b) : Ending.returned (.string ⟨a.toArray⟩) = .returned (.string ⟨b.toArray⟩) := by rw [h]
theorem grow_below (w : World) (k : Nat) (os : Array Obj) : Below w.heap.size w (Go.Sort.grow (w.drewN k) os) :=
  ⟨rfl, rfl, rfl, by simp, fun j hj => by rw [Go.Sort.heap_grow_old _ _ (by simpa using hj)]; rfl⟩
set_option maxHeartbeats 400000 in
theorem print_any (n : Int) (w : World) (h0 : 0 ≤ n) (h1 : n ≤ 9223372036854775807) (htab : Lib.TabIs Tryd.prog w "internal/strconv.uint64pow10" .u64 Lib.pow10Tab) :
    Calls Tryd.prog 35 #[.int .i64 n] w fun e w' => e = .returned (.string ⟨(Lib.decDigits n.toNat).toArray⟩) ∧ Below w.heap.size w w' := by
  have H := Lib.hid (show Lib.itoa n = Lib.decDigits n.toNat by unfold Lib.itoa; rw [if_neg (by omega)])
  go_enter Tryd.func35, Tryd.ntmps35
  go_wp2_with (go_at_call 52; refine (Tryd.strconv_Itoa n (by omega) h1 _ htab).mono ?_; rintro e w' ⟨rfl, k, os, rfl⟩)
  go_ret
  exact ⟨retS H.out, grow_below w k os⟩

theorem bcell {W w1 : World} (hb : Below W.heap.size W w1) : (∀ b o, b < W.heap.size → w1.cell? ⟨b, o, none⟩ = W.cell? ⟨b, o, none⟩) ∧ (∀ b o, b < W.heap.size → w1.frozen? ⟨b, o, none⟩ = W.frozen? ⟨b, o, none⟩) :=
  ⟨fun b o h => hb.cell (p := ⟨b, o, none⟩) h, fun b o h => hb.frozen (p := ⟨b, o, none⟩) h⟩
/-- A slice of one byte of the call's own, made a text. -/
theorem one_byte (w : World) (b : Nat) (x : Int) (h : w.cell? ⟨b, 0, none⟩ = some (.int .u8 x)) :
    Sem.run Tryd.prog (convert 62 9 (.slice (some ⟨b, 0, none⟩) 1 1)) w = .ok (.string ⟨#[UInt8.ofNat x.toNat]⟩) w := by
  have := run_convert_bytes_arg (P := Tryd.prog) (w := w) 62 5 Tryd.underlying62 Tryd.underlying5 b 0 1 1 [x] rfl (fun i hi => by
    obtain rfl : i = 0 := by omega
    simpa using h) 9 Tryd.underlying9
  exact this
theorem one_new (w : World) (x : Int) :
    Sem.run Tryd.prog (convert 62 9 (.slice (some ⟨w.heap.size, 0, none⟩) 1 1)) (w.alloc (.cells #[.int .u8 x] 5)) = .ok (.string ⟨#[UInt8.ofNat x.toNat]⟩) (w.alloc (.cells #[.int .u8 x] 5)) :=
  one_byte _ _ _ (by
    show (w.alloc (.cells #[.int .u8 x] 5)).cell? ⟨w.heap.size, 0, none⟩ = _
    go_simp)
theorem u8_in (n : Int) (h : 0 ≤ n ∧ n ≤ 255) : IntKind.u8.wrap n = n := by
  unfold IntKind.wrap; simp [IntKind.bits, IntKind.signed]; omega
theorem digit_one (n : Int) (h0 : 0 ≤ n) (h1 : n < 10) : [UInt8.ofNat (48 + n).toNat] = Lib.decDigits n.toNat := by
  rw [Lib.decDigits_one (by omega)]
  congr 2; omega
theorem retSS {a b : ByteArray} (h : a = b) : Ending.returned (.string a) = .returned (.string b) := by rw [h]
theorem digit_more (n : Int) (h1 : 10 ≤ n) : (ByteArray.mk (Lib.decDigits (n / 10).toNat).toArray ++ ByteArray.mk #[UInt8.ofNat (48 + n % 10).toNat]) = ⟨(Lib.decDigits n.toNat).toArray⟩ := by
  have e : (ByteArray.mk #[UInt8.ofNat (48 + n % 10).toNat]) = ByteArray.mk [UInt8.ofNat (48 + n % 10).toNat].toArray := rfl
  rw [e, ByteArray.mk_append_mk]
  have : Lib.decDigits n.toNat = Lib.decDigits (n.toNat / 10) ++ [UInt8.ofNat (48 + n.toNat % 10)] := by
    conv => lhs; rw [Lib.decDigits, dif_neg (by omega)]
  rw [this, show (n / 10).toNat = n.toNat / 10 by omega, show (48 + n % 10).toNat = 48 + n.toNat % 10 by omega]
set_option maxHeartbeats 400000 in
set_option maxRecDepth 100000 in
theorem rprint_any (k : Nat) : ∀ (n : Int) (w : World), 0 ≤ n → n ≤ k → n ≤ 9223372036854775807 →
    Calls Tryd.prog 40 #[.int .i64 n] w fun e w' => e = .returned (.string ⟨(Lib.decDigits n.toNat).toArray⟩) ∧ Below w.heap.size w w' := by
  induction k with
  | zero =>
    intro n w h0 hk h1
    have hconv := one_new w (48 + n)
    go_enter Tryd.func40, Tryd.ntmps40
    go_wp2_with fail
    go_ret
    exact ⟨retS (digit_one n h0 (by omega)), (Below.refl _ _).alloc (Nat.le_refl _) _⟩
  | succ k ih =>
    intro n w h0 hk h1
    by_cases hn : n < 10
    · have hconv := one_new w (48 + n)
      have H := Lib.hid (digit_one n h0 hn)
      go_enter Tryd.func40, Tryd.ntmps40
      go_wp2_with fail
      go_ret
      exact ⟨retS H.out, (Below.refl _ _).alloc (Nat.le_refl _) _⟩
    · have ih' := fun W => ih (n / 10) W (by omega) (by omega) (by omega)
      have I := Lib.hid ih'
      have H := Lib.hid (digit_more n (by omega))
      clear ih ih'
      have hm : 0 ≤ n % 10 := by omega
      have hm2 : n % 10 < 10 := by omega
      have q1 : IntKind.i64.wrap (n.tdiv 10) = n / 10 := by rw [Int.tdiv_eq_ediv_of_nonneg h0]; exact IntWalk.i64_in _ (by omega)
      have q2 : n.tmod 10 = n % 10 := Int.tmod_eq_emod_of_nonneg h0
      have q3 : IntKind.i64.wrap (48 + n % 10) = 48 + n % 10 := IntWalk.i64_in _ (by omega)
      have q4 : IntKind.u8.wrap (48 + n % 10) = 48 + n % 10 := u8_in _ (by omega)
      have hL : (Lib.decDigits (n / 10).toNat).length ≤ 20 := by rw [Lib.decDigits_length]; exact Lib.nDigits_le20 _ (by omega)
      have hL2 : ¬ (9223372036854775807 < (Lib.decDigits (n / 10).toNat).length + 1) := by omega
      have hA := fun W => one_new W (48 + n % 10)
      have hB := fun W b => one_byte W b (48 + n % 10)
      go_enter Tryd.func40, Tryd.ntmps40
      go_wp2_with fail
      go_region_with (first | (go_at_call 40; refine (I.out _).mono ?_; rintro e w' ⟨rfl, hb⟩; have hcell := (bcell hb).1))
      all_goals go_wp2_with fail
      all_goals go_ret
      · exact ⟨retSS H.out, (Below.trans (b := w.drew) (Below.refl w.heap.size w).drew hb).alloc hb.size _⟩
      all_goals exact ⟨retSS H.out, ((Below.refl w.heap.size w).alloc (Nat.le_refl _) _).drew.trans (hb.mono (B' := w.heap.size) (by simp))⟩
end Go.Proofs.YtgagandecjljoaaDoor

