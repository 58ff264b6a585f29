/-
  Texts of this claim, merged: ItRParseN.
-/
import Derived.Test.YtgajdfecajleiaaMg04
/-
  The walk of the document's answer to layer 3's Parse: numbers' lines.
-/
namespace Go.Proofs.Ytgajdfecajleiaa
open Go.RowKit

theorem parseN_nn (l : List UInt8) (m : Int) : 0 ≤ Fig.parseN l m := by
  unfold Fig.parseN
  split
  · rename_i h
    simp only [Fig.parseB, Fig.form, Bool.and_eq_true] at h
    exact (Fig.val_bd l h.1.2).1
  · exact Int.le_refl 0
theorem parseK_num_many {k : Int} (hk : k = 1 ∨ k = 2 ∨ k = 3 ∨ k = 4 ∨ k = 8) {T : List (List UInt8)} (h : T.length ≠ 1) : It.parseK k T = none := by
  rcases hk with rfl | rfl | rfl | rfl | rfl
  all_goals
    match T, h with
    | [], _ => rfl
    | [d], h => exact absurd rfl h
    | _ :: _ :: _, _ => rfl
theorem parseK_7_many {T : List (List UInt8)} (h : T.length ≠ 2) : It.parseK 7 T = none := by
  match T, h with
  | [], _ => rfl
  | [d], _ => rfl
  | [_, _], h => exact absurd rfl h
  | _ :: _ :: _ :: _, _ => rfl
theorem parseK_num_yes {k : Int} (hk : It.isNum k = true) {d : List UInt8} {m : Int} (hm : It.most k = m) (hp : Fig.parseB d m = true) : It.parseK k [d] = some ⟨k, [], Fig.parseN d m, It.Tp.zero, It.Tp.zero⟩ := by
  subst hm; simp [It.parseK, hk, hp]
theorem parseK_num_no {k : Int} (hk : It.isNum k = true) {d : List UInt8} {m : Int} (hm : It.most k = m) (hp : Fig.parseB d m = false) : It.parseK k [d] = none := by
  subst hm; simp [It.parseK, hk, hp]
set_option maxHeartbeats 4000000 in
set_option maxRecDepth 100000 in
theorem rp_1_many (s : ByteArray) (x : List UInt8) (T : List (List UInt8)) (hTl : T.length ≤ 1000000) (h1 : T.length ≠ 1) (w : World) (W : HasWords s x T w) (hk : It.kind x = 1) (hx : x.length ≤ 1000000) :
    Calls Try.prog 22 #[.string s] w (ParseGives (It.parseK 1 T) w) := by
  have P := Lib.hid (parseK_num_many (k := 1) (by omega) h1)
  have hl : ((T.length : Int) != 1) = true := by rw [bne_iff_ne]; omega
  clear h1
  have hb0 := Lib.hid ((Below.refl w.heap.size w).alloc (Nat.le_refl _) (.cells #[.int .i64 0, .string ⟨#[]⟩, .int .i64 0, .string ⟨#[]⟩, .int .u8 0, .string ⟨#[]⟩, .int .u8 0] 76))
  have R0 := Lib.hid (show (w.alloc (.cells #[.int .i64 0, .string ⟨#[]⟩, .int .i64 0, .string ⟨#[]⟩, .int .u8 0, .string ⟨#[]⟩, .int .u8 0] 76)).heap[w.heap.size]? = some (.cells #[.int .i64 0, .string ⟨#[]⟩, .int .i64 0, .string ⟨#[]⟩, .int .u8 0, .string ⟨#[]⟩, .int .u8 0] 76 (0, 0)) from heap_alloc_new _ _)
  have C := Lib.hid W
  have KC := Lib.hid (fun w => rkind_t x w hx 1 hk)
  clear W hk
  go_enter Try.func22, Try.ntmps22
  go_wp2_with fail
  refine C.out.mono ?_; rintro e w1 ⟨A, c, hc, rfl, hs1, hb1⟩
  have r0 := (hb1.block _ (show w.heap.size < (w.alloc (.cells #[.int .i64 0, .string ⟨#[]⟩, .int .i64 0, .string ⟨#[]⟩, .int .u8 0, .string ⟨#[]⟩, .int .u8 0] 76)).heap.size by simp)).trans R0.out
  obtain ⟨⟨a0, a1, a2, a3, a4, a5, a6⟩, ⟨f0, f1, f2, f3, f4, f5, f6⟩, hy0⟩ := row7 r0
  have Q0 := Lib.hid r0
  have hbW := Lib.hid (hb0.out.trans (hb1.mono (by simp)))
  clear r0 hb1
  obtain ⟨bk, o, rfl⟩ := strs_addr hs1
  have hbk := (strs_at hs1 0 (by simp)).1
  have hc00 := at_words hs1
  have n0 := World.new_ne _ _ a0
  have n1 := World.new_ne _ _ hc00
  simp only [List.length_cons] at hc
  clear hs1
  go_wp2_with fail
  refine (KC.out _).mono ?_; rintro e w' ⟨rfl, rfl⟩
  go_wp2_with fail
  all_goals
    refine bodyPost_ret ?_ rfl (ParseGives.no P.out rfl ?_)
    · simp [results, Try.results22, go_sem, *]
    · (repeat (first | (with_reducible refine Below.setCell ?_ (by first | exact Nat.le_refl _ | (simp; done) | ((try simp); omega)) _) | (with_reducible refine Below.alloc ?_ (by first | (simp; done) | ((try simp); omega)) _) | with_reducible refine Below.drew ?_)); exact hbW.out
set_option maxHeartbeats 4000000 in
set_option maxRecDepth 100000 in
theorem rp_2_many (s : ByteArray) (x : List UInt8) (T : List (List UInt8)) (hTl : T.length ≤ 1000000) (h1 : T.length ≠ 1) (w : World) (W : HasWords s x T w) (hk : It.kind x = 2) (hx : x.length ≤ 1000000) :
    Calls Try.prog 22 #[.string s] w (ParseGives (It.parseK 2 T) w) := by
  have P := Lib.hid (parseK_num_many (k := 2) (by omega) h1)
  have hl : ((T.length : Int) != 1) = true := by rw [bne_iff_ne]; omega
  clear h1
  have hb0 := Lib.hid ((Below.refl w.heap.size w).alloc (Nat.le_refl _) (.cells #[.int .i64 0, .string ⟨#[]⟩, .int .i64 0, .string ⟨#[]⟩, .int .u8 0, .string ⟨#[]⟩, .int .u8 0] 76))
  have R0 := Lib.hid (show (w.alloc (.cells #[.int .i64 0, .string ⟨#[]⟩, .int .i64 0, .string ⟨#[]⟩, .int .u8 0, .string ⟨#[]⟩, .int .u8 0] 76)).heap[w.heap.size]? = some (.cells #[.int .i64 0, .string ⟨#[]⟩, .int .i64 0, .string ⟨#[]⟩, .int .u8 0, .string ⟨#[]⟩, .int .u8 0] 76 (0, 0)) from heap_alloc_new _ _)
  have C := Lib.hid W
  have KC := Lib.hid (fun w => rkind_t x w hx 2 hk)
  clear W hk
  go_enter Try.func22, Try.ntmps22
  go_wp2_with fail
  refine C.out.mono ?_; rintro e w1 ⟨A, c, hc, rfl, hs1, hb1⟩
  have r0 := (hb1.block _ (show w.heap.size < (w.alloc (.cells #[.int .i64 0, .string ⟨#[]⟩, .int .i64 0, .string ⟨#[]⟩, .int .u8 0, .string ⟨#[]⟩, .int .u8 0] 76)).heap.size by simp)).trans R0.out
  obtain ⟨⟨a0, a1, a2, a3, a4, a5, a6⟩, ⟨f0, f1, f2, f3, f4, f5, f6⟩, hy0⟩ := row7 r0
  have Q0 := Lib.hid r0
  have hbW := Lib.hid (hb0.out.trans (hb1.mono (by simp)))
  clear r0 hb1
  obtain ⟨bk, o, rfl⟩ := strs_addr hs1
  have hbk := (strs_at hs1 0 (by simp)).1
  have hc00 := at_words hs1
  have n0 := World.new_ne _ _ a0
  have n1 := World.new_ne _ _ hc00
  simp only [List.length_cons] at hc
  clear hs1
  go_wp2_with fail
  refine (KC.out _).mono ?_; rintro e w' ⟨rfl, rfl⟩
  go_wp2_with fail
  all_goals
    refine bodyPost_ret ?_ rfl (ParseGives.no P.out rfl ?_)
    · simp [results, Try.results22, go_sem, *]
    · (repeat (first | (with_reducible refine Below.setCell ?_ (by first | exact Nat.le_refl _ | (simp; done) | ((try simp); omega)) _) | (with_reducible refine Below.alloc ?_ (by first | (simp; done) | ((try simp); omega)) _) | with_reducible refine Below.drew ?_)); exact hbW.out
set_option maxHeartbeats 4000000 in
set_option maxRecDepth 100000 in
theorem rp_3_many (s : ByteArray) (x : List UInt8) (T : List (List UInt8)) (hTl : T.length ≤ 1000000) (h1 : T.length ≠ 1) (w : World) (W : HasWords s x T w) (hk : It.kind x = 3) (hx : x.length ≤ 1000000) :
    Calls Try.prog 22 #[.string s] w (ParseGives (It.parseK 3 T) w) := by
  have P := Lib.hid (parseK_num_many (k := 3) (by omega) h1)
  have hl : ((T.length : Int) != 1) = true := by rw [bne_iff_ne]; omega
  clear h1
  have hb0 := Lib.hid ((Below.refl w.heap.size w).alloc (Nat.le_refl _) (.cells #[.int .i64 0, .string ⟨#[]⟩, .int .i64 0, .string ⟨#[]⟩, .int .u8 0, .string ⟨#[]⟩, .int .u8 0] 76))
  have R0 := Lib.hid (show (w.alloc (.cells #[.int .i64 0, .string ⟨#[]⟩, .int .i64 0, .string ⟨#[]⟩, .int .u8 0, .string ⟨#[]⟩, .int .u8 0] 76)).heap[w.heap.size]? = some (.cells #[.int .i64 0, .string ⟨#[]⟩, .int .i64 0, .string ⟨#[]⟩, .int .u8 0, .string ⟨#[]⟩, .int .u8 0] 76 (0, 0)) from heap_alloc_new _ _)
  have C := Lib.hid W
  have KC := Lib.hid (fun w => rkind_t x w hx 3 hk)
  clear W hk
  go_enter Try.func22, Try.ntmps22
  go_wp2_with fail
  refine C.out.mono ?_; rintro e w1 ⟨A, c, hc, rfl, hs1, hb1⟩
  have r0 := (hb1.block _ (show w.heap.size < (w.alloc (.cells #[.int .i64 0, .string ⟨#[]⟩, .int .i64 0, .string ⟨#[]⟩, .int .u8 0, .string ⟨#[]⟩, .int .u8 0] 76)).heap.size by simp)).trans R0.out
  obtain ⟨⟨a0, a1, a2, a3, a4, a5, a6⟩, ⟨f0, f1, f2, f3, f4, f5, f6⟩, hy0⟩ := row7 r0
  have Q0 := Lib.hid r0
  have hbW := Lib.hid (hb0.out.trans (hb1.mono (by simp)))
  clear r0 hb1
  obtain ⟨bk, o, rfl⟩ := strs_addr hs1
  have hbk := (strs_at hs1 0 (by simp)).1
  have hc00 := at_words hs1
  have n0 := World.new_ne _ _ a0
  have n1 := World.new_ne _ _ hc00
  simp only [List.length_cons] at hc
  clear hs1
  go_wp2_with fail
  refine (KC.out _).mono ?_; rintro e w' ⟨rfl, rfl⟩
  go_wp2_with fail
  all_goals
    refine bodyPost_ret ?_ rfl (ParseGives.no P.out rfl ?_)
    · simp [results, Try.results22, go_sem, *]
    · (repeat (first | (with_reducible refine Below.setCell ?_ (by first | exact Nat.le_refl _ | (simp; done) | ((try simp); omega)) _) | (with_reducible refine Below.alloc ?_ (by first | (simp; done) | ((try simp); omega)) _) | with_reducible refine Below.drew ?_)); exact hbW.out
set_option maxHeartbeats 4000000 in
set_option maxRecDepth 100000 in
theorem rp_4_many (s : ByteArray) (x : List UInt8) (T : List (List UInt8)) (hTl : T.length ≤ 1000000) (h1 : T.length ≠ 1) (w : World) (W : HasWords s x T w) (hk : It.kind x = 4) (hx : x.length ≤ 1000000) :
    Calls Try.prog 22 #[.string s] w (ParseGives (It.parseK 4 T) w) := by
  have P := Lib.hid (parseK_num_many (k := 4) (by omega) h1)
  have hl : ((T.length : Int) != 1) = true := by rw [bne_iff_ne]; omega
  clear h1
  have hb0 := Lib.hid ((Below.refl w.heap.size w).alloc (Nat.le_refl _) (.cells #[.int .i64 0, .string ⟨#[]⟩, .int .i64 0, .string ⟨#[]⟩, .int .u8 0, .string ⟨#[]⟩, .int .u8 0] 76))
  have R0 := Lib.hid (show (w.alloc (.cells #[.int .i64 0, .string ⟨#[]⟩, .int .i64 0, .string ⟨#[]⟩, .int .u8 0, .string ⟨#[]⟩, .int .u8 0] 76)).heap[w.heap.size]? = some (.cells #[.int .i64 0, .string ⟨#[]⟩, .int .i64 0, .string ⟨#[]⟩, .int .u8 0, .string ⟨#[]⟩, .int .u8 0] 76 (0, 0)) from heap_alloc_new _ _)
  have C := Lib.hid W
  have KC := Lib.hid (fun w => rkind_t x w hx 4 hk)
  clear W hk
  go_enter Try.func22, Try.ntmps22
  go_wp2_with fail
  refine C.out.mono ?_; rintro e w1 ⟨A, c, hc, rfl, hs1, hb1⟩
  have r0 := (hb1.block _ (show w.heap.size < (w.alloc (.cells #[.int .i64 0, .string ⟨#[]⟩, .int .i64 0, .string ⟨#[]⟩, .int .u8 0, .string ⟨#[]⟩, .int .u8 0] 76)).heap.size by simp)).trans R0.out
  obtain ⟨⟨a0, a1, a2, a3, a4, a5, a6⟩, ⟨f0, f1, f2, f3, f4, f5, f6⟩, hy0⟩ := row7 r0
  have Q0 := Lib.hid r0
  have hbW := Lib.hid (hb0.out.trans (hb1.mono (by simp)))
  clear r0 hb1
  obtain ⟨bk, o, rfl⟩ := strs_addr hs1
  have hbk := (strs_at hs1 0 (by simp)).1
  have hc00 := at_words hs1
  have n0 := World.new_ne _ _ a0
  have n1 := World.new_ne _ _ hc00
  simp only [List.length_cons] at hc
  clear hs1
  go_wp2_with fail
  refine (KC.out _).mono ?_; rintro e w' ⟨rfl, rfl⟩
  go_wp2_with fail
  all_goals
    refine bodyPost_ret ?_ rfl (ParseGives.no P.out rfl ?_)
    · simp [results, Try.results22, go_sem, *]
    · (repeat (first | (with_reducible refine Below.setCell ?_ (by first | exact Nat.le_refl _ | (simp; done) | ((try simp); omega)) _) | (with_reducible refine Below.alloc ?_ (by first | (simp; done) | ((try simp); omega)) _) | with_reducible refine Below.drew ?_)); exact hbW.out
set_option maxHeartbeats 4000000 in
set_option maxRecDepth 100000 in
theorem rp_8_many (s : ByteArray) (x : List UInt8) (T : List (List UInt8)) (hTl : T.length ≤ 1000000) (h1 : T.length ≠ 1) (w : World) (W : HasWords s x T w) (hk : It.kind x = 8) (hx : x.length ≤ 1000000) :
    Calls Try.prog 22 #[.string s] w (ParseGives (It.parseK 8 T) w) := by
  have P := Lib.hid (parseK_num_many (k := 8) (by omega) h1)
  have hl : ((T.length : Int) != 1) = true := by rw [bne_iff_ne]; omega
  clear h1
  have hb0 := Lib.hid ((Below.refl w.heap.size w).alloc (Nat.le_refl _) (.cells #[.int .i64 0, .string ⟨#[]⟩, .int .i64 0, .string ⟨#[]⟩, .int .u8 0, .string ⟨#[]⟩, .int .u8 0] 76))
  have R0 := Lib.hid (show (w.alloc (.cells #[.int .i64 0, .string ⟨#[]⟩, .int .i64 0, .string ⟨#[]⟩, .int .u8 0, .string ⟨#[]⟩, .int .u8 0] 76)).heap[w.heap.size]? = some (.cells #[.int .i64 0, .string ⟨#[]⟩, .int .i64 0, .string ⟨#[]⟩, .int .u8 0, .string ⟨#[]⟩, .int .u8 0] 76 (0, 0)) from heap_alloc_new _ _)
  have C := Lib.hid W
  have KC := Lib.hid (fun w => rkind_t x w hx 8 hk)
  clear W hk
  go_enter Try.func22, Try.ntmps22
  go_wp2_with fail
  refine C.out.mono ?_; rintro e w1 ⟨A, c, hc, rfl, hs1, hb1⟩
  have r0 := (hb1.block _ (show w.heap.size < (w.alloc (.cells #[.int .i64 0, .string ⟨#[]⟩, .int .i64 0, .string ⟨#[]⟩, .int .u8 0, .string ⟨#[]⟩, .int .u8 0] 76)).heap.size by simp)).trans R0.out
  obtain ⟨⟨a0, a1, a2, a3, a4, a5, a6⟩, ⟨f0, f1, f2, f3, f4, f5, f6⟩, hy0⟩ := row7 r0
  have Q0 := Lib.hid r0
  have hbW := Lib.hid (hb0.out.trans (hb1.mono (by simp)))
  clear r0 hb1
  obtain ⟨bk, o, rfl⟩ := strs_addr hs1
  have hbk := (strs_at hs1 0 (by simp)).1
  have hc00 := at_words hs1
  have n0 := World.new_ne _ _ a0
  have n1 := World.new_ne _ _ hc00
  simp only [List.length_cons] at hc
  clear hs1
  go_wp2_with fail
  refine (KC.out _).mono ?_; rintro e w' ⟨rfl, rfl⟩
  go_wp2_with fail
  all_goals
    refine bodyPost_ret ?_ rfl (ParseGives.no P.out rfl ?_)
    · simp [results, Try.results22, go_sem, *]
    · (repeat (first | (with_reducible refine Below.setCell ?_ (by first | exact Nat.le_refl _ | (simp; done) | ((try simp); omega)) _) | (with_reducible refine Below.alloc ?_ (by first | (simp; done) | ((try simp); omega)) _) | with_reducible refine Below.drew ?_)); exact hbW.out
set_option maxHeartbeats 4000000 in
set_option maxRecDepth 100000 in
theorem rp_7_many (s : ByteArray) (x : List UInt8) (T : List (List UInt8)) (hTl : T.length ≤ 1000000) (h1 : T.length ≠ 2) (w : World) (W : HasWords s x T w) (hk : It.kind x = 7) (hx : x.length ≤ 1000000) :
    Calls Try.prog 22 #[.string s] w (ParseGives (It.parseK 7 T) w) := by
  have P := Lib.hid (parseK_7_many h1)
  have hl : ((T.length : Int) != 2) = true := by rw [bne_iff_ne]; omega
  clear h1
  have hb0 := Lib.hid ((Below.refl w.heap.size w).alloc (Nat.le_refl _) (.cells #[.int .i64 0, .string ⟨#[]⟩, .int .i64 0, .string ⟨#[]⟩, .int .u8 0, .string ⟨#[]⟩, .int .u8 0] 76))
  have R0 := Lib.hid (show (w.alloc (.cells #[.int .i64 0, .string ⟨#[]⟩, .int .i64 0, .string ⟨#[]⟩, .int .u8 0, .string ⟨#[]⟩, .int .u8 0] 76)).heap[w.heap.size]? = some (.cells #[.int .i64 0, .string ⟨#[]⟩, .int .i64 0, .string ⟨#[]⟩, .int .u8 0, .string ⟨#[]⟩, .int .u8 0] 76 (0, 0)) from heap_alloc_new _ _)
  have C := Lib.hid W
  have KC := Lib.hid (fun w => rkind_t x w hx 7 hk)
  clear W hk
  go_enter Try.func22, Try.ntmps22
  go_wp2_with fail
  refine C.out.mono ?_; rintro e w1 ⟨A, c, hc, rfl, hs1, hb1⟩
  have r0 := (hb1.block _ (show w.heap.size < (w.alloc (.cells #[.int .i64 0, .string ⟨#[]⟩, .int .i64 0, .string ⟨#[]⟩, .int .u8 0, .string ⟨#[]⟩, .int .u8 0] 76)).heap.size by simp)).trans R0.out
  obtain ⟨⟨a0, a1, a2, a3, a4, a5, a6⟩, ⟨f0, f1, f2, f3, f4, f5, f6⟩, hy0⟩ := row7 r0
  have Q0 := Lib.hid r0
  have hbW := Lib.hid (hb0.out.trans (hb1.mono (by simp)))
  clear r0 hb1
  obtain ⟨bk, o, rfl⟩ := strs_addr hs1
  have hbk := (strs_at hs1 0 (by simp)).1
  have hc00 := at_words hs1
  have n0 := World.new_ne _ _ a0
  have n1 := World.new_ne _ _ hc00
  simp only [List.length_cons] at hc
  clear hs1
  go_wp2_with fail
  refine (KC.out _).mono ?_; rintro e w' ⟨rfl, rfl⟩
  go_wp2_with fail
  all_goals
    refine bodyPost_ret ?_ rfl (ParseGives.no P.out rfl ?_)
    · simp [results, Try.results22, go_sem, *]
    · (repeat (first | (with_reducible refine Below.setCell ?_ (by first | exact Nat.le_refl _ | (simp; done) | ((try simp); omega)) _) | (with_reducible refine Below.alloc ?_ (by first | (simp; done) | ((try simp); omega)) _) | with_reducible refine Below.drew ?_)); exact hbW.out
set_option maxHeartbeats 4000000 in
set_option maxRecDepth 100000 in
theorem rp_1_one (s : ByteArray) (x : List UInt8) (d : List UInt8) (hd : d.length ≤ 1000000) (w : World) (W : HasWords s x [d] w) (hk : It.kind x = 1) (hx : x.length ≤ 1000000) :
    Calls Try.prog 22 #[.string s] w (ParseGives (It.parseK 1 [d]) w) := by
  have MO := Lib.hid (fun w => most_t 1 w (by omega) (by omega) 0 1099511627776 rfl rfl)
  have hl : decide (Fig.parseN d 1099511627776 < 0) = false := dec_f (by have := parseN_nn d 1099511627776; omega)
  cases hp : Fig.parseB d 1099511627776
  · have P := Lib.hid (parseK_num_no (k := 1) rfl rfl hp)
    have PC := Lib.hid (fun w => rparse_t d 1099511627776 w hd _ hp)
    clear hd hp
    have hb0 := Lib.hid ((Below.refl w.heap.size w).alloc (Nat.le_refl _) (.cells #[.int .i64 0, .string ⟨#[]⟩, .int .i64 0, .string ⟨#[]⟩, .int .u8 0, .string ⟨#[]⟩, .int .u8 0] 76))
    have R0 := Lib.hid (show (w.alloc (.cells #[.int .i64 0, .string ⟨#[]⟩, .int .i64 0, .string ⟨#[]⟩, .int .u8 0, .string ⟨#[]⟩, .int .u8 0] 76)).heap[w.heap.size]? = some (.cells #[.int .i64 0, .string ⟨#[]⟩, .int .i64 0, .string ⟨#[]⟩, .int .u8 0, .string ⟨#[]⟩, .int .u8 0] 76 (0, 0)) from heap_alloc_new _ _)
    have C := Lib.hid W
    have KC := Lib.hid (fun w => rkind_t x w hx 1 hk)
    clear W hk
    go_enter Try.func22, Try.ntmps22
    go_wp2_with fail
    refine C.out.mono ?_; rintro e w1 ⟨A, c, hc, rfl, hs1, hb1⟩
    have r0 := (hb1.block _ (show w.heap.size < (w.alloc (.cells #[.int .i64 0, .string ⟨#[]⟩, .int .i64 0, .string ⟨#[]⟩, .int .u8 0, .string ⟨#[]⟩, .int .u8 0] 76)).heap.size by simp)).trans R0.out
    obtain ⟨⟨a0, a1, a2, a3, a4, a5, a6⟩, ⟨f0, f1, f2, f3, f4, f5, f6⟩, hy0⟩ := row7 r0
    have Q0 := Lib.hid r0
    have hbW := Lib.hid (hb0.out.trans (hb1.mono (by simp)))
    clear r0 hb1
    obtain ⟨bk, o, rfl⟩ := strs_addr hs1
    have hbk := (strs_at hs1 0 (by simp)).1
    have hc00 := at_words hs1
    have n0 := World.new_ne _ _ a0
    have n1 := World.new_ne _ _ hc00
    simp only [List.length_cons] at hc
    have hc01 := strs_2 hs1
    clear hs1
    go_wp2_with fail
    refine (KC.out _).mono ?_; rintro e w' ⟨rfl, rfl⟩
    go_wp2_with fail
    refine (MO.out _).mono ?_; rintro e w' ⟨rfl, rfl⟩
    go_wp2_with fail
    refine (PC.out _).mono ?_; rintro e w' ⟨rfl, rfl⟩
    go_wp2_with fail
    refine bodyPost_ret ?_ rfl (ParseGives.no P.out rfl ?_)
    · simp [results, Try.results22, go_sem, *]
    · (repeat (first | (with_reducible refine Below.setCell ?_ (by first | exact Nat.le_refl _ | (simp; done) | ((try simp); omega)) _) | (with_reducible refine Below.alloc ?_ (by first | (simp; done) | ((try simp); omega)) _) | with_reducible refine Below.drew ?_)); exact hbW.out
  · have PC := Lib.hid (fun w => rparse_t d 1099511627776 w hd _ hp)
    have P := Lib.hid (parseK_num_yes (k := 1) rfl rfl hp)
    clear hd hp
    have hb0 := Lib.hid ((Below.refl w.heap.size w).alloc (Nat.le_refl _) (.cells #[.int .i64 0, .string ⟨#[]⟩, .int .i64 0, .string ⟨#[]⟩, .int .u8 0, .string ⟨#[]⟩, .int .u8 0] 76))
    have R0 := Lib.hid (show (w.alloc (.cells #[.int .i64 0, .string ⟨#[]⟩, .int .i64 0, .string ⟨#[]⟩, .int .u8 0, .string ⟨#[]⟩, .int .u8 0] 76)).heap[w.heap.size]? = some (.cells #[.int .i64 0, .string ⟨#[]⟩, .int .i64 0, .string ⟨#[]⟩, .int .u8 0, .string ⟨#[]⟩, .int .u8 0] 76 (0, 0)) from heap_alloc_new _ _)
    have C := Lib.hid W
    have KC := Lib.hid (fun w => rkind_t x w hx 1 hk)
    clear W hk
    go_enter Try.func22, Try.ntmps22
    go_wp2_with fail
    refine C.out.mono ?_; rintro e w1 ⟨A, c, hc, rfl, hs1, hb1⟩
    have r0 := (hb1.block _ (show w.heap.size < (w.alloc (.cells #[.int .i64 0, .string ⟨#[]⟩, .int .i64 0, .string ⟨#[]⟩, .int .u8 0, .string ⟨#[]⟩, .int .u8 0] 76)).heap.size by simp)).trans R0.out
    obtain ⟨⟨a0, a1, a2, a3, a4, a5, a6⟩, ⟨f0, f1, f2, f3, f4, f5, f6⟩, hy0⟩ := row7 r0
    have Q0 := Lib.hid r0
    have hbW := Lib.hid (hb0.out.trans (hb1.mono (by simp)))
    clear r0 hb1
    obtain ⟨bk, o, rfl⟩ := strs_addr hs1
    have hbk := (strs_at hs1 0 (by simp)).1
    have hc00 := at_words hs1
    have n0 := World.new_ne _ _ a0
    have n1 := World.new_ne _ _ hc00
    simp only [List.length_cons] at hc
    have hc01 := strs_2 hs1
    clear hs1
    go_wp2_with fail
    refine (KC.out _).mono ?_; rintro e w' ⟨rfl, rfl⟩
    go_wp2_with fail
    refine (MO.out _).mono ?_; rintro e w' ⟨rfl, rfl⟩
    go_wp2_with fail
    refine (PC.out _).mono ?_; rintro e w' ⟨rfl, rfl⟩
    go_wp2_with fail
    refine bodyPost_ret ?_ rfl (ParseGives.yes P.out rfl ?_)
    · simp [results, Try.results22, go_sem, *] <;> (repeat' (first | exact rfl | apply And.intro))
    · (repeat (first | (with_reducible refine Below.setCell ?_ (by first | exact Nat.le_refl _ | (simp; done) | ((try simp); omega)) _) | (with_reducible refine Below.alloc ?_ (by first | (simp; done) | ((try simp); omega)) _) | with_reducible refine Below.drew ?_)); exact hbW.out
set_option maxHeartbeats 4000000 in
set_option maxRecDepth 100000 in
theorem rp_2_one (s : ByteArray) (x : List UInt8) (d : List UInt8) (hd : d.length ≤ 1000000) (w : World) (W : HasWords s x [d] w) (hk : It.kind x = 2) (hx : x.length ≤ 1000000) :
    Calls Try.prog 22 #[.string s] w (ParseGives (It.parseK 2 [d]) w) := by
  have MO := Lib.hid (fun w => most_t 2 w (by omega) (by omega) 0 1099511627776 rfl rfl)
  have hl : decide (Fig.parseN d 1099511627776 < 0) = false := dec_f (by have := parseN_nn d 1099511627776; omega)
  cases hp : Fig.parseB d 1099511627776
  · have P := Lib.hid (parseK_num_no (k := 2) rfl rfl hp)
    have PC := Lib.hid (fun w => rparse_t d 1099511627776 w hd _ hp)
    clear hd hp
    have hb0 := Lib.hid ((Below.refl w.heap.size w).alloc (Nat.le_refl _) (.cells #[.int .i64 0, .string ⟨#[]⟩, .int .i64 0, .string ⟨#[]⟩, .int .u8 0, .string ⟨#[]⟩, .int .u8 0] 76))
    have R0 := Lib.hid (show (w.alloc (.cells #[.int .i64 0, .string ⟨#[]⟩, .int .i64 0, .string ⟨#[]⟩, .int .u8 0, .string ⟨#[]⟩, .int .u8 0] 76)).heap[w.heap.size]? = some (.cells #[.int .i64 0, .string ⟨#[]⟩, .int .i64 0, .string ⟨#[]⟩, .int .u8 0, .string ⟨#[]⟩, .int .u8 0] 76 (0, 0)) from heap_alloc_new _ _)
    have C := Lib.hid W
    have KC := Lib.hid (fun w => rkind_t x w hx 2 hk)
    clear W hk
    go_enter Try.func22, Try.ntmps22
    go_wp2_with fail
    refine C.out.mono ?_; rintro e w1 ⟨A, c, hc, rfl, hs1, hb1⟩
    have r0 := (hb1.block _ (show w.heap.size < (w.alloc (.cells #[.int .i64 0, .string ⟨#[]⟩, .int .i64 0, .string ⟨#[]⟩, .int .u8 0, .string ⟨#[]⟩, .int .u8 0] 76)).heap.size by simp)).trans R0.out
    obtain ⟨⟨a0, a1, a2, a3, a4, a5, a6⟩, ⟨f0, f1, f2, f3, f4, f5, f6⟩, hy0⟩ := row7 r0
    have Q0 := Lib.hid r0
    have hbW := Lib.hid (hb0.out.trans (hb1.mono (by simp)))
    clear r0 hb1
    obtain ⟨bk, o, rfl⟩ := strs_addr hs1
    have hbk := (strs_at hs1 0 (by simp)).1
    have hc00 := at_words hs1
    have n0 := World.new_ne _ _ a0
    have n1 := World.new_ne _ _ hc00
    simp only [List.length_cons] at hc
    have hc01 := strs_2 hs1
    clear hs1
    go_wp2_with fail
    refine (KC.out _).mono ?_; rintro e w' ⟨rfl, rfl⟩
    go_wp2_with fail
    refine (MO.out _).mono ?_; rintro e w' ⟨rfl, rfl⟩
    go_wp2_with fail
    refine (PC.out _).mono ?_; rintro e w' ⟨rfl, rfl⟩
    go_wp2_with fail
    refine bodyPost_ret ?_ rfl (ParseGives.no P.out rfl ?_)
    · simp [results, Try.results22, go_sem, *]
    · (repeat (first | (with_reducible refine Below.setCell ?_ (by first | exact Nat.le_refl _ | (simp; done) | ((try simp); omega)) _) | (with_reducible refine Below.alloc ?_ (by first | (simp; done) | ((try simp); omega)) _) | with_reducible refine Below.drew ?_)); exact hbW.out
  · have PC := Lib.hid (fun w => rparse_t d 1099511627776 w hd _ hp)
    have P := Lib.hid (parseK_num_yes (k := 2) rfl rfl hp)
    clear hd hp
    have hb0 := Lib.hid ((Below.refl w.heap.size w).alloc (Nat.le_refl _) (.cells #[.int .i64 0, .string ⟨#[]⟩, .int .i64 0, .string ⟨#[]⟩, .int .u8 0, .string ⟨#[]⟩, .int .u8 0] 76))
    have R0 := Lib.hid (show (w.alloc (.cells #[.int .i64 0, .string ⟨#[]⟩, .int .i64 0, .string ⟨#[]⟩, .int .u8 0, .string ⟨#[]⟩, .int .u8 0] 76)).heap[w.heap.size]? = some (.cells #[.int .i64 0, .string ⟨#[]⟩, .int .i64 0, .string ⟨#[]⟩, .int .u8 0, .string ⟨#[]⟩, .int .u8 0] 76 (0, 0)) from heap_alloc_new _ _)
    have C := Lib.hid W
    have KC := Lib.hid (fun w => rkind_t x w hx 2 hk)
    clear W hk
    go_enter Try.func22, Try.ntmps22
    go_wp2_with fail
    refine C.out.mono ?_; rintro e w1 ⟨A, c, hc, rfl, hs1, hb1⟩
    have r0 := (hb1.block _ (show w.heap.size < (w.alloc (.cells #[.int .i64 0, .string ⟨#[]⟩, .int .i64 0, .string ⟨#[]⟩, .int .u8 0, .string ⟨#[]⟩, .int .u8 0] 76)).heap.size by simp)).trans R0.out
    obtain ⟨⟨a0, a1, a2, a3, a4, a5, a6⟩, ⟨f0, f1, f2, f3, f4, f5, f6⟩, hy0⟩ := row7 r0
    have Q0 := Lib.hid r0
    have hbW := Lib.hid (hb0.out.trans (hb1.mono (by simp)))
    clear r0 hb1
    obtain ⟨bk, o, rfl⟩ := strs_addr hs1
    have hbk := (strs_at hs1 0 (by simp)).1
    have hc00 := at_words hs1
    have n0 := World.new_ne _ _ a0
    have n1 := World.new_ne _ _ hc00
    simp only [List.length_cons] at hc
    have hc01 := strs_2 hs1
    clear hs1
    go_wp2_with fail
    refine (KC.out _).mono ?_; rintro e w' ⟨rfl, rfl⟩
    go_wp2_with fail
    refine (MO.out _).mono ?_; rintro e w' ⟨rfl, rfl⟩
    go_wp2_with fail
    refine (PC.out _).mono ?_; rintro e w' ⟨rfl, rfl⟩
    go_wp2_with fail
    refine bodyPost_ret ?_ rfl (ParseGives.yes P.out rfl ?_)
    · simp [results, Try.results22, go_sem, *] <;> (repeat' (first | exact rfl | apply And.intro))
    · (repeat (first | (with_reducible refine Below.setCell ?_ (by first | exact Nat.le_refl _ | (simp; done) | ((try simp); omega)) _) | (with_reducible refine Below.alloc ?_ (by first | (simp; done) | ((try simp); omega)) _) | with_reducible refine Below.drew ?_)); exact hbW.out
set_option maxHeartbeats 4000000 in
set_option maxRecDepth 100000 in
theorem rp_3_one (s : ByteArray) (x : List UInt8) (d : List UInt8) (hd : d.length ≤ 1000000) (w : World) (W : HasWords s x [d] w) (hk : It.kind x = 3) (hx : x.length ≤ 1000000) :
    Calls Try.prog 22 #[.string s] w (ParseGives (It.parseK 3 [d]) w) := by
  have MO := Lib.hid (fun w => most_t 3 w (by omega) (by omega) 0 1000 rfl rfl)
  have hl : decide (Fig.parseN d 1000 < 0) = false := dec_f (by have := parseN_nn d 1000; omega)
  cases hp : Fig.parseB d 1000
  · have P := Lib.hid (parseK_num_no (k := 3) rfl rfl hp)
    have PC := Lib.hid (fun w => rparse_t d 1000 w hd _ hp)
    clear hd hp
    have hb0 := Lib.hid ((Below.refl w.heap.size w).alloc (Nat.le_refl _) (.cells #[.int .i64 0, .string ⟨#[]⟩, .int .i64 0, .string ⟨#[]⟩, .int .u8 0, .string ⟨#[]⟩, .int .u8 0] 76))
    have R0 := Lib.hid (show (w.alloc (.cells #[.int .i64 0, .string ⟨#[]⟩, .int .i64 0, .string ⟨#[]⟩, .int .u8 0, .string ⟨#[]⟩, .int .u8 0] 76)).heap[w.heap.size]? = some (.cells #[.int .i64 0, .string ⟨#[]⟩, .int .i64 0, .string ⟨#[]⟩, .int .u8 0, .string ⟨#[]⟩, .int .u8 0] 76 (0, 0)) from heap_alloc_new _ _)
    have C := Lib.hid W
    have KC := Lib.hid (fun w => rkind_t x w hx 3 hk)
    clear W hk
    go_enter Try.func22, Try.ntmps22
    go_wp2_with fail
    refine C.out.mono ?_; rintro e w1 ⟨A, c, hc, rfl, hs1, hb1⟩
    have r0 := (hb1.block _ (show w.heap.size < (w.alloc (.cells #[.int .i64 0, .string ⟨#[]⟩, .int .i64 0, .string ⟨#[]⟩, .int .u8 0, .string ⟨#[]⟩, .int .u8 0] 76)).heap.size by simp)).trans R0.out
    obtain ⟨⟨a0, a1, a2, a3, a4, a5, a6⟩, ⟨f0, f1, f2, f3, f4, f5, f6⟩, hy0⟩ := row7 r0
    have Q0 := Lib.hid r0
    have hbW := Lib.hid (hb0.out.trans (hb1.mono (by simp)))
    clear r0 hb1
    obtain ⟨bk, o, rfl⟩ := strs_addr hs1
    have hbk := (strs_at hs1 0 (by simp)).1
    have hc00 := at_words hs1
    have n0 := World.new_ne _ _ a0
    have n1 := World.new_ne _ _ hc00
    simp only [List.length_cons] at hc
    have hc01 := strs_2 hs1
    clear hs1
    go_wp2_with fail
    refine (KC.out _).mono ?_; rintro e w' ⟨rfl, rfl⟩
    go_wp2_with fail
    refine (MO.out _).mono ?_; rintro e w' ⟨rfl, rfl⟩
    go_wp2_with fail
    refine (PC.out _).mono ?_; rintro e w' ⟨rfl, rfl⟩
    go_wp2_with fail
    refine bodyPost_ret ?_ rfl (ParseGives.no P.out rfl ?_)
    · simp [results, Try.results22, go_sem, *]
    · (repeat (first | (with_reducible refine Below.setCell ?_ (by first | exact Nat.le_refl _ | (simp; done) | ((try simp); omega)) _) | (with_reducible refine Below.alloc ?_ (by first | (simp; done) | ((try simp); omega)) _) | with_reducible refine Below.drew ?_)); exact hbW.out
  · have PC := Lib.hid (fun w => rparse_t d 1000 w hd _ hp)
    have P := Lib.hid (parseK_num_yes (k := 3) rfl rfl hp)
    clear hd hp
    have hb0 := Lib.hid ((Below.refl w.heap.size w).alloc (Nat.le_refl _) (.cells #[.int .i64 0, .string ⟨#[]⟩, .int .i64 0, .string ⟨#[]⟩, .int .u8 0, .string ⟨#[]⟩, .int .u8 0] 76))
    have R0 := Lib.hid (show (w.alloc (.cells #[.int .i64 0, .string ⟨#[]⟩, .int .i64 0, .string ⟨#[]⟩, .int .u8 0, .string ⟨#[]⟩, .int .u8 0] 76)).heap[w.heap.size]? = some (.cells #[.int .i64 0, .string ⟨#[]⟩, .int .i64 0, .string ⟨#[]⟩, .int .u8 0, .string ⟨#[]⟩, .int .u8 0] 76 (0, 0)) from heap_alloc_new _ _)
    have C := Lib.hid W
    have KC := Lib.hid (fun w => rkind_t x w hx 3 hk)
    clear W hk
    go_enter Try.func22, Try.ntmps22
    go_wp2_with fail
    refine C.out.mono ?_; rintro e w1 ⟨A, c, hc, rfl, hs1, hb1⟩
    have r0 := (hb1.block _ (show w.heap.size < (w.alloc (.cells #[.int .i64 0, .string ⟨#[]⟩, .int .i64 0, .string ⟨#[]⟩, .int .u8 0, .string ⟨#[]⟩, .int .u8 0] 76)).heap.size by simp)).trans R0.out
    obtain ⟨⟨a0, a1, a2, a3, a4, a5, a6⟩, ⟨f0, f1, f2, f3, f4, f5, f6⟩, hy0⟩ := row7 r0
    have Q0 := Lib.hid r0
    have hbW := Lib.hid (hb0.out.trans (hb1.mono (by simp)))
    clear r0 hb1
    obtain ⟨bk, o, rfl⟩ := strs_addr hs1
    have hbk := (strs_at hs1 0 (by simp)).1
    have hc00 := at_words hs1
    have n0 := World.new_ne _ _ a0
    have n1 := World.new_ne _ _ hc00
    simp only [List.length_cons] at hc
    have hc01 := strs_2 hs1
    clear hs1
    go_wp2_with fail
    refine (KC.out _).mono ?_; rintro e w' ⟨rfl, rfl⟩
    go_wp2_with fail
    refine (MO.out _).mono ?_; rintro e w' ⟨rfl, rfl⟩
    go_wp2_with fail
    refine (PC.out _).mono ?_; rintro e w' ⟨rfl, rfl⟩
    go_wp2_with fail
    refine bodyPost_ret ?_ rfl (ParseGives.yes P.out rfl ?_)
    · simp [results, Try.results22, go_sem, *] <;> (repeat' (first | exact rfl | apply And.intro))
    · (repeat (first | (with_reducible refine Below.setCell ?_ (by first | exact Nat.le_refl _ | (simp; done) | ((try simp); omega)) _) | (with_reducible refine Below.alloc ?_ (by first | (simp; done) | ((try simp); omega)) _) | with_reducible refine Below.drew ?_)); exact hbW.out
set_option maxHeartbeats 4000000 in
set_option maxRecDepth 100000 in
theorem rp_4_one (s : ByteArray) (x : List UInt8) (d : List UInt8) (hd : d.length ≤ 1000000) (w : World) (W : HasWords s x [d] w) (hk : It.kind x = 4) (hx : x.length ≤ 1000000) :
    Calls Try.prog 22 #[.string s] w (ParseGives (It.parseK 4 [d]) w) := by
  have MO := Lib.hid (fun w => most_t 4 w (by omega) (by omega) 0 1000 rfl rfl)
  have hl : decide (Fig.parseN d 1000 < 0) = false := dec_f (by have := parseN_nn d 1000; omega)
  cases hp : Fig.parseB d 1000
  · have P := Lib.hid (parseK_num_no (k := 4) rfl rfl hp)
    have PC := Lib.hid (fun w => rparse_t d 1000 w hd _ hp)
    clear hd hp
    have hb0 := Lib.hid ((Below.refl w.heap.size w).alloc (Nat.le_refl _) (.cells #[.int .i64 0, .string ⟨#[]⟩, .int .i64 0, .string ⟨#[]⟩, .int .u8 0, .string ⟨#[]⟩, .int .u8 0] 76))
    have R0 := Lib.hid (show (w.alloc (.cells #[.int .i64 0, .string ⟨#[]⟩, .int .i64 0, .string ⟨#[]⟩, .int .u8 0, .string ⟨#[]⟩, .int .u8 0] 76)).heap[w.heap.size]? = some (.cells #[.int .i64 0, .string ⟨#[]⟩, .int .i64 0, .string ⟨#[]⟩, .int .u8 0, .string ⟨#[]⟩, .int .u8 0] 76 (0, 0)) from heap_alloc_new _ _)
    have C := Lib.hid W
    have KC := Lib.hid (fun w => rkind_t x w hx 4 hk)
    clear W hk
    go_enter Try.func22, Try.ntmps22
    go_wp2_with fail
    refine C.out.mono ?_; rintro e w1 ⟨A, c, hc, rfl, hs1, hb1⟩
    have r0 := (hb1.block _ (show w.heap.size < (w.alloc (.cells #[.int .i64 0, .string ⟨#[]⟩, .int .i64 0, .string ⟨#[]⟩, .int .u8 0, .string ⟨#[]⟩, .int .u8 0] 76)).heap.size by simp)).trans R0.out
    obtain ⟨⟨a0, a1, a2, a3, a4, a5, a6⟩, ⟨f0, f1, f2, f3, f4, f5, f6⟩, hy0⟩ := row7 r0
    have Q0 := Lib.hid r0
    have hbW := Lib.hid (hb0.out.trans (hb1.mono (by simp)))
    clear r0 hb1
    obtain ⟨bk, o, rfl⟩ := strs_addr hs1
    have hbk := (strs_at hs1 0 (by simp)).1
    have hc00 := at_words hs1
    have n0 := World.new_ne _ _ a0
    have n1 := World.new_ne _ _ hc00
    simp only [List.length_cons] at hc
    have hc01 := strs_2 hs1
    clear hs1
    go_wp2_with fail
    refine (KC.out _).mono ?_; rintro e w' ⟨rfl, rfl⟩
    go_wp2_with fail
    refine (MO.out _).mono ?_; rintro e w' ⟨rfl, rfl⟩
    go_wp2_with fail
    refine (PC.out _).mono ?_; rintro e w' ⟨rfl, rfl⟩
    go_wp2_with fail
    refine bodyPost_ret ?_ rfl (ParseGives.no P.out rfl ?_)
    · simp [results, Try.results22, go_sem, *]
    · (repeat (first | (with_reducible refine Below.setCell ?_ (by first | exact Nat.le_refl _ | (simp; done) | ((try simp); omega)) _) | (with_reducible refine Below.alloc ?_ (by first | (simp; done) | ((try simp); omega)) _) | with_reducible refine Below.drew ?_)); exact hbW.out
  · have PC := Lib.hid (fun w => rparse_t d 1000 w hd _ hp)
    have P := Lib.hid (parseK_num_yes (k := 4) rfl rfl hp)
    clear hd hp
    have hb0 := Lib.hid ((Below.refl w.heap.size w).alloc (Nat.le_refl _) (.cells #[.int .i64 0, .string ⟨#[]⟩, .int .i64 0, .string ⟨#[]⟩, .int .u8 0, .string ⟨#[]⟩, .int .u8 0] 76))
    have R0 := Lib.hid (show (w.alloc (.cells #[.int .i64 0, .string ⟨#[]⟩, .int .i64 0, .string ⟨#[]⟩, .int .u8 0, .string ⟨#[]⟩, .int .u8 0] 76)).heap[w.heap.size]? = some (.cells #[.int .i64 0, .string ⟨#[]⟩, .int .i64 0, .string ⟨#[]⟩, .int .u8 0, .string ⟨#[]⟩, .int .u8 0] 76 (0, 0)) from heap_alloc_new _ _)
    have C := Lib.hid W
    have KC := Lib.hid (fun w => rkind_t x w hx 4 hk)
    clear W hk
    go_enter Try.func22, Try.ntmps22
    go_wp2_with fail
    refine C.out.mono ?_; rintro e w1 ⟨A, c, hc, rfl, hs1, hb1⟩
    have r0 := (hb1.block _ (show w.heap.size < (w.alloc (.cells #[.int .i64 0, .string ⟨#[]⟩, .int .i64 0, .string ⟨#[]⟩, .int .u8 0, .string ⟨#[]⟩, .int .u8 0] 76)).heap.size by simp)).trans R0.out
    obtain ⟨⟨a0, a1, a2, a3, a4, a5, a6⟩, ⟨f0, f1, f2, f3, f4, f5, f6⟩, hy0⟩ := row7 r0
    have Q0 := Lib.hid r0
    have hbW := Lib.hid (hb0.out.trans (hb1.mono (by simp)))
    clear r0 hb1
    obtain ⟨bk, o, rfl⟩ := strs_addr hs1
    have hbk := (strs_at hs1 0 (by simp)).1
    have hc00 := at_words hs1
    have n0 := World.new_ne _ _ a0
    have n1 := World.new_ne _ _ hc00
    simp only [List.length_cons] at hc
    have hc01 := strs_2 hs1
    clear hs1
    go_wp2_with fail
    refine (KC.out _).mono ?_; rintro e w' ⟨rfl, rfl⟩
    go_wp2_with fail
    refine (MO.out _).mono ?_; rintro e w' ⟨rfl, rfl⟩
    go_wp2_with fail
    refine (PC.out _).mono ?_; rintro e w' ⟨rfl, rfl⟩
    go_wp2_with fail
    refine bodyPost_ret ?_ rfl (ParseGives.yes P.out rfl ?_)
    · simp [results, Try.results22, go_sem, *] <;> (repeat' (first | exact rfl | apply And.intro))
    · (repeat (first | (with_reducible refine Below.setCell ?_ (by first | exact Nat.le_refl _ | (simp; done) | ((try simp); omega)) _) | (with_reducible refine Below.alloc ?_ (by first | (simp; done) | ((try simp); omega)) _) | with_reducible refine Below.drew ?_)); exact hbW.out
end Go.Proofs.Ytgajdfecajleiaa
