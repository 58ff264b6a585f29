/-
  Texts of this claim, merged: ItRParseN, ItRParseE, ItRParseA, ItEq, ItRight, ItAwake.
-/
import Derived.Test.YtbmmcmdopekccaaMg07
import Derived.ChangeKeysEq
/-
  The walk of the document's answer to layer 3's Parse: numbers' lines.
-/
namespace Go.Proofs.Ytbmmcmdopekccaa
open Go.RowKit

theorem parseN_nn (l : List UInt8) (m : Int) : 0 ≤ Fig.parseN l m := by
  unfold Fig.parseN
  split
  · rename_i h
    simp only [Fig.parseB, Fig.form, Bool.and_eq_true] at h
    exact (Fig.val_bd l h.1.2).1
  · exact Int.le_refl 0
theorem parseK_num_many {k : Int} (hk : k = 1 ∨ k = 2 ∨ k = 3 ∨ k = 4 ∨ k = 8) {T : List (List UInt8)} (h : T.length ≠ 1) : It.parseK k T = none := by
  rcases hk with rfl | rfl | rfl | rfl | rfl
  all_goals
    match T, h with
    | [], _ => rfl
    | [d], h => exact absurd rfl h
    | _ :: _ :: _, _ => rfl
theorem parseK_7_many {T : List (List UInt8)} (h : T.length ≠ 2) : It.parseK 7 T = none := by
  match T, h with
  | [], _ => rfl
  | [d], _ => rfl
  | [_, _], h => exact absurd rfl h
  | _ :: _ :: _ :: _, _ => rfl
theorem parseK_num_yes {k : Int} (hk : It.isNum k = true) {d : List UInt8} {m : Int} (hm : It.most k = m) (hp : Fig.parseB d m = true) : It.parseK k [d] = some ⟨k, [], Fig.parseN d m, It.Tp.zero, It.Tp.zero⟩ := by
  subst hm; simp [It.parseK, hk, hp]
theorem parseK_num_no {k : Int} (hk : It.isNum k = true) {d : List UInt8} {m : Int} (hm : It.most k = m) (hp : Fig.parseB d m = false) : It.parseK k [d] = none := by
  subst hm; simp [It.parseK, hk, hp]
set_option maxHeartbeats 4000000 in
set_option maxRecDepth 100000 in
theorem rp_1_many (s : ByteArray) (x : List UInt8) (T : List (List UInt8)) (hTl : T.length ≤ 1000000) (h1 : T.length ≠ 1) (w : World) (W : HasWords s x T w) (hk : It.kind x = 1) (hx : x.length ≤ 1000000) :
    Calls Try.prog 35 #[.string s] w (ParseGives (It.parseK 1 T) w) := by
  have P := Lib.hid (parseK_num_many (k := 1) (by omega) h1)
  have hl : ((T.length : Int) != 1) = true := by rw [bne_iff_ne]; omega
  clear h1
  have hb0 := Lib.hid ((Below.refl w.heap.size w).alloc (Nat.le_refl _) (.cells #[.int .i64 0, .string ⟨#[]⟩, .int .i64 0, .string ⟨#[]⟩, .int .u8 0, .string ⟨#[]⟩, .int .u8 0] 84))
  have R0 := Lib.hid (show (w.alloc (.cells #[.int .i64 0, .string ⟨#[]⟩, .int .i64 0, .string ⟨#[]⟩, .int .u8 0, .string ⟨#[]⟩, .int .u8 0] 84)).heap[w.heap.size]? = some (.cells #[.int .i64 0, .string ⟨#[]⟩, .int .i64 0, .string ⟨#[]⟩, .int .u8 0, .string ⟨#[]⟩, .int .u8 0] 84 (0, 0)) from heap_alloc_new _ _)
  have C := Lib.hid W
  have KC := Lib.hid (fun w => rkind_t x w hx 1 hk)
  clear W hk
  go_enter Try.func35, Try.ntmps35
  go_wp2_with fail
  refine C.out.mono ?_; rintro e w1 ⟨A, c, hc, rfl, hs1, hb1⟩
  have r0 := (hb1.block _ (show w.heap.size < (w.alloc (.cells #[.int .i64 0, .string ⟨#[]⟩, .int .i64 0, .string ⟨#[]⟩, .int .u8 0, .string ⟨#[]⟩, .int .u8 0] 84)).heap.size by simp)).trans R0.out
  obtain ⟨⟨a0, a1, a2, a3, a4, a5, a6⟩, ⟨f0, f1, f2, f3, f4, f5, f6⟩, hy0⟩ := row7 r0
  have Q0 := Lib.hid r0
  have hbW := Lib.hid (hb0.out.trans (hb1.mono (by simp)))
  clear r0 hb1
  obtain ⟨bk, o, rfl⟩ := strs_addr hs1
  have hbk := (strs_at hs1 0 (by simp)).1
  have hc00 := at_words hs1
  have n0 := World.new_ne _ _ a0
  have n1 := World.new_ne _ _ hc00
  simp only [List.length_cons] at hc
  clear hs1
  go_wp2_with fail
  refine (KC.out _).mono ?_; rintro e w' ⟨rfl, rfl⟩
  go_wp2_with fail
  all_goals
    refine bodyPost_ret ?_ rfl (ParseGives.no P.out rfl ?_)
    · simp [results, Try.results35, go_sem, *]
    · (repeat (first | (with_reducible refine Below.setCell ?_ (by first | exact Nat.le_refl _ | (simp; done) | ((try simp); omega)) _) | (with_reducible refine Below.alloc ?_ (by first | (simp; done) | ((try simp); omega)) _) | with_reducible refine Below.drew ?_)); exact hbW.out
set_option maxHeartbeats 4000000 in
set_option maxRecDepth 100000 in
theorem rp_2_many (s : ByteArray) (x : List UInt8) (T : List (List UInt8)) (hTl : T.length ≤ 1000000) (h1 : T.length ≠ 1) (w : World) (W : HasWords s x T w) (hk : It.kind x = 2) (hx : x.length ≤ 1000000) :
    Calls Try.prog 35 #[.string s] w (ParseGives (It.parseK 2 T) w) := by
  have P := Lib.hid (parseK_num_many (k := 2) (by omega) h1)
  have hl : ((T.length : Int) != 1) = true := by rw [bne_iff_ne]; omega
  clear h1
  have hb0 := Lib.hid ((Below.refl w.heap.size w).alloc (Nat.le_refl _) (.cells #[.int .i64 0, .string ⟨#[]⟩, .int .i64 0, .string ⟨#[]⟩, .int .u8 0, .string ⟨#[]⟩, .int .u8 0] 84))
  have R0 := Lib.hid (show (w.alloc (.cells #[.int .i64 0, .string ⟨#[]⟩, .int .i64 0, .string ⟨#[]⟩, .int .u8 0, .string ⟨#[]⟩, .int .u8 0] 84)).heap[w.heap.size]? = some (.cells #[.int .i64 0, .string ⟨#[]⟩, .int .i64 0, .string ⟨#[]⟩, .int .u8 0, .string ⟨#[]⟩, .int .u8 0] 84 (0, 0)) from heap_alloc_new _ _)
  have C := Lib.hid W
  have KC := Lib.hid (fun w => rkind_t x w hx 2 hk)
  clear W hk
  go_enter Try.func35, Try.ntmps35
  go_wp2_with fail
  refine C.out.mono ?_; rintro e w1 ⟨A, c, hc, rfl, hs1, hb1⟩
  have r0 := (hb1.block _ (show w.heap.size < (w.alloc (.cells #[.int .i64 0, .string ⟨#[]⟩, .int .i64 0, .string ⟨#[]⟩, .int .u8 0, .string ⟨#[]⟩, .int .u8 0] 84)).heap.size by simp)).trans R0.out
  obtain ⟨⟨a0, a1, a2, a3, a4, a5, a6⟩, ⟨f0, f1, f2, f3, f4, f5, f6⟩, hy0⟩ := row7 r0
  have Q0 := Lib.hid r0
  have hbW := Lib.hid (hb0.out.trans (hb1.mono (by simp)))
  clear r0 hb1
  obtain ⟨bk, o, rfl⟩ := strs_addr hs1
  have hbk := (strs_at hs1 0 (by simp)).1
  have hc00 := at_words hs1
  have n0 := World.new_ne _ _ a0
  have n1 := World.new_ne _ _ hc00
  simp only [List.length_cons] at hc
  clear hs1
  go_wp2_with fail
  refine (KC.out _).mono ?_; rintro e w' ⟨rfl, rfl⟩
  go_wp2_with fail
  all_goals
    refine bodyPost_ret ?_ rfl (ParseGives.no P.out rfl ?_)
    · simp [results, Try.results35, go_sem, *]
    · (repeat (first | (with_reducible refine Below.setCell ?_ (by first | exact Nat.le_refl _ | (simp; done) | ((try simp); omega)) _) | (with_reducible refine Below.alloc ?_ (by first | (simp; done) | ((try simp); omega)) _) | with_reducible refine Below.drew ?_)); exact hbW.out
set_option maxHeartbeats 4000000 in
set_option maxRecDepth 100000 in
theorem rp_3_many (s : ByteArray) (x : List UInt8) (T : List (List UInt8)) (hTl : T.length ≤ 1000000) (h1 : T.length ≠ 1) (w : World) (W : HasWords s x T w) (hk : It.kind x = 3) (hx : x.length ≤ 1000000) :
    Calls Try.prog 35 #[.string s] w (ParseGives (It.parseK 3 T) w) := by
  have P := Lib.hid (parseK_num_many (k := 3) (by omega) h1)
  have hl : ((T.length : Int) != 1) = true := by rw [bne_iff_ne]; omega
  clear h1
  have hb0 := Lib.hid ((Below.refl w.heap.size w).alloc (Nat.le_refl _) (.cells #[.int .i64 0, .string ⟨#[]⟩, .int .i64 0, .string ⟨#[]⟩, .int .u8 0, .string ⟨#[]⟩, .int .u8 0] 84))
  have R0 := Lib.hid (show (w.alloc (.cells #[.int .i64 0, .string ⟨#[]⟩, .int .i64 0, .string ⟨#[]⟩, .int .u8 0, .string ⟨#[]⟩, .int .u8 0] 84)).heap[w.heap.size]? = some (.cells #[.int .i64 0, .string ⟨#[]⟩, .int .i64 0, .string ⟨#[]⟩, .int .u8 0, .string ⟨#[]⟩, .int .u8 0] 84 (0, 0)) from heap_alloc_new _ _)
  have C := Lib.hid W
  have KC := Lib.hid (fun w => rkind_t x w hx 3 hk)
  clear W hk
  go_enter Try.func35, Try.ntmps35
  go_wp2_with fail
  refine C.out.mono ?_; rintro e w1 ⟨A, c, hc, rfl, hs1, hb1⟩
  have r0 := (hb1.block _ (show w.heap.size < (w.alloc (.cells #[.int .i64 0, .string ⟨#[]⟩, .int .i64 0, .string ⟨#[]⟩, .int .u8 0, .string ⟨#[]⟩, .int .u8 0] 84)).heap.size by simp)).trans R0.out
  obtain ⟨⟨a0, a1, a2, a3, a4, a5, a6⟩, ⟨f0, f1, f2, f3, f4, f5, f6⟩, hy0⟩ := row7 r0
  have Q0 := Lib.hid r0
  have hbW := Lib.hid (hb0.out.trans (hb1.mono (by simp)))
  clear r0 hb1
  obtain ⟨bk, o, rfl⟩ := strs_addr hs1
  have hbk := (strs_at hs1 0 (by simp)).1
  have hc00 := at_words hs1
  have n0 := World.new_ne _ _ a0
  have n1 := World.new_ne _ _ hc00
  simp only [List.length_cons] at hc
  clear hs1
  go_wp2_with fail
  refine (KC.out _).mono ?_; rintro e w' ⟨rfl, rfl⟩
  go_wp2_with fail
  all_goals
    refine bodyPost_ret ?_ rfl (ParseGives.no P.out rfl ?_)
    · simp [results, Try.results35, go_sem, *]
    · (repeat (first | (with_reducible refine Below.setCell ?_ (by first | exact Nat.le_refl _ | (simp; done) | ((try simp); omega)) _) | (with_reducible refine Below.alloc ?_ (by first | (simp; done) | ((try simp); omega)) _) | with_reducible refine Below.drew ?_)); exact hbW.out
set_option maxHeartbeats 4000000 in
set_option maxRecDepth 100000 in
theorem rp_4_many (s : ByteArray) (x : List UInt8) (T : List (List UInt8)) (hTl : T.length ≤ 1000000) (h1 : T.length ≠ 1) (w : World) (W : HasWords s x T w) (hk : It.kind x = 4) (hx : x.length ≤ 1000000) :
    Calls Try.prog 35 #[.string s] w (ParseGives (It.parseK 4 T) w) := by
  have P := Lib.hid (parseK_num_many (k := 4) (by omega) h1)
  have hl : ((T.length : Int) != 1) = true := by rw [bne_iff_ne]; omega
  clear h1
  have hb0 := Lib.hid ((Below.refl w.heap.size w).alloc (Nat.le_refl _) (.cells #[.int .i64 0, .string ⟨#[]⟩, .int .i64 0, .string ⟨#[]⟩, .int .u8 0, .string ⟨#[]⟩, .int .u8 0] 84))
  have R0 := Lib.hid (show (w.alloc (.cells #[.int .i64 0, .string ⟨#[]⟩, .int .i64 0, .string ⟨#[]⟩, .int .u8 0, .string ⟨#[]⟩, .int .u8 0] 84)).heap[w.heap.size]? = some (.cells #[.int .i64 0, .string ⟨#[]⟩, .int .i64 0, .string ⟨#[]⟩, .int .u8 0, .string ⟨#[]⟩, .int .u8 0] 84 (0, 0)) from heap_alloc_new _ _)
  have C := Lib.hid W
  have KC := Lib.hid (fun w => rkind_t x w hx 4 hk)
  clear W hk
  go_enter Try.func35, Try.ntmps35
  go_wp2_with fail
  refine C.out.mono ?_; rintro e w1 ⟨A, c, hc, rfl, hs1, hb1⟩
  have r0 := (hb1.block _ (show w.heap.size < (w.alloc (.cells #[.int .i64 0, .string ⟨#[]⟩, .int .i64 0, .string ⟨#[]⟩, .int .u8 0, .string ⟨#[]⟩, .int .u8 0] 84)).heap.size by simp)).trans R0.out
  obtain ⟨⟨a0, a1, a2, a3, a4, a5, a6⟩, ⟨f0, f1, f2, f3, f4, f5, f6⟩, hy0⟩ := row7 r0
  have Q0 := Lib.hid r0
  have hbW := Lib.hid (hb0.out.trans (hb1.mono (by simp)))
  clear r0 hb1
  obtain ⟨bk, o, rfl⟩ := strs_addr hs1
  have hbk := (strs_at hs1 0 (by simp)).1
  have hc00 := at_words hs1
  have n0 := World.new_ne _ _ a0
  have n1 := World.new_ne _ _ hc00
  simp only [List.length_cons] at hc
  clear hs1
  go_wp2_with fail
  refine (KC.out _).mono ?_; rintro e w' ⟨rfl, rfl⟩
  go_wp2_with fail
  all_goals
    refine bodyPost_ret ?_ rfl (ParseGives.no P.out rfl ?_)
    · simp [results, Try.results35, go_sem, *]
    · (repeat (first | (with_reducible refine Below.setCell ?_ (by first | exact Nat.le_refl _ | (simp; done) | ((try simp); omega)) _) | (with_reducible refine Below.alloc ?_ (by first | (simp; done) | ((try simp); omega)) _) | with_reducible refine Below.drew ?_)); exact hbW.out
set_option maxHeartbeats 4000000 in
set_option maxRecDepth 100000 in
theorem rp_8_many (s : ByteArray) (x : List UInt8) (T : List (List UInt8)) (hTl : T.length ≤ 1000000) (h1 : T.length ≠ 1) (w : World) (W : HasWords s x T w) (hk : It.kind x = 8) (hx : x.length ≤ 1000000) :
    Calls Try.prog 35 #[.string s] w (ParseGives (It.parseK 8 T) w) := by
  have P := Lib.hid (parseK_num_many (k := 8) (by omega) h1)
  have hl : ((T.length : Int) != 1) = true := by rw [bne_iff_ne]; omega
  clear h1
  have hb0 := Lib.hid ((Below.refl w.heap.size w).alloc (Nat.le_refl _) (.cells #[.int .i64 0, .string ⟨#[]⟩, .int .i64 0, .string ⟨#[]⟩, .int .u8 0, .string ⟨#[]⟩, .int .u8 0] 84))
  have R0 := Lib.hid (show (w.alloc (.cells #[.int .i64 0, .string ⟨#[]⟩, .int .i64 0, .string ⟨#[]⟩, .int .u8 0, .string ⟨#[]⟩, .int .u8 0] 84)).heap[w.heap.size]? = some (.cells #[.int .i64 0, .string ⟨#[]⟩, .int .i64 0, .string ⟨#[]⟩, .int .u8 0, .string ⟨#[]⟩, .int .u8 0] 84 (0, 0)) from heap_alloc_new _ _)
  have C := Lib.hid W
  have KC := Lib.hid (fun w => rkind_t x w hx 8 hk)
  clear W hk
  go_enter Try.func35, Try.ntmps35
  go_wp2_with fail
  refine C.out.mono ?_; rintro e w1 ⟨A, c, hc, rfl, hs1, hb1⟩
  have r0 := (hb1.block _ (show w.heap.size < (w.alloc (.cells #[.int .i64 0, .string ⟨#[]⟩, .int .i64 0, .string ⟨#[]⟩, .int .u8 0, .string ⟨#[]⟩, .int .u8 0] 84)).heap.size by simp)).trans R0.out
  obtain ⟨⟨a0, a1, a2, a3, a4, a5, a6⟩, ⟨f0, f1, f2, f3, f4, f5, f6⟩, hy0⟩ := row7 r0
  have Q0 := Lib.hid r0
  have hbW := Lib.hid (hb0.out.trans (hb1.mono (by simp)))
  clear r0 hb1
  obtain ⟨bk, o, rfl⟩ := strs_addr hs1
  have hbk := (strs_at hs1 0 (by simp)).1
  have hc00 := at_words hs1
  have n0 := World.new_ne _ _ a0
  have n1 := World.new_ne _ _ hc00
  simp only [List.length_cons] at hc
  clear hs1
  go_wp2_with fail
  refine (KC.out _).mono ?_; rintro e w' ⟨rfl, rfl⟩
  go_wp2_with fail
  all_goals
    refine bodyPost_ret ?_ rfl (ParseGives.no P.out rfl ?_)
    · simp [results, Try.results35, go_sem, *]
    · (repeat (first | (with_reducible refine Below.setCell ?_ (by first | exact Nat.le_refl _ | (simp; done) | ((try simp); omega)) _) | (with_reducible refine Below.alloc ?_ (by first | (simp; done) | ((try simp); omega)) _) | with_reducible refine Below.drew ?_)); exact hbW.out
set_option maxHeartbeats 4000000 in
set_option maxRecDepth 100000 in
theorem rp_7_many (s : ByteArray) (x : List UInt8) (T : List (List UInt8)) (hTl : T.length ≤ 1000000) (h1 : T.length ≠ 2) (w : World) (W : HasWords s x T w) (hk : It.kind x = 7) (hx : x.length ≤ 1000000) :
    Calls Try.prog 35 #[.string s] w (ParseGives (It.parseK 7 T) w) := by
  have P := Lib.hid (parseK_7_many h1)
  have hl : ((T.length : Int) != 2) = true := by rw [bne_iff_ne]; omega
  clear h1
  have hb0 := Lib.hid ((Below.refl w.heap.size w).alloc (Nat.le_refl _) (.cells #[.int .i64 0, .string ⟨#[]⟩, .int .i64 0, .string ⟨#[]⟩, .int .u8 0, .string ⟨#[]⟩, .int .u8 0] 84))
  have R0 := Lib.hid (show (w.alloc (.cells #[.int .i64 0, .string ⟨#[]⟩, .int .i64 0, .string ⟨#[]⟩, .int .u8 0, .string ⟨#[]⟩, .int .u8 0] 84)).heap[w.heap.size]? = some (.cells #[.int .i64 0, .string ⟨#[]⟩, .int .i64 0, .string ⟨#[]⟩, .int .u8 0, .string ⟨#[]⟩, .int .u8 0] 84 (0, 0)) from heap_alloc_new _ _)
  have C := Lib.hid W
  have KC := Lib.hid (fun w => rkind_t x w hx 7 hk)
  clear W hk
  go_enter Try.func35, Try.ntmps35
  go_wp2_with fail
  refine C.out.mono ?_; rintro e w1 ⟨A, c, hc, rfl, hs1, hb1⟩
  have r0 := (hb1.block _ (show w.heap.size < (w.alloc (.cells #[.int .i64 0, .string ⟨#[]⟩, .int .i64 0, .string ⟨#[]⟩, .int .u8 0, .string ⟨#[]⟩, .int .u8 0] 84)).heap.size by simp)).trans R0.out
  obtain ⟨⟨a0, a1, a2, a3, a4, a5, a6⟩, ⟨f0, f1, f2, f3, f4, f5, f6⟩, hy0⟩ := row7 r0
  have Q0 := Lib.hid r0
  have hbW := Lib.hid (hb0.out.trans (hb1.mono (by simp)))
  clear r0 hb1
  obtain ⟨bk, o, rfl⟩ := strs_addr hs1
  have hbk := (strs_at hs1 0 (by simp)).1
  have hc00 := at_words hs1
  have n0 := World.new_ne _ _ a0
  have n1 := World.new_ne _ _ hc00
  simp only [List.length_cons] at hc
  clear hs1
  go_wp2_with fail
  refine (KC.out _).mono ?_; rintro e w' ⟨rfl, rfl⟩
  go_wp2_with fail
  all_goals
    refine bodyPost_ret ?_ rfl (ParseGives.no P.out rfl ?_)
    · simp [results, Try.results35, go_sem, *]
    · (repeat (first | (with_reducible refine Below.setCell ?_ (by first | exact Nat.le_refl _ | (simp; done) | ((try simp); omega)) _) | (with_reducible refine Below.alloc ?_ (by first | (simp; done) | ((try simp); omega)) _) | with_reducible refine Below.drew ?_)); exact hbW.out
set_option maxHeartbeats 4000000 in
set_option maxRecDepth 100000 in
theorem rp_1_one (s : ByteArray) (x : List UInt8) (d : List UInt8) (hd : d.length ≤ 1000000) (w : World) (W : HasWords s x [d] w) (hk : It.kind x = 1) (hx : x.length ≤ 1000000) :
    Calls Try.prog 35 #[.string s] w (ParseGives (It.parseK 1 [d]) w) := by
  have MO := Lib.hid (fun w => most_t 1 w (by omega) (by omega) 0 1099511627776 rfl rfl)
  have hl : decide (Fig.parseN d 1099511627776 < 0) = false := dec_f (by have := parseN_nn d 1099511627776; omega)
  cases hp : Fig.parseB d 1099511627776
  · have P := Lib.hid (parseK_num_no (k := 1) rfl rfl hp)
    have PC := Lib.hid (fun w => rparse_t d 1099511627776 w hd _ hp)
    clear hd hp
    have hb0 := Lib.hid ((Below.refl w.heap.size w).alloc (Nat.le_refl _) (.cells #[.int .i64 0, .string ⟨#[]⟩, .int .i64 0, .string ⟨#[]⟩, .int .u8 0, .string ⟨#[]⟩, .int .u8 0] 84))
    have R0 := Lib.hid (show (w.alloc (.cells #[.int .i64 0, .string ⟨#[]⟩, .int .i64 0, .string ⟨#[]⟩, .int .u8 0, .string ⟨#[]⟩, .int .u8 0] 84)).heap[w.heap.size]? = some (.cells #[.int .i64 0, .string ⟨#[]⟩, .int .i64 0, .string ⟨#[]⟩, .int .u8 0, .string ⟨#[]⟩, .int .u8 0] 84 (0, 0)) from heap_alloc_new _ _)
    have C := Lib.hid W
    have KC := Lib.hid (fun w => rkind_t x w hx 1 hk)
    clear W hk
    go_enter Try.func35, Try.ntmps35
    go_wp2_with fail
    refine C.out.mono ?_; rintro e w1 ⟨A, c, hc, rfl, hs1, hb1⟩
    have r0 := (hb1.block _ (show w.heap.size < (w.alloc (.cells #[.int .i64 0, .string ⟨#[]⟩, .int .i64 0, .string ⟨#[]⟩, .int .u8 0, .string ⟨#[]⟩, .int .u8 0] 84)).heap.size by simp)).trans R0.out
    obtain ⟨⟨a0, a1, a2, a3, a4, a5, a6⟩, ⟨f0, f1, f2, f3, f4, f5, f6⟩, hy0⟩ := row7 r0
    have Q0 := Lib.hid r0
    have hbW := Lib.hid (hb0.out.trans (hb1.mono (by simp)))
    clear r0 hb1
    obtain ⟨bk, o, rfl⟩ := strs_addr hs1
    have hbk := (strs_at hs1 0 (by simp)).1
    have hc00 := at_words hs1
    have n0 := World.new_ne _ _ a0
    have n1 := World.new_ne _ _ hc00
    simp only [List.length_cons] at hc
    have hc01 := strs_2 hs1
    clear hs1
    go_wp2_with fail
    refine (KC.out _).mono ?_; rintro e w' ⟨rfl, rfl⟩
    go_wp2_with fail
    refine (MO.out _).mono ?_; rintro e w' ⟨rfl, rfl⟩
    go_wp2_with fail
    refine (PC.out _).mono ?_; rintro e w' ⟨rfl, rfl⟩
    go_wp2_with fail
    refine bodyPost_ret ?_ rfl (ParseGives.no P.out rfl ?_)
    · simp [results, Try.results35, go_sem, *]
    · (repeat (first | (with_reducible refine Below.setCell ?_ (by first | exact Nat.le_refl _ | (simp; done) | ((try simp); omega)) _) | (with_reducible refine Below.alloc ?_ (by first | (simp; done) | ((try simp); omega)) _) | with_reducible refine Below.drew ?_)); exact hbW.out
  · have PC := Lib.hid (fun w => rparse_t d 1099511627776 w hd _ hp)
    have P := Lib.hid (parseK_num_yes (k := 1) rfl rfl hp)
    clear hd hp
    have hb0 := Lib.hid ((Below.refl w.heap.size w).alloc (Nat.le_refl _) (.cells #[.int .i64 0, .string ⟨#[]⟩, .int .i64 0, .string ⟨#[]⟩, .int .u8 0, .string ⟨#[]⟩, .int .u8 0] 84))
    have R0 := Lib.hid (show (w.alloc (.cells #[.int .i64 0, .string ⟨#[]⟩, .int .i64 0, .string ⟨#[]⟩, .int .u8 0, .string ⟨#[]⟩, .int .u8 0] 84)).heap[w.heap.size]? = some (.cells #[.int .i64 0, .string ⟨#[]⟩, .int .i64 0, .string ⟨#[]⟩, .int .u8 0, .string ⟨#[]⟩, .int .u8 0] 84 (0, 0)) from heap_alloc_new _ _)
    have C := Lib.hid W
    have KC := Lib.hid (fun w => rkind_t x w hx 1 hk)
    clear W hk
    go_enter Try.func35, Try.ntmps35
    go_wp2_with fail
    refine C.out.mono ?_; rintro e w1 ⟨A, c, hc, rfl, hs1, hb1⟩
    have r0 := (hb1.block _ (show w.heap.size < (w.alloc (.cells #[.int .i64 0, .string ⟨#[]⟩, .int .i64 0, .string ⟨#[]⟩, .int .u8 0, .string ⟨#[]⟩, .int .u8 0] 84)).heap.size by simp)).trans R0.out
    obtain ⟨⟨a0, a1, a2, a3, a4, a5, a6⟩, ⟨f0, f1, f2, f3, f4, f5, f6⟩, hy0⟩ := row7 r0
    have Q0 := Lib.hid r0
    have hbW := Lib.hid (hb0.out.trans (hb1.mono (by simp)))
    clear r0 hb1
    obtain ⟨bk, o, rfl⟩ := strs_addr hs1
    have hbk := (strs_at hs1 0 (by simp)).1
    have hc00 := at_words hs1
    have n0 := World.new_ne _ _ a0
    have n1 := World.new_ne _ _ hc00
    simp only [List.length_cons] at hc
    have hc01 := strs_2 hs1
    clear hs1
    go_wp2_with fail
    refine (KC.out _).mono ?_; rintro e w' ⟨rfl, rfl⟩
    go_wp2_with fail
    refine (MO.out _).mono ?_; rintro e w' ⟨rfl, rfl⟩
    go_wp2_with fail
    refine (PC.out _).mono ?_; rintro e w' ⟨rfl, rfl⟩
    go_wp2_with fail
    refine bodyPost_ret ?_ rfl (ParseGives.yes P.out rfl ?_)
    · simp [results, Try.results35, go_sem, *] <;> (repeat' (first | exact rfl | apply And.intro))
    · (repeat (first | (with_reducible refine Below.setCell ?_ (by first | exact Nat.le_refl _ | (simp; done) | ((try simp); omega)) _) | (with_reducible refine Below.alloc ?_ (by first | (simp; done) | ((try simp); omega)) _) | with_reducible refine Below.drew ?_)); exact hbW.out
set_option maxHeartbeats 4000000 in
set_option maxRecDepth 100000 in
theorem rp_2_one (s : ByteArray) (x : List UInt8) (d : List UInt8) (hd : d.length ≤ 1000000) (w : World) (W : HasWords s x [d] w) (hk : It.kind x = 2) (hx : x.length ≤ 1000000) :
    Calls Try.prog 35 #[.string s] w (ParseGives (It.parseK 2 [d]) w) := by
  have MO := Lib.hid (fun w => most_t 2 w (by omega) (by omega) 0 1099511627776 rfl rfl)
  have hl : decide (Fig.parseN d 1099511627776 < 0) = false := dec_f (by have := parseN_nn d 1099511627776; omega)
  cases hp : Fig.parseB d 1099511627776
  · have P := Lib.hid (parseK_num_no (k := 2) rfl rfl hp)
    have PC := Lib.hid (fun w => rparse_t d 1099511627776 w hd _ hp)
    clear hd hp
    have hb0 := Lib.hid ((Below.refl w.heap.size w).alloc (Nat.le_refl _) (.cells #[.int .i64 0, .string ⟨#[]⟩, .int .i64 0, .string ⟨#[]⟩, .int .u8 0, .string ⟨#[]⟩, .int .u8 0] 84))
    have R0 := Lib.hid (show (w.alloc (.cells #[.int .i64 0, .string ⟨#[]⟩, .int .i64 0, .string ⟨#[]⟩, .int .u8 0, .string ⟨#[]⟩, .int .u8 0] 84)).heap[w.heap.size]? = some (.cells #[.int .i64 0, .string ⟨#[]⟩, .int .i64 0, .string ⟨#[]⟩, .int .u8 0, .string ⟨#[]⟩, .int .u8 0] 84 (0, 0)) from heap_alloc_new _ _)
    have C := Lib.hid W
    have KC := Lib.hid (fun w => rkind_t x w hx 2 hk)
    clear W hk
    go_enter Try.func35, Try.ntmps35
    go_wp2_with fail
    refine C.out.mono ?_; rintro e w1 ⟨A, c, hc, rfl, hs1, hb1⟩
    have r0 := (hb1.block _ (show w.heap.size < (w.alloc (.cells #[.int .i64 0, .string ⟨#[]⟩, .int .i64 0, .string ⟨#[]⟩, .int .u8 0, .string ⟨#[]⟩, .int .u8 0] 84)).heap.size by simp)).trans R0.out
    obtain ⟨⟨a0, a1, a2, a3, a4, a5, a6⟩, ⟨f0, f1, f2, f3, f4, f5, f6⟩, hy0⟩ := row7 r0
    have Q0 := Lib.hid r0
    have hbW := Lib.hid (hb0.out.trans (hb1.mono (by simp)))
    clear r0 hb1
    obtain ⟨bk, o, rfl⟩ := strs_addr hs1
    have hbk := (strs_at hs1 0 (by simp)).1
    have hc00 := at_words hs1
    have n0 := World.new_ne _ _ a0
    have n1 := World.new_ne _ _ hc00
    simp only [List.length_cons] at hc
    have hc01 := strs_2 hs1
    clear hs1
    go_wp2_with fail
    refine (KC.out _).mono ?_; rintro e w' ⟨rfl, rfl⟩
    go_wp2_with fail
    refine (MO.out _).mono ?_; rintro e w' ⟨rfl, rfl⟩
    go_wp2_with fail
    refine (PC.out _).mono ?_; rintro e w' ⟨rfl, rfl⟩
    go_wp2_with fail
    refine bodyPost_ret ?_ rfl (ParseGives.no P.out rfl ?_)
    · simp [results, Try.results35, go_sem, *]
    · (repeat (first | (with_reducible refine Below.setCell ?_ (by first | exact Nat.le_refl _ | (simp; done) | ((try simp); omega)) _) | (with_reducible refine Below.alloc ?_ (by first | (simp; done) | ((try simp); omega)) _) | with_reducible refine Below.drew ?_)); exact hbW.out
  · have PC := Lib.hid (fun w => rparse_t d 1099511627776 w hd _ hp)
    have P := Lib.hid (parseK_num_yes (k := 2) rfl rfl hp)
    clear hd hp
    have hb0 := Lib.hid ((Below.refl w.heap.size w).alloc (Nat.le_refl _) (.cells #[.int .i64 0, .string ⟨#[]⟩, .int .i64 0, .string ⟨#[]⟩, .int .u8 0, .string ⟨#[]⟩, .int .u8 0] 84))
    have R0 := Lib.hid (show (w.alloc (.cells #[.int .i64 0, .string ⟨#[]⟩, .int .i64 0, .string ⟨#[]⟩, .int .u8 0, .string ⟨#[]⟩, .int .u8 0] 84)).heap[w.heap.size]? = some (.cells #[.int .i64 0, .string ⟨#[]⟩, .int .i64 0, .string ⟨#[]⟩, .int .u8 0, .string ⟨#[]⟩, .int .u8 0] 84 (0, 0)) from heap_alloc_new _ _)
    have C := Lib.hid W
    have KC := Lib.hid (fun w => rkind_t x w hx 2 hk)
    clear W hk
    go_enter Try.func35, Try.ntmps35
    go_wp2_with fail
    refine C.out.mono ?_; rintro e w1 ⟨A, c, hc, rfl, hs1, hb1⟩
    have r0 := (hb1.block _ (show w.heap.size < (w.alloc (.cells #[.int .i64 0, .string ⟨#[]⟩, .int .i64 0, .string ⟨#[]⟩, .int .u8 0, .string ⟨#[]⟩, .int .u8 0] 84)).heap.size by simp)).trans R0.out
    obtain ⟨⟨a0, a1, a2, a3, a4, a5, a6⟩, ⟨f0, f1, f2, f3, f4, f5, f6⟩, hy0⟩ := row7 r0
    have Q0 := Lib.hid r0
    have hbW := Lib.hid (hb0.out.trans (hb1.mono (by simp)))
    clear r0 hb1
    obtain ⟨bk, o, rfl⟩ := strs_addr hs1
    have hbk := (strs_at hs1 0 (by simp)).1
    have hc00 := at_words hs1
    have n0 := World.new_ne _ _ a0
    have n1 := World.new_ne _ _ hc00
    simp only [List.length_cons] at hc
    have hc01 := strs_2 hs1
    clear hs1
    go_wp2_with fail
    refine (KC.out _).mono ?_; rintro e w' ⟨rfl, rfl⟩
    go_wp2_with fail
    refine (MO.out _).mono ?_; rintro e w' ⟨rfl, rfl⟩
    go_wp2_with fail
    refine (PC.out _).mono ?_; rintro e w' ⟨rfl, rfl⟩
    go_wp2_with fail
    refine bodyPost_ret ?_ rfl (ParseGives.yes P.out rfl ?_)
    · simp [results, Try.results35, go_sem, *] <;> (repeat' (first | exact rfl | apply And.intro))
    · (repeat (first | (with_reducible refine Below.setCell ?_ (by first | exact Nat.le_refl _ | (simp; done) | ((try simp); omega)) _) | (with_reducible refine Below.alloc ?_ (by first | (simp; done) | ((try simp); omega)) _) | with_reducible refine Below.drew ?_)); exact hbW.out
set_option maxHeartbeats 4000000 in
set_option maxRecDepth 100000 in
theorem rp_3_one (s : ByteArray) (x : List UInt8) (d : List UInt8) (hd : d.length ≤ 1000000) (w : World) (W : HasWords s x [d] w) (hk : It.kind x = 3) (hx : x.length ≤ 1000000) :
    Calls Try.prog 35 #[.string s] w (ParseGives (It.parseK 3 [d]) w) := by
  have MO := Lib.hid (fun w => most_t 3 w (by omega) (by omega) 0 1000 rfl rfl)
  have hl : decide (Fig.parseN d 1000 < 0) = false := dec_f (by have := parseN_nn d 1000; omega)
  cases hp : Fig.parseB d 1000
  · have P := Lib.hid (parseK_num_no (k := 3) rfl rfl hp)
    have PC := Lib.hid (fun w => rparse_t d 1000 w hd _ hp)
    clear hd hp
    have hb0 := Lib.hid ((Below.refl w.heap.size w).alloc (Nat.le_refl _) (.cells #[.int .i64 0, .string ⟨#[]⟩, .int .i64 0, .string ⟨#[]⟩, .int .u8 0, .string ⟨#[]⟩, .int .u8 0] 84))
    have R0 := Lib.hid (show (w.alloc (.cells #[.int .i64 0, .string ⟨#[]⟩, .int .i64 0, .string ⟨#[]⟩, .int .u8 0, .string ⟨#[]⟩, .int .u8 0] 84)).heap[w.heap.size]? = some (.cells #[.int .i64 0, .string ⟨#[]⟩, .int .i64 0, .string ⟨#[]⟩, .int .u8 0, .string ⟨#[]⟩, .int .u8 0] 84 (0, 0)) from heap_alloc_new _ _)
    have C := Lib.hid W
    have KC := Lib.hid (fun w => rkind_t x w hx 3 hk)
    clear W hk
    go_enter Try.func35, Try.ntmps35
    go_wp2_with fail
    refine C.out.mono ?_; rintro e w1 ⟨A, c, hc, rfl, hs1, hb1⟩
    have r0 := (hb1.block _ (show w.heap.size < (w.alloc (.cells #[.int .i64 0, .string ⟨#[]⟩, .int .i64 0, .string ⟨#[]⟩, .int .u8 0, .string ⟨#[]⟩, .int .u8 0] 84)).heap.size by simp)).trans R0.out
    obtain ⟨⟨a0, a1, a2, a3, a4, a5, a6⟩, ⟨f0, f1, f2, f3, f4, f5, f6⟩, hy0⟩ := row7 r0
    have Q0 := Lib.hid r0
    have hbW := Lib.hid (hb0.out.trans (hb1.mono (by simp)))
    clear r0 hb1
    obtain ⟨bk, o, rfl⟩ := strs_addr hs1
    have hbk := (strs_at hs1 0 (by simp)).1
    have hc00 := at_words hs1
    have n0 := World.new_ne _ _ a0
    have n1 := World.new_ne _ _ hc00
    simp only [List.length_cons] at hc
    have hc01 := strs_2 hs1
    clear hs1
    go_wp2_with fail
    refine (KC.out _).mono ?_; rintro e w' ⟨rfl, rfl⟩
    go_wp2_with fail
    refine (MO.out _).mono ?_; rintro e w' ⟨rfl, rfl⟩
    go_wp2_with fail
    refine (PC.out _).mono ?_; rintro e w' ⟨rfl, rfl⟩
    go_wp2_with fail
    refine bodyPost_ret ?_ rfl (ParseGives.no P.out rfl ?_)
    · simp [results, Try.results35, go_sem, *]
    · (repeat (first | (with_reducible refine Below.setCell ?_ (by first | exact Nat.le_refl _ | (simp; done) | ((try simp); omega)) _) | (with_reducible refine Below.alloc ?_ (by first | (simp; done) | ((try simp); omega)) _) | with_reducible refine Below.drew ?_)); exact hbW.out
  · have PC := Lib.hid (fun w => rparse_t d 1000 w hd _ hp)
    have P := Lib.hid (parseK_num_yes (k := 3) rfl rfl hp)
    clear hd hp
    have hb0 := Lib.hid ((Below.refl w.heap.size w).alloc (Nat.le_refl _) (.cells #[.int .i64 0, .string ⟨#[]⟩, .int .i64 0, .string ⟨#[]⟩, .int .u8 0, .string ⟨#[]⟩, .int .u8 0] 84))
    have R0 := Lib.hid (show (w.alloc (.cells #[.int .i64 0, .string ⟨#[]⟩, .int .i64 0, .string ⟨#[]⟩, .int .u8 0, .string ⟨#[]⟩, .int .u8 0] 84)).heap[w.heap.size]? = some (.cells #[.int .i64 0, .string ⟨#[]⟩, .int .i64 0, .string ⟨#[]⟩, .int .u8 0, .string ⟨#[]⟩, .int .u8 0] 84 (0, 0)) from heap_alloc_new _ _)
    have C := Lib.hid W
    have KC := Lib.hid (fun w => rkind_t x w hx 3 hk)
    clear W hk
    go_enter Try.func35, Try.ntmps35
    go_wp2_with fail
    refine C.out.mono ?_; rintro e w1 ⟨A, c, hc, rfl, hs1, hb1⟩
    have r0 := (hb1.block _ (show w.heap.size < (w.alloc (.cells #[.int .i64 0, .string ⟨#[]⟩, .int .i64 0, .string ⟨#[]⟩, .int .u8 0, .string ⟨#[]⟩, .int .u8 0] 84)).heap.size by simp)).trans R0.out
    obtain ⟨⟨a0, a1, a2, a3, a4, a5, a6⟩, ⟨f0, f1, f2, f3, f4, f5, f6⟩, hy0⟩ := row7 r0
    have Q0 := Lib.hid r0
    have hbW := Lib.hid (hb0.out.trans (hb1.mono (by simp)))
    clear r0 hb1
    obtain ⟨bk, o, rfl⟩ := strs_addr hs1
    have hbk := (strs_at hs1 0 (by simp)).1
    have hc00 := at_words hs1
    have n0 := World.new_ne _ _ a0
    have n1 := World.new_ne _ _ hc00
    simp only [List.length_cons] at hc
    have hc01 := strs_2 hs1
    clear hs1
    go_wp2_with fail
    refine (KC.out _).mono ?_; rintro e w' ⟨rfl, rfl⟩
    go_wp2_with fail
    refine (MO.out _).mono ?_; rintro e w' ⟨rfl, rfl⟩
    go_wp2_with fail
    refine (PC.out _).mono ?_; rintro e w' ⟨rfl, rfl⟩
    go_wp2_with fail
    refine bodyPost_ret ?_ rfl (ParseGives.yes P.out rfl ?_)
    · simp [results, Try.results35, go_sem, *] <;> (repeat' (first | exact rfl | apply And.intro))
    · (repeat (first | (with_reducible refine Below.setCell ?_ (by first | exact Nat.le_refl _ | (simp; done) | ((try simp); omega)) _) | (with_reducible refine Below.alloc ?_ (by first | (simp; done) | ((try simp); omega)) _) | with_reducible refine Below.drew ?_)); exact hbW.out
set_option maxHeartbeats 4000000 in
set_option maxRecDepth 100000 in
theorem rp_4_one (s : ByteArray) (x : List UInt8) (d : List UInt8) (hd : d.length ≤ 1000000) (w : World) (W : HasWords s x [d] w) (hk : It.kind x = 4) (hx : x.length ≤ 1000000) :
    Calls Try.prog 35 #[.string s] w (ParseGives (It.parseK 4 [d]) w) := by
  have MO := Lib.hid (fun w => most_t 4 w (by omega) (by omega) 0 1000 rfl rfl)
  have hl : decide (Fig.parseN d 1000 < 0) = false := dec_f (by have := parseN_nn d 1000; omega)
  cases hp : Fig.parseB d 1000
  · have P := Lib.hid (parseK_num_no (k := 4) rfl rfl hp)
    have PC := Lib.hid (fun w => rparse_t d 1000 w hd _ hp)
    clear hd hp
    have hb0 := Lib.hid ((Below.refl w.heap.size w).alloc (Nat.le_refl _) (.cells #[.int .i64 0, .string ⟨#[]⟩, .int .i64 0, .string ⟨#[]⟩, .int .u8 0, .string ⟨#[]⟩, .int .u8 0] 84))
    have R0 := Lib.hid (show (w.alloc (.cells #[.int .i64 0, .string ⟨#[]⟩, .int .i64 0, .string ⟨#[]⟩, .int .u8 0, .string ⟨#[]⟩, .int .u8 0] 84)).heap[w.heap.size]? = some (.cells #[.int .i64 0, .string ⟨#[]⟩, .int .i64 0, .string ⟨#[]⟩, .int .u8 0, .string ⟨#[]⟩, .int .u8 0] 84 (0, 0)) from heap_alloc_new _ _)
    have C := Lib.hid W
    have KC := Lib.hid (fun w => rkind_t x w hx 4 hk)
    clear W hk
    go_enter Try.func35, Try.ntmps35
    go_wp2_with fail
    refine C.out.mono ?_; rintro e w1 ⟨A, c, hc, rfl, hs1, hb1⟩
    have r0 := (hb1.block _ (show w.heap.size < (w.alloc (.cells #[.int .i64 0, .string ⟨#[]⟩, .int .i64 0, .string ⟨#[]⟩, .int .u8 0, .string ⟨#[]⟩, .int .u8 0] 84)).heap.size by simp)).trans R0.out
    obtain ⟨⟨a0, a1, a2, a3, a4, a5, a6⟩, ⟨f0, f1, f2, f3, f4, f5, f6⟩, hy0⟩ := row7 r0
    have Q0 := Lib.hid r0
    have hbW := Lib.hid (hb0.out.trans (hb1.mono (by simp)))
    clear r0 hb1
    obtain ⟨bk, o, rfl⟩ := strs_addr hs1
    have hbk := (strs_at hs1 0 (by simp)).1
    have hc00 := at_words hs1
    have n0 := World.new_ne _ _ a0
    have n1 := World.new_ne _ _ hc00
    simp only [List.length_cons] at hc
    have hc01 := strs_2 hs1
    clear hs1
    go_wp2_with fail
    refine (KC.out _).mono ?_; rintro e w' ⟨rfl, rfl⟩
    go_wp2_with fail
    refine (MO.out _).mono ?_; rintro e w' ⟨rfl, rfl⟩
    go_wp2_with fail
    refine (PC.out _).mono ?_; rintro e w' ⟨rfl, rfl⟩
    go_wp2_with fail
    refine bodyPost_ret ?_ rfl (ParseGives.no P.out rfl ?_)
    · simp [results, Try.results35, go_sem, *]
    · (repeat (first | (with_reducible refine Below.setCell ?_ (by first | exact Nat.le_refl _ | (simp; done) | ((try simp); omega)) _) | (with_reducible refine Below.alloc ?_ (by first | (simp; done) | ((try simp); omega)) _) | with_reducible refine Below.drew ?_)); exact hbW.out
  · have PC := Lib.hid (fun w => rparse_t d 1000 w hd _ hp)
    have P := Lib.hid (parseK_num_yes (k := 4) rfl rfl hp)
    clear hd hp
    have hb0 := Lib.hid ((Below.refl w.heap.size w).alloc (Nat.le_refl _) (.cells #[.int .i64 0, .string ⟨#[]⟩, .int .i64 0, .string ⟨#[]⟩, .int .u8 0, .string ⟨#[]⟩, .int .u8 0] 84))
    have R0 := Lib.hid (show (w.alloc (.cells #[.int .i64 0, .string ⟨#[]⟩, .int .i64 0, .string ⟨#[]⟩, .int .u8 0, .string ⟨#[]⟩, .int .u8 0] 84)).heap[w.heap.size]? = some (.cells #[.int .i64 0, .string ⟨#[]⟩, .int .i64 0, .string ⟨#[]⟩, .int .u8 0, .string ⟨#[]⟩, .int .u8 0] 84 (0, 0)) from heap_alloc_new _ _)
    have C := Lib.hid W
    have KC := Lib.hid (fun w => rkind_t x w hx 4 hk)
    clear W hk
    go_enter Try.func35, Try.ntmps35
    go_wp2_with fail
    refine C.out.mono ?_; rintro e w1 ⟨A, c, hc, rfl, hs1, hb1⟩
    have r0 := (hb1.block _ (show w.heap.size < (w.alloc (.cells #[.int .i64 0, .string ⟨#[]⟩, .int .i64 0, .string ⟨#[]⟩, .int .u8 0, .string ⟨#[]⟩, .int .u8 0] 84)).heap.size by simp)).trans R0.out
    obtain ⟨⟨a0, a1, a2, a3, a4, a5, a6⟩, ⟨f0, f1, f2, f3, f4, f5, f6⟩, hy0⟩ := row7 r0
    have Q0 := Lib.hid r0
    have hbW := Lib.hid (hb0.out.trans (hb1.mono (by simp)))
    clear r0 hb1
    obtain ⟨bk, o, rfl⟩ := strs_addr hs1
    have hbk := (strs_at hs1 0 (by simp)).1
    have hc00 := at_words hs1
    have n0 := World.new_ne _ _ a0
    have n1 := World.new_ne _ _ hc00
    simp only [List.length_cons] at hc
    have hc01 := strs_2 hs1
    clear hs1
    go_wp2_with fail
    refine (KC.out _).mono ?_; rintro e w' ⟨rfl, rfl⟩
    go_wp2_with fail
    refine (MO.out _).mono ?_; rintro e w' ⟨rfl, rfl⟩
    go_wp2_with fail
    refine (PC.out _).mono ?_; rintro e w' ⟨rfl, rfl⟩
    go_wp2_with fail
    refine bodyPost_ret ?_ rfl (ParseGives.yes P.out rfl ?_)
    · simp [results, Try.results35, go_sem, *] <;> (repeat' (first | exact rfl | apply And.intro))
    · (repeat (first | (with_reducible refine Below.setCell ?_ (by first | exact Nat.le_refl _ | (simp; done) | ((try simp); omega)) _) | (with_reducible refine Below.alloc ?_ (by first | (simp; done) | ((try simp); omega)) _) | with_reducible refine Below.drew ?_)); exact hbW.out
end Go.Proofs.Ytbmmcmdopekccaa
/-
  The walk of the document's answer to layer 3's Parse: ends' lines; and of whatever line.
-/
namespace Go.Proofs.Ytbmmcmdopekccaa
open Go.RowKit

theorem rtip_t (x : List UInt8) (w : World) (hs : x.length ≤ 1000000) (h : It.tipOk x = true) :
    Calls Try.prog 55 #[.string (txt x)] w fun e w' => e = .returned (.tuple #[.agg #[.string (txt (It.tip x).n), .int .u8 (It.tip x).c.toNat], .bool true]) ∧ Below w.heap.size w w' := by
  have := rtip_any (txt x) w (by rw [txt_size]; unfold maxLen; omega)
  rwa [txt_toList, h] at this
theorem rtip_f (x : List UInt8) (w : World) (hs : x.length ≤ 1000000) (h : It.tipOk x = false) :
    Calls Try.prog 55 #[.string (txt x)] w fun e w' => e = .returned (.tuple #[.agg #[.string ⟨#[]⟩, .int .u8 0], .bool false]) ∧ Below w.heap.size w w' := by
  have := rtip_any (txt x) w (by rw [txt_size]; unfold maxLen; omega)
  rw [txt_toList, h, tip_no h] at this
  exact this
/-- How far the loop over a line's ends has come: the item's block, all else as it was. -/
def EndsRel (T : List (List UInt8)) (k : Int) (nm : List UInt8) (w1 : World) (i : Value) (wr : World) : Prop :=
  ∃ (j : Nat) (e0 e1 : It.Tp), j ≤ T.length ∧ i = .int .i64 j ∧ TipsTo T j e0 e1 ∧
    wr.heap[w1.heap.size]? = some (.cells #[.int .i64 k, .string (txt nm), .int .i64 0, .string (txt e0.n), .int .u8 e0.c.toNat, .string (txt e1.n), .int .u8 e1.c.toNat] 84 (0, 0)) ∧ Below w1.heap.size w1 wr
theorem TipsTo.none {T : List (List UInt8)} : TipsTo T 0 It.Tp.zero It.Tp.zero := ⟨by simp, fun h => absurd h (by omega), fun h => absurd h (by omega), fun _ => rfl⟩
theorem parseK_7_yes {a b : List UInt8} {e0 e1 : It.Tp} (h : TipsTo [a, b] 2 e0 e1) : It.parseK 7 [a, b] = some ⟨7, [], 0, e0, e1⟩ := by
  have h1 : (It.tipOk a && It.tipOk b) = true := by simpa using h.1
  obtain rfl := h.2.1 (by omega)
  obtain rfl := h.2.2.1 (by omega)
  show (if (It.tipOk a && It.tipOk b) = true then _ else _) = _
  rw [if_pos h1]; rfl
theorem parseK_8_yes {a : List UInt8} {e0 e1 : It.Tp} (h : TipsTo [a] 1 e0 e1) : It.parseK 8 [a] = some ⟨8, [], 0, e0, e1⟩ := by
  have h1 : It.tipOk a = true := by simpa using h.1
  obtain rfl := h.2.1 (by omega)
  obtain rfl := h.2.2.2 (by omega)
  show (if It.tipOk a = true then _ else _) = _
  rw [if_pos h1]; rfl
theorem parseK_9_yes {m a : List UInt8} {e0 e1 : It.Tp} (hm : Fig.nameB m = true) (h : TipsTo [a] 1 e0 e1) : It.parseK 9 [m, a] = some ⟨9, m, 0, e0, e1⟩ := by
  have h1 : It.tipOk a = true := by simpa using h.1
  obtain rfl := h.2.1 (by omega)
  obtain rfl := h.2.2.2 (by omega)
  show (if (Fig.nameB m && It.tipOk a) = true then _ else _) = _
  rw [hm, h1]; rfl
theorem parseK_7_no {a b : List UInt8} (h : It.tipOk a = false ∨ It.tipOk b = false) : It.parseK 7 [a, b] = none := by
  show (if (It.tipOk a && It.tipOk b) = true then _ else _) = _
  rw [if_neg (by rcases h with h | h <;> simp [h])]
theorem parseK_8_no {a : List UInt8} (h : It.tipOk a = false) : It.parseK 8 [a] = none := by
  show (if It.tipOk a = true then _ else _) = _
  rw [h]; rfl
theorem parseK_9_no {m a : List UInt8} (h : It.tipOk a = false) : It.parseK 9 [m, a] = none := by
  show (if (Fig.nameB m && It.tipOk a) = true then _ else _) = _
  rw [h]; simp
theorem tipsTo_0' {T : List (List UInt8)} {a : List UInt8} {e0 e1 : It.Tp} (h : T[0]? = some a) (ho : It.tipOk a = true) (t : TipsTo T 0 e0 e1) : TipsTo T (0 + 1) (It.tip a) e1 := by
  obtain ⟨hl, rfl⟩ := List.getElem?_eq_some_iff.1 h
  exact tipsTo_0 hl ho t
theorem tipsTo_1' {T : List (List UInt8)} {a : List UInt8} {e0 e1 : It.Tp} (h : T[1]? = some a) (ho : It.tipOk a = true) (t : TipsTo T 1 e0 e1) : TipsTo T (1 + 1) e0 (It.tip a) := by
  obtain ⟨hl, rfl⟩ := List.getElem?_eq_some_iff.1 h
  exact tipsTo_1 hl ho t
set_option maxHeartbeats 4000000 in
set_option maxRecDepth 100000 in
theorem rp_7_one (s : ByteArray) (x : List UInt8) (a b : List UInt8) (ha : a.length ≤ 1000000) (hb : b.length ≤ 1000000) (w : World) (W : HasWords s x [a, b] w) (hk : It.kind x = 7) (hx : x.length ≤ 1000000) :
    Calls Try.prog 35 #[.string s] w (ParseGives (It.parseK 7 [a, b]) w) := by
  have hb0 := Lib.hid ((Below.refl w.heap.size w).alloc (Nat.le_refl _) (.cells #[.int .i64 0, .string ⟨#[]⟩, .int .i64 0, .string ⟨#[]⟩, .int .u8 0, .string ⟨#[]⟩, .int .u8 0] 84))
  have R0 := Lib.hid (show (w.alloc (.cells #[.int .i64 0, .string ⟨#[]⟩, .int .i64 0, .string ⟨#[]⟩, .int .u8 0, .string ⟨#[]⟩, .int .u8 0] 84)).heap[w.heap.size]? = some (.cells #[.int .i64 0, .string ⟨#[]⟩, .int .i64 0, .string ⟨#[]⟩, .int .u8 0, .string ⟨#[]⟩, .int .u8 0] 84 (0, 0)) from heap_alloc_new _ _)
  have C := Lib.hid W
  have KC := Lib.hid (fun w => rkind_t x w hx 7 hk)
  clear W hk
  go_enter Try.func35, Try.ntmps35
  go_wp2_with fail
  refine C.out.mono ?_; rintro e w1 ⟨A, c, hc, rfl, hs1, hb1⟩
  have r0 := (hb1.block _ (show w.heap.size < (w.alloc (.cells #[.int .i64 0, .string ⟨#[]⟩, .int .i64 0, .string ⟨#[]⟩, .int .u8 0, .string ⟨#[]⟩, .int .u8 0] 84)).heap.size by simp)).trans R0.out
  obtain ⟨⟨a0, a1, a2, a3, a4, a5, a6⟩, ⟨f0, f1, f2, f3, f4, f5, f6⟩, hy0⟩ := row7 r0
  have Q0 := Lib.hid r0
  have hbW := Lib.hid (hb0.out.trans (hb1.mono (by simp)))
  clear r0 hb1
  obtain ⟨bk, o, rfl⟩ := strs_addr hs1
  have hbk := (strs_at hs1 0 (by simp)).1
  have hc00 := at_words hs1
  have n0 := World.new_ne _ _ a0
  have n1 := World.new_ne _ _ hc00
  simp only [List.length_cons] at hc
  have hc01 := strs_2 hs1
  have hc02 := strs_3 hs1
  clear hs1
  go_wp2_with fail
  refine (KC.out _).mono ?_; rintro e w' ⟨rfl, rfl⟩
  go_wp2_with fail
  have HC0 := Lib.hid hc01
  have HC1 := Lib.hid hc02
  clear hc01 hc02 hc00 n1 a0 a1 a2 a3 a4 a5 a6 f0 f1 f2 f3 f4 f5 f6 n0
  go_loopw [13] (fun i wr => EndsRel [a, b] 7 [] w1 i wr) (fun i _ => 2 - (intOf i).toNat)
  case atStart =>
    refine ⟨0, It.Tp.zero, It.Tp.zero, Nat.zero_le _, rfl, TipsTo.none, ?_, ?_⟩
    · exact heap_alloc_new _ _
    · exact (Below.refl _ _).alloc (Nat.le_refl _) _
  case round =>
    obtain ⟨j, e0, e1, hj, rfl, hto, hr1, hbel⟩ := hrel
    have hz1 := (row7 hr1).2.2
    have TO := Lib.hid hto
    have R1 := Lib.hid hr1
    clear hto hr1
    simp only [List.length_cons, List.length_nil] at hj
    by_cases hlt : j < 2
    · have hj01 : j = 0 ∨ j = 1 := by omega
      rcases hj01 with rfl | rfl
      · have hca : wr.cell? ⟨bk, o + 1, none⟩ = some (.string (txt a)) := (hbel.cell (p := ⟨bk, o + 1, none⟩) hbk).trans HC0.out
        cases hok : It.tipOk a
        · have TF := Lib.hid (fun w => rtip_f a w ha hok)
          have P := Lib.hid (parseK_7_no (a := a) (b := b) (by first | exact Or.inl hok | exact Or.inr hok))
          clear hok
          go_wp2_with fail
          refine (TF.out _).mono ?_; rintro e w2 ⟨rfl, hb1⟩
          have hz2 := hb1.size
          have r1 := (hb1.block _ hz1).trans R1.out
          obtain ⟨⟨b0, b1, b2, b3, b4, b5, b6⟩, ⟨g0, g1, g2, g3, g4, g5, g6⟩, hy1⟩ := row7 r1
          have hbT := Lib.hid (hbel.trans (hb1.mono hbel.size))
          have r0 := (hbT.out.block _ hy0).trans Q0.out
          obtain ⟨⟨a0, a1, a2, a3, a4, a5, a6⟩, ⟨f0, f1, f2, f3, f4, f5, f6⟩, hy2⟩ := row7 r0
          have n2 := World.new_ne _ _ b0
          have n3 := World.new_ne _ _ a0
          have U1 := Lib.hid r1
          have hbX := Lib.hid (hbW.out.trans (hbT.out.mono hbW.out.size))
          clear r1 r0 hb1 hca
          go_wp2_with fail
          refine bodyPost_ret ?_ rfl (ParseGives.no P.out rfl ?_)
          · simp [results, Try.results35, go_sem, *]
          · (repeat (first | (with_reducible refine Below.setCell ?_ (by first | exact Nat.le_refl _ | (simp; done) | ((try simp); omega)) _) | (with_reducible refine Below.alloc ?_ (by first | (simp; done) | ((try simp); omega)) _) | with_reducible refine Below.drew ?_)); exact hbX.out
        · have TT := Lib.hid (fun w => rtip_t a w ha hok)
          have HOK := Lib.hid hok
          clear hok
          go_wp2_with fail
          refine (TT.out _).mono ?_; rintro e w2 ⟨rfl, hb1⟩
          have hz2 := hb1.size
          have r1 := (hb1.block _ hz1).trans R1.out
          obtain ⟨⟨b0, b1, b2, b3, b4, b5, b6⟩, ⟨g0, g1, g2, g3, g4, g5, g6⟩, hy1⟩ := row7 r1
          have hbT := Lib.hid (hbel.trans (hb1.mono hbel.size))
          have r0 := (hbT.out.block _ hy0).trans Q0.out
          obtain ⟨⟨a0, a1, a2, a3, a4, a5, a6⟩, ⟨f0, f1, f2, f3, f4, f5, f6⟩, hy2⟩ := row7 r0
          have n2 := World.new_ne _ _ b0
          have n3 := World.new_ne _ _ a0
          have U1 := Lib.hid r1
          have hbX := Lib.hid (hbW.out.trans (hbT.out.mono hbW.out.size))
          clear r1 r0 hb1 hca
          go_wp2_with fail
          go_roundw
          case rel =>
            refine ⟨0 + 1, (It.tip a), e1, by simp, by go_num, tipsTo_0' rfl HOK.out TO.out, ?_, ?_⟩
            · exact (row_alloc (by simp; omega) _).trans (heap_setCell_same _ _ _ _ _ _ (heap_setCell_same _ _ _ _ _ _ U1.out))
            · exact ((hbT.out.setCell (Nat.le_refl _) _).setCell (Nat.le_refl _) _).alloc (by simp; omega) _
          case measure => simp [intOf]
      · have hca : wr.cell? ⟨bk, o + 2, none⟩ = some (.string (txt b)) := (hbel.cell (p := ⟨bk, o + 2, none⟩) hbk).trans HC1.out
        cases hok : It.tipOk b
        · have TF := Lib.hid (fun w => rtip_f b w hb hok)
          have P := Lib.hid (parseK_7_no (a := a) (b := b) (by first | exact Or.inl hok | exact Or.inr hok))
          clear hok
          go_wp2_with fail
          refine (TF.out _).mono ?_; rintro e w2 ⟨rfl, hb1⟩
          have hz2 := hb1.size
          have r1 := (hb1.block _ hz1).trans R1.out
          obtain ⟨⟨b0, b1, b2, b3, b4, b5, b6⟩, ⟨g0, g1, g2, g3, g4, g5, g6⟩, hy1⟩ := row7 r1
          have hbT := Lib.hid (hbel.trans (hb1.mono hbel.size))
          have r0 := (hbT.out.block _ hy0).trans Q0.out
          obtain ⟨⟨a0, a1, a2, a3, a4, a5, a6⟩, ⟨f0, f1, f2, f3, f4, f5, f6⟩, hy2⟩ := row7 r0
          have n2 := World.new_ne _ _ b0
          have n3 := World.new_ne _ _ a0
          have U1 := Lib.hid r1
          have hbX := Lib.hid (hbW.out.trans (hbT.out.mono hbW.out.size))
          clear r1 r0 hb1 hca
          go_wp2_with fail
          refine bodyPost_ret ?_ rfl (ParseGives.no P.out rfl ?_)
          · simp [results, Try.results35, go_sem, *]
          · (repeat (first | (with_reducible refine Below.setCell ?_ (by first | exact Nat.le_refl _ | (simp; done) | ((try simp); omega)) _) | (with_reducible refine Below.alloc ?_ (by first | (simp; done) | ((try simp); omega)) _) | with_reducible refine Below.drew ?_)); exact hbX.out
        · have TT := Lib.hid (fun w => rtip_t b w hb hok)
          have HOK := Lib.hid hok
          clear hok
          go_wp2_with fail
          refine (TT.out _).mono ?_; rintro e w2 ⟨rfl, hb1⟩
          have hz2 := hb1.size
          have r1 := (hb1.block _ hz1).trans R1.out
          obtain ⟨⟨b0, b1, b2, b3, b4, b5, b6⟩, ⟨g0, g1, g2, g3, g4, g5, g6⟩, hy1⟩ := row7 r1
          have hbT := Lib.hid (hbel.trans (hb1.mono hbel.size))
          have r0 := (hbT.out.block _ hy0).trans Q0.out
          obtain ⟨⟨a0, a1, a2, a3, a4, a5, a6⟩, ⟨f0, f1, f2, f3, f4, f5, f6⟩, hy2⟩ := row7 r0
          have n2 := World.new_ne _ _ b0
          have n3 := World.new_ne _ _ a0
          have U1 := Lib.hid r1
          have hbX := Lib.hid (hbW.out.trans (hbT.out.mono hbW.out.size))
          clear r1 r0 hb1 hca
          go_wp2_with fail
          go_roundw
          case rel =>
            refine ⟨1 + 1, e0, (It.tip b), by simp, by go_num, tipsTo_1' rfl HOK.out TO.out, ?_, ?_⟩
            · exact (row_alloc (by simp; omega) _).trans (heap_setCell_same _ _ _ _ _ _ (heap_setCell_same _ _ _ _ _ _ U1.out))
            · exact ((hbT.out.setCell (Nat.le_refl _) _).setCell (Nat.le_refl _) _).alloc (by simp; omega) _
          case measure => simp [intOf]
    · obtain rfl : j = 2 := by omega
      have P := Lib.hid (parseK_7_yes TO.out)
      obtain ⟨⟨b0, b1, b2, b3, b4, b5, b6⟩, ⟨g0, g1, g2, g3, g4, g5, g6⟩, hy1⟩ := row7 R1.out
      have r0 := (hbel.block _ hy0).trans Q0.out
      obtain ⟨⟨a0, a1, a2, a3, a4, a5, a6⟩, ⟨f0, f1, f2, f3, f4, f5, f6⟩, hy2⟩ := row7 r0
      have hbX := Lib.hid (hbW.out.trans (hbel.mono hbW.out.size))
      clear r0
      go_wp2_with fail
      refine bodyPost_ret ?_ rfl (ParseGives.yes P.out rfl ?_)
      · simp [results, Try.results35, go_sem, *] <;> (repeat' (first | exact rfl | apply And.intro))
      · (repeat (first | (with_reducible refine Below.setCell ?_ (by first | exact Nat.le_refl _ | (simp; done) | ((try simp); omega)) _) | (with_reducible refine Below.alloc ?_ (by first | (simp; done) | ((try simp); omega)) _) | with_reducible refine Below.drew ?_)); exact hbX.out
set_option maxHeartbeats 4000000 in
set_option maxRecDepth 100000 in
theorem rp_8_one (s : ByteArray) (x : List UInt8) (a : List UInt8) (ha : a.length ≤ 1000000) (w : World) (W : HasWords s x [a] w) (hk : It.kind x = 8) (hx : x.length ≤ 1000000) :
    Calls Try.prog 35 #[.string s] w (ParseGives (It.parseK 8 [a]) w) := by
  have hb0 := Lib.hid ((Below.refl w.heap.size w).alloc (Nat.le_refl _) (.cells #[.int .i64 0, .string ⟨#[]⟩, .int .i64 0, .string ⟨#[]⟩, .int .u8 0, .string ⟨#[]⟩, .int .u8 0] 84))
  have R0 := Lib.hid (show (w.alloc (.cells #[.int .i64 0, .string ⟨#[]⟩, .int .i64 0, .string ⟨#[]⟩, .int .u8 0, .string ⟨#[]⟩, .int .u8 0] 84)).heap[w.heap.size]? = some (.cells #[.int .i64 0, .string ⟨#[]⟩, .int .i64 0, .string ⟨#[]⟩, .int .u8 0, .string ⟨#[]⟩, .int .u8 0] 84 (0, 0)) from heap_alloc_new _ _)
  have C := Lib.hid W
  have KC := Lib.hid (fun w => rkind_t x w hx 8 hk)
  clear W hk
  go_enter Try.func35, Try.ntmps35
  go_wp2_with fail
  refine C.out.mono ?_; rintro e w1 ⟨A, c, hc, rfl, hs1, hb1⟩
  have r0 := (hb1.block _ (show w.heap.size < (w.alloc (.cells #[.int .i64 0, .string ⟨#[]⟩, .int .i64 0, .string ⟨#[]⟩, .int .u8 0, .string ⟨#[]⟩, .int .u8 0] 84)).heap.size by simp)).trans R0.out
  obtain ⟨⟨a0, a1, a2, a3, a4, a5, a6⟩, ⟨f0, f1, f2, f3, f4, f5, f6⟩, hy0⟩ := row7 r0
  have Q0 := Lib.hid r0
  have hbW := Lib.hid (hb0.out.trans (hb1.mono (by simp)))
  clear r0 hb1
  obtain ⟨bk, o, rfl⟩ := strs_addr hs1
  have hbk := (strs_at hs1 0 (by simp)).1
  have hc00 := at_words hs1
  have n0 := World.new_ne _ _ a0
  have n1 := World.new_ne _ _ hc00
  simp only [List.length_cons] at hc
  have hc01 := strs_2 hs1
  clear hs1
  go_wp2_with fail
  refine (KC.out _).mono ?_; rintro e w' ⟨rfl, rfl⟩
  go_wp2_with fail
  have HC0 := Lib.hid hc01
  clear hc01 hc00 n1 a0 a1 a2 a3 a4 a5 a6 f0 f1 f2 f3 f4 f5 f6 n0
  go_loopw [13] (fun i wr => EndsRel [a] 8 [] w1 i wr) (fun i _ => 1 - (intOf i).toNat)
  case atStart =>
    refine ⟨0, It.Tp.zero, It.Tp.zero, Nat.zero_le _, rfl, TipsTo.none, ?_, ?_⟩
    · exact heap_alloc_new _ _
    · exact (Below.refl _ _).alloc (Nat.le_refl _) _
  case round =>
    obtain ⟨j, e0, e1, hj, rfl, hto, hr1, hbel⟩ := hrel
    have hz1 := (row7 hr1).2.2
    have TO := Lib.hid hto
    have R1 := Lib.hid hr1
    clear hto hr1
    simp only [List.length_cons, List.length_nil] at hj
    by_cases hlt : j < 1
    · obtain rfl : j = 0 := by omega
      
      have hca : wr.cell? ⟨bk, o + 1, none⟩ = some (.string (txt a)) := (hbel.cell (p := ⟨bk, o + 1, none⟩) hbk).trans HC0.out
      cases hok : It.tipOk a
      · have TF := Lib.hid (fun w => rtip_f a w ha hok)
        have P := Lib.hid (parseK_8_no hok)
        clear hok
        go_wp2_with fail
        refine (TF.out _).mono ?_; rintro e w2 ⟨rfl, hb1⟩
        have hz2 := hb1.size
        have r1 := (hb1.block _ hz1).trans R1.out
        obtain ⟨⟨b0, b1, b2, b3, b4, b5, b6⟩, ⟨g0, g1, g2, g3, g4, g5, g6⟩, hy1⟩ := row7 r1
        have hbT := Lib.hid (hbel.trans (hb1.mono hbel.size))
        have r0 := (hbT.out.block _ hy0).trans Q0.out
        obtain ⟨⟨a0, a1, a2, a3, a4, a5, a6⟩, ⟨f0, f1, f2, f3, f4, f5, f6⟩, hy2⟩ := row7 r0
        have n2 := World.new_ne _ _ b0
        have n3 := World.new_ne _ _ a0
        have U1 := Lib.hid r1
        have hbX := Lib.hid (hbW.out.trans (hbT.out.mono hbW.out.size))
        clear r1 r0 hb1 hca
        go_wp2_with fail
        refine bodyPost_ret ?_ rfl (ParseGives.no P.out rfl ?_)
        · simp [results, Try.results35, go_sem, *]
        · (repeat (first | (with_reducible refine Below.setCell ?_ (by first | exact Nat.le_refl _ | (simp; done) | ((try simp); omega)) _) | (with_reducible refine Below.alloc ?_ (by first | (simp; done) | ((try simp); omega)) _) | with_reducible refine Below.drew ?_)); exact hbX.out
      · have TT := Lib.hid (fun w => rtip_t a w ha hok)
        have HOK := Lib.hid hok
        clear hok
        go_wp2_with fail
        refine (TT.out _).mono ?_; rintro e w2 ⟨rfl, hb1⟩
        have hz2 := hb1.size
        have r1 := (hb1.block _ hz1).trans R1.out
        obtain ⟨⟨b0, b1, b2, b3, b4, b5, b6⟩, ⟨g0, g1, g2, g3, g4, g5, g6⟩, hy1⟩ := row7 r1
        have hbT := Lib.hid (hbel.trans (hb1.mono hbel.size))
        have r0 := (hbT.out.block _ hy0).trans Q0.out
        obtain ⟨⟨a0, a1, a2, a3, a4, a5, a6⟩, ⟨f0, f1, f2, f3, f4, f5, f6⟩, hy2⟩ := row7 r0
        have n2 := World.new_ne _ _ b0
        have n3 := World.new_ne _ _ a0
        have U1 := Lib.hid r1
        have hbX := Lib.hid (hbW.out.trans (hbT.out.mono hbW.out.size))
        clear r1 r0 hb1 hca
        go_wp2_with fail
        go_roundw
        case rel =>
          refine ⟨0 + 1, (It.tip a), e1, by simp, by go_num, tipsTo_0' rfl HOK.out TO.out, ?_, ?_⟩
          · exact (row_alloc (by simp; omega) _).trans (heap_setCell_same _ _ _ _ _ _ (heap_setCell_same _ _ _ _ _ _ U1.out))
          · exact ((hbT.out.setCell (Nat.le_refl _) _).setCell (Nat.le_refl _) _).alloc (by simp; omega) _
        case measure => simp [intOf]
    · obtain rfl : j = 1 := by omega
      have P := Lib.hid (parseK_8_yes TO.out)
      obtain ⟨⟨b0, b1, b2, b3, b4, b5, b6⟩, ⟨g0, g1, g2, g3, g4, g5, g6⟩, hy1⟩ := row7 R1.out
      have r0 := (hbel.block _ hy0).trans Q0.out
      obtain ⟨⟨a0, a1, a2, a3, a4, a5, a6⟩, ⟨f0, f1, f2, f3, f4, f5, f6⟩, hy2⟩ := row7 r0
      have hbX := Lib.hid (hbW.out.trans (hbel.mono hbW.out.size))
      clear r0
      go_wp2_with fail
      refine bodyPost_ret ?_ rfl (ParseGives.yes P.out rfl ?_)
      · simp [results, Try.results35, go_sem, *] <;> (repeat' (first | exact rfl | apply And.intro))
      · (repeat (first | (with_reducible refine Below.setCell ?_ (by first | exact Nat.le_refl _ | (simp; done) | ((try simp); omega)) _) | (with_reducible refine Below.alloc ?_ (by first | (simp; done) | ((try simp); omega)) _) | with_reducible refine Below.drew ?_)); exact hbX.out
set_option maxHeartbeats 4000000 in
set_option maxRecDepth 100000 in
theorem rp_9_one (s : ByteArray) (x : List UInt8) (m a : List UInt8) (hm : m.length ≤ 1000000) (ha : a.length ≤ 1000000) (hn : Fig.nameB m = true) (w : World) (W : HasWords s x [m, a] w) (hk : It.kind x = 9) (hx : x.length ≤ 1000000) :
    Calls Try.prog 35 #[.string s] w (ParseGives (It.parseK 9 [m, a]) w) := by
  have N := Lib.hid (fun w => rname_t m w hm _ hn)
  have HN := Lib.hid hn
  clear hn hm
  have hb0 := Lib.hid ((Below.refl w.heap.size w).alloc (Nat.le_refl _) (.cells #[.int .i64 0, .string ⟨#[]⟩, .int .i64 0, .string ⟨#[]⟩, .int .u8 0, .string ⟨#[]⟩, .int .u8 0] 84))
  have R0 := Lib.hid (show (w.alloc (.cells #[.int .i64 0, .string ⟨#[]⟩, .int .i64 0, .string ⟨#[]⟩, .int .u8 0, .string ⟨#[]⟩, .int .u8 0] 84)).heap[w.heap.size]? = some (.cells #[.int .i64 0, .string ⟨#[]⟩, .int .i64 0, .string ⟨#[]⟩, .int .u8 0, .string ⟨#[]⟩, .int .u8 0] 84 (0, 0)) from heap_alloc_new _ _)
  have C := Lib.hid W
  have KC := Lib.hid (fun w => rkind_t x w hx 9 hk)
  clear W hk
  go_enter Try.func35, Try.ntmps35
  go_wp2_with fail
  refine C.out.mono ?_; rintro e w1 ⟨A, c, hc, rfl, hs1, hb1⟩
  have r0 := (hb1.block _ (show w.heap.size < (w.alloc (.cells #[.int .i64 0, .string ⟨#[]⟩, .int .i64 0, .string ⟨#[]⟩, .int .u8 0, .string ⟨#[]⟩, .int .u8 0] 84)).heap.size by simp)).trans R0.out
  obtain ⟨⟨a0, a1, a2, a3, a4, a5, a6⟩, ⟨f0, f1, f2, f3, f4, f5, f6⟩, hy0⟩ := row7 r0
  have Q0 := Lib.hid r0
  have hbW := Lib.hid (hb0.out.trans (hb1.mono (by simp)))
  clear r0 hb1
  obtain ⟨bk, o, rfl⟩ := strs_addr hs1
  have hbk := (strs_at hs1 0 (by simp)).1
  have hc00 := at_words hs1
  have n0 := World.new_ne _ _ a0
  have n1 := World.new_ne _ _ hc00
  simp only [List.length_cons] at hc
  have hc01 := strs_2 hs1
  have hc02 := strs_3 hs1
  clear hs1
  go_wp2_with fail
  refine (KC.out _).mono ?_; rintro e w' ⟨rfl, rfl⟩
  go_wp2_with fail
  refine (N.out _).mono ?_; rintro e w' ⟨rfl, rfl⟩
  go_wp2_with fail
  go_region
  go_wp2_with fail
  have HC0 := Lib.hid hc02
  clear hc01 hc02 hc00 n1 a0 a1 a2 a3 a4 a5 a6 f0 f1 f2 f3 f4 f5 f6 n0
  go_loopw [13] (fun i wr => EndsRel [a] 9 m w1 i wr) (fun i _ => 1 - (intOf i).toNat)
  case atStart =>
    refine ⟨0, It.Tp.zero, It.Tp.zero, Nat.zero_le _, rfl, TipsTo.none, ?_, ?_⟩
    · exact heap_alloc_new _ _
    · exact ((Below.refl _ _).alloc (Nat.le_refl _) _).drew
  case round =>
    obtain ⟨j, e0, e1, hj, rfl, hto, hr1, hbel⟩ := hrel
    have hz1 := (row7 hr1).2.2
    have TO := Lib.hid hto
    have R1 := Lib.hid hr1
    clear hto hr1
    simp only [List.length_cons, List.length_nil] at hj
    by_cases hlt : j < 1
    · obtain rfl : j = 0 := by omega
      
      have hca : wr.cell? ⟨bk, o + 2, none⟩ = some (.string (txt a)) := (hbel.cell (p := ⟨bk, o + 2, none⟩) hbk).trans HC0.out
      cases hok : It.tipOk a
      · have TF := Lib.hid (fun w => rtip_f a w ha hok)
        have P := Lib.hid (parseK_9_no (m := m) hok)
        clear hok
        go_wp2_with fail
        refine (TF.out _).mono ?_; rintro e w2 ⟨rfl, hb1⟩
        have hz2 := hb1.size
        have r1 := (hb1.block _ hz1).trans R1.out
        obtain ⟨⟨b0, b1, b2, b3, b4, b5, b6⟩, ⟨g0, g1, g2, g3, g4, g5, g6⟩, hy1⟩ := row7 r1
        have hbT := Lib.hid (hbel.trans (hb1.mono hbel.size))
        have r0 := (hbT.out.block _ hy0).trans Q0.out
        obtain ⟨⟨a0, a1, a2, a3, a4, a5, a6⟩, ⟨f0, f1, f2, f3, f4, f5, f6⟩, hy2⟩ := row7 r0
        have n2 := World.new_ne _ _ b0
        have n3 := World.new_ne _ _ a0
        have U1 := Lib.hid r1
        have hbX := Lib.hid (hbW.out.trans (hbT.out.mono hbW.out.size))
        clear r1 r0 hb1 hca
        go_wp2_with fail
        refine bodyPost_ret ?_ rfl (ParseGives.no P.out rfl ?_)
        · simp [results, Try.results35, go_sem, *]
        · (repeat (first | (with_reducible refine Below.setCell ?_ (by first | exact Nat.le_refl _ | (simp; done) | ((try simp); omega)) _) | (with_reducible refine Below.alloc ?_ (by first | (simp; done) | ((try simp); omega)) _) | with_reducible refine Below.drew ?_)); exact hbX.out
      · have TT := Lib.hid (fun w => rtip_t a w ha hok)
        have HOK := Lib.hid hok
        clear hok
        go_wp2_with fail
        refine (TT.out _).mono ?_; rintro e w2 ⟨rfl, hb1⟩
        have hz2 := hb1.size
        have r1 := (hb1.block _ hz1).trans R1.out
        obtain ⟨⟨b0, b1, b2, b3, b4, b5, b6⟩, ⟨g0, g1, g2, g3, g4, g5, g6⟩, hy1⟩ := row7 r1
        have hbT := Lib.hid (hbel.trans (hb1.mono hbel.size))
        have r0 := (hbT.out.block _ hy0).trans Q0.out
        obtain ⟨⟨a0, a1, a2, a3, a4, a5, a6⟩, ⟨f0, f1, f2, f3, f4, f5, f6⟩, hy2⟩ := row7 r0
        have n2 := World.new_ne _ _ b0
        have n3 := World.new_ne _ _ a0
        have U1 := Lib.hid r1
        have hbX := Lib.hid (hbW.out.trans (hbT.out.mono hbW.out.size))
        clear r1 r0 hb1 hca
        go_wp2_with fail
        go_roundw
        case rel =>
          refine ⟨0 + 1, (It.tip a), e1, by simp, by go_num, tipsTo_0' rfl HOK.out TO.out, ?_, ?_⟩
          · exact (row_alloc (by simp; omega) _).trans (heap_setCell_same _ _ _ _ _ _ (heap_setCell_same _ _ _ _ _ _ U1.out))
          · exact ((hbT.out.setCell (Nat.le_refl _) _).setCell (Nat.le_refl _) _).alloc (by simp; omega) _
        case measure => simp [intOf]
    · obtain rfl : j = 1 := by omega
      have P := Lib.hid (parseK_9_yes HN.out TO.out)
      obtain ⟨⟨b0, b1, b2, b3, b4, b5, b6⟩, ⟨g0, g1, g2, g3, g4, g5, g6⟩, hy1⟩ := row7 R1.out
      have r0 := (hbel.block _ hy0).trans Q0.out
      obtain ⟨⟨a0, a1, a2, a3, a4, a5, a6⟩, ⟨f0, f1, f2, f3, f4, f5, f6⟩, hy2⟩ := row7 r0
      have hbX := Lib.hid (hbW.out.trans (hbel.mono hbW.out.size))
      clear r0
      go_wp2_with fail
      refine bodyPost_ret ?_ rfl (ParseGives.yes P.out rfl ?_)
      · simp [results, Try.results35, go_sem, *] <;> (repeat' (first | exact rfl | apply And.intro))
      · (repeat (first | (with_reducible refine Below.setCell ?_ (by first | exact Nat.le_refl _ | (simp; done) | ((try simp); omega)) _) | (with_reducible refine Below.alloc ?_ (by first | (simp; done) | ((try simp); omega)) _) | with_reducible refine Below.drew ?_)); exact hbX.out
end Go.Proofs.Ytbmmcmdopekccaa
/-
  The document's answer to layer 3's Parse, of whatever text.
-/
namespace Go.Proofs.Ytbmmcmdopekccaa
open Go.RowKit

theorem rp_all (k : Int) (s : ByteArray) (x : List UInt8) (T : List (List UInt8)) (w : World) (W : HasWords s x T w) (hk : It.kind x = k) (hx : x.length ≤ 1000000) (hT : ∀ y ∈ T, y.length ≤ 1000000) (hTl : T.length ≤ 1000000) (h0 : 0 ≤ k) (h9 : k ≤ 9) :
    Calls Try.prog 35 #[.string s] w (ParseGives (It.parseK k T) w) := by
  obtain rfl | rfl | rfl | rfl | rfl | rfl | rfl | rfl | rfl | rfl : k = 0 ∨ k = 1 ∨ k = 2 ∨ k = 3 ∨ k = 4 ∨ k = 5 ∨ k = 6 ∨ k = 7 ∨ k = 8 ∨ k = 9 := by omega
  · exact rp_0 s x T hTl w W hk hx
  · by_cases h : T.length = 1
    · obtain ⟨d, rfl⟩ := List.length_eq_one_iff.1 h
      exact rp_1_one s x d (hT d (by simp)) w W hk hx
    · exact rp_1_many s x T hTl h w W hk hx
  · by_cases h : T.length = 1
    · obtain ⟨d, rfl⟩ := List.length_eq_one_iff.1 h
      exact rp_2_one s x d (hT d (by simp)) w W hk hx
    · exact rp_2_many s x T hTl h w W hk hx
  · by_cases h : T.length = 1
    · obtain ⟨d, rfl⟩ := List.length_eq_one_iff.1 h
      exact rp_3_one s x d (hT d (by simp)) w W hk hx
    · exact rp_3_many s x T hTl h w W hk hx
  · by_cases h : T.length = 1
    · obtain ⟨d, rfl⟩ := List.length_eq_one_iff.1 h
      exact rp_4_one s x d (hT d (by simp)) w W hk hx
    · exact rp_4_many s x T hTl h w W hk hx
  · match T with
    | [] => exact rp_5_nil s x w W hk hx
    | m :: T =>
      have hm := hT m (by simp)
      have hTl' : T.length ≤ 1000000 := by simp at hTl; omega
      cases hn : Fig.nameB m
      · exact rp_5_bad s x m T hm hTl' hn w W hk hx
      · by_cases h : T.length = 1
        · obtain ⟨d, rfl⟩ := List.length_eq_one_iff.1 h
          exact rp_5_one s x m d hm (hT d (by simp)) hn w W hk hx
        · exact rp_5_many s x m T hm hTl' hn h w W hk hx
  · match T with
    | [] => exact rp_6_nil s x w W hk hx
    | m :: T =>
      have hm := hT m (by simp)
      have hTl' : T.length ≤ 1000000 := by simp at hTl; omega
      cases hn : Fig.nameB m
      · exact rp_6_bad s x m T hm hTl' hn w W hk hx
      · by_cases h : T.length = 1
        · obtain ⟨d, rfl⟩ := List.length_eq_one_iff.1 h
          exact rp_6_one s x m d hm (hT d (by simp)) hn w W hk hx
        · exact rp_6_many s x m T hm hTl' hn h w W hk hx
  · by_cases h : T.length = 2
    · obtain ⟨a, b, rfl⟩ : ∃ a b, T = [a, b] := by
        match T, h with
        | [a, b], _ => exact ⟨a, b, rfl⟩
      exact rp_7_one s x a b (hT a (by simp)) (hT b (by simp)) w W hk hx
    · exact rp_7_many s x T hTl h w W hk hx
  · by_cases h : T.length = 1
    · obtain ⟨a, rfl⟩ := List.length_eq_one_iff.1 h
      exact rp_8_one s x a (hT a (by simp)) w W hk hx
    · exact rp_8_many s x T hTl h w W hk hx
  · match T with
    | [] => exact rp_9_nil s x w W hk hx
    | m :: T =>
      have hm := hT m (by simp)
      have hTl' : T.length ≤ 1000000 := by simp at hTl; omega
      cases hn : Fig.nameB m
      · exact rp_9_bad s x m T hm hTl' hn w W hk hx
      · by_cases h : T.length = 1
        · obtain ⟨a, rfl⟩ := List.length_eq_one_iff.1 h
          exact rp_9_one s x m a hm (hT a (by simp)) hn w W hk hx
        · exact rp_9_many s x m T hm hTl' hn h w W hk hx

set_option maxHeartbeats 4000000 in
set_option maxRecDepth 100000 in
theorem riparse_any (s : ByteArray) (w : World) (hs : s.size ≤ 1000000) :
    Calls Try.prog 35 #[.string s] w (ParseGives (It.parse s.data.toList) w) := by
  have W := rwords_any s (w.alloc (.cells #[.int .i64 0, .string ⟨#[]⟩, .int .i64 0, .string ⟨#[]⟩, .int .u8 0, .string ⟨#[]⟩, .int .u8 0] 84)) hs
  cases hws : Ln.ws true s.data.toList
  · have hb0 := Lib.hid ((Below.refl w.heap.size w).alloc (Nat.le_refl _) (.cells #[.int .i64 0, .string ⟨#[]⟩, .int .i64 0, .string ⟨#[]⟩, .int .u8 0, .string ⟨#[]⟩, .int .u8 0] 84))
    have R0 := Lib.hid (show (w.alloc (.cells #[.int .i64 0, .string ⟨#[]⟩, .int .i64 0, .string ⟨#[]⟩, .int .u8 0, .string ⟨#[]⟩, .int .u8 0] 84)).heap[w.heap.size]? = some (.cells #[.int .i64 0, .string ⟨#[]⟩, .int .i64 0, .string ⟨#[]⟩, .int .u8 0, .string ⟨#[]⟩, .int .u8 0] 84 (0, 0)) from heap_alloc_new _ _)
    have P := Lib.hid (parse_none hws)
    rw [Ln.words, hws] at W
    have C := Lib.hid W
    clear W hws
    go_enter Try.func35, Try.ntmps35
    go_wp2_with fail
    refine C.out.mono ?_; rintro e w1 ⟨A, c, hc, rfl, hs1, hb1⟩
    have r0 := (hb1.block _ (show w.heap.size < (w.alloc (.cells #[.int .i64 0, .string ⟨#[]⟩, .int .i64 0, .string ⟨#[]⟩, .int .u8 0, .string ⟨#[]⟩, .int .u8 0] 84)).heap.size by simp)).trans R0.out
    obtain ⟨⟨a0, a1, a2, a3, a4, a5, a6⟩, ⟨f0, f1, f2, f3, f4, f5, f6⟩, hy0⟩ := row7 r0
    have Q0 := Lib.hid r0
    have hbW := Lib.hid (hb0.out.trans (hb1.mono (by simp)))
    clear r0 hb1
    go_wp2_with fail
    refine bodyPost_ret ?_ rfl (ParseGives.no P.out rfl ?_)
    · simp [results, Try.results35, go_sem, *]
    · (repeat (with_reducible refine Below.setCell ?_ (by first | exact Nat.le_refl _ | exact Nat.le_succ _) _)); exact hbW.out
  · obtain ⟨hl, hne⟩ := Ln.line_words _ hws
    have hle := words_le _ hws
    obtain ⟨x, T, hL⟩ : ∃ x T, Ln.words s.data.toList = x :: T := by
      cases hw : Ln.words s.data.toList with
      | nil => exact absurd hw hne
      | cons x T => exact ⟨x, T, rfl⟩
    rw [hL] at hle
    have hsz : s.data.toList.length = s.size := by simp
    have hTl : T.length ≤ 1000000 := by
      have := words_len s.data.toList
      rw [hL] at this; simp at this; omega
    have hkb := kind_bd x
    rw [parse_some hws hL rfl]
    rw [hL, hws] at W
    exact rp_all _ s x T w W rfl (by have := hle x (by simp); omega) (fun y hy => by have := hle y (by simp [hy]); omega) hTl hkb.1 hkb.2
end Go.Proofs.Ytbmmcmdopekccaa
/-
  Two ends, and two items, held against each other by ==.
-/
namespace Go.Proofs.Ytbmmcmdopekccaa
open Go.RowKit

theorem eq_tip_in (W : World) (d : Nat) (a b : ByteArray) (i j : Int) :
    Sem.run Try.prog (Op.equalIn (d + 2) 81 (.agg #[.string a, .int .u8 i]) (.agg #[.string b, .int .u8 j])) W = .ok (a.toList == b.toList && i == j) W := by
  cases h1 : a.toList == b.toList <;> cases h2 : i == j <;> go_simp
theorem ctip : Try.prog.cellsOf 81 = 2 := by kernel_rfl
theorem part_tip0 (W : World) (x y z u : Value) : Sem.run Try.prog (part 81 #[x, y, z, u] 0) W = .ok (.agg #[x, y]) W := by
  simp [part, isAgg, run_underlying Try.underlying81]
theorem part_tip2 (W : World) (x y z u : Value) : Sem.run Try.prog (part 81 #[x, y, z, u] 2) W = .ok (.agg #[z, u]) W := by
  simp [part, isAgg, run_underlying Try.underlying81]
/-- Two ends of one item and two of another. -/
def endsB (a b a' b' : ByteArray) (i j i' j' : Int) : Bool := (a.toList == b.toList && i == j) && (a'.toList == b'.toList && i' == j')
theorem eq_ends_in (W : World) (d : Nat) (a b a' b' : ByteArray) (i j i' j' : Int) :
    Sem.run Try.prog (Op.equalIn (d + 3) 82 (.agg #[.string a, .int .u8 i, .string a', .int .u8 i']) (.agg #[.string b, .int .u8 j, .string b', .int .u8 j'])) W = .ok (endsB a b a' b' i j i' j') W := by
  obtain ⟨inf, hi⟩ := info_of_underlying (P := Try.prog) Try.underlying81
  rw [run_equalIn_array W (d + 2) _ _ Try.underlying82 hi, ctip]
  have T1 := eq_tip_in W d a b i j
  have T2 := eq_tip_in W d a' b' i' j'
  unfold endsB
  generalize (a.toList == b.toList && i == j) = p at T1 ⊢
  generalize (a'.toList == b'.toList && i' == j') = q at T2 ⊢
  cases p <;> cases q <;> simp [Op.eqItems, List.range, List.range.loop, part_tip0, part_tip2, T1, T2]
def itemB (k k' : Int) (nm nm' : ByteArray) (n n' : Int) (e : Bool) : Bool := k == k' && (nm.toList == nm'.toList && (n == n' && e))
theorem eq_item_in (W : World) (d : Nat) (k k' : Int) (nm nm' : ByteArray) (n n' : Int) (a b a' b' : ByteArray) (i j i' j' : Int) :
    Sem.run Try.prog (Op.equalIn (d + 4) 84 (.agg #[.int .i64 k, .string nm, .int .i64 n, .string a, .int .u8 i, .string a', .int .u8 i']) (.agg #[.int .i64 k', .string nm', .int .i64 n', .string b, .int .u8 j, .string b', .int .u8 j'])) W = .ok (itemB k k' nm nm' n n' (endsB a b a' b' i j i' j')) W := by
  have E := eq_ends_in W d a b a' b' i j i' j'
  generalize endsB a b a' b' i j i' j' = p at E ⊢
  unfold itemB
  cases h1 : k == k' <;> cases h2 : nm.toList == nm'.toList <;> cases h3 : n == n' <;> cases p <;> go_simp
theorem eq_item (W : World) (k k' : Int) (nm nm' : ByteArray) (n n' : Int) (a b a' b' : ByteArray) (i j i' j' : Int) :
    Sem.run Try.prog (Op.equalIn 10000 84 (.agg #[.int .i64 k, .string nm, .int .i64 n, .string a, .int .u8 i, .string a', .int .u8 i']) (.agg #[.int .i64 k', .string nm', .int .i64 n', .string b, .int .u8 j, .string b', .int .u8 j'])) W = .ok (itemB k k' nm nm' n n' (endsB a b a' b' i j i' j')) W :=
  eq_item_in W 9996 k k' nm nm' n n' a b a' b' i j i' j'
theorem itemB_eq (y z : It.Itm) : itemB y.k z.k (txt y.name) (txt z.name) y.n z.n (endsB (txt y.e0.n) (txt z.e0.n) (txt y.e1.n) (txt z.e1.n) y.e0.c.toNat z.e0.c.toNat y.e1.c.toNat z.e1.c.toNat) = decide (y = z) := by
  rw [Bool.eq_iff_iff]
  obtain ⟨k, nm, n, ⟨a, ac⟩, ⟨b, bc⟩⟩ := y
  obtain ⟨k', nm', n', ⟨a', ac'⟩, ⟨b', bc'⟩⟩ := z
  have e : ∀ x y : UInt8, ((x.toNat : Int) = y.toNat ↔ x = y) := fun x y => ⟨fun h => UInt8.toNat_inj.mp (by omega), fun h => by rw [h]⟩
  simp [itemB, endsB, toList_txt, e, and_assoc]
theorem dec_comm (x y : It.Itm) : decide (x = y) = decide (y = x) := by
  rw [Bool.eq_iff_iff, decide_eq_true_iff, decide_eq_true_iff]
  exact ⟨Eq.symm, Eq.symm⟩
theorem bin_item' (W : World) (y : It.Itm) (k : Int) (nm : ByteArray) (n : Int) (a : ByteArray) (ac : UInt8) (b : ByteArray) (bc : UInt8) :
    Sem.run Try.prog (binOp .eql 84 (.agg #[.int .i64 k, .string nm, .int .i64 n, .string a, .int .u8 ac.toNat, .string b, .int .u8 bc.toNat]) (.agg #[.int .i64 y.k, .string (txt y.name), .int .i64 y.n, .string (txt y.e0.n), .int .u8 y.e0.c.toNat, .string (txt y.e1.n), .int .u8 y.e1.c.toNat])) W = .ok (.bool (decide (y = ofV k nm n a ac b bc))) W := by
  have h := eq_item W k y.k nm (txt y.name) n y.n a (txt y.e0.n) b (txt y.e1.n) ac.toNat y.e0.c.toNat bc.toNat y.e1.c.toNat
  have e := itemB_eq (ofV k nm n a ac b bc) y
  simp only [ofV, txt_of] at e
  rw [run_eql_struct, h, e, Result.andThen_ok]
  exact congrArg (fun b => Result.ok (Value.bool b) W) (dec_comm _ _)
end Go.Proofs.Ytbmmcmdopekccaa
/-
  The walks of layer 3's Right, of the document's answer to it, and of the laws' short.
-/
namespace Go.Proofs.Ytbmmcmdopekccaa
open Go.RowKit

theorem print_le (k : Int) (nm : ByteArray) (n : Int) (a : ByteArray) (ac : UInt8) (b : ByteArray) (bc : UInt8) (h0 : 0 ≤ n) (h1 : n ≤ 9223372036854775807) (hn : nm.size ≤ 1000) (ha : a.size ≤ 1000) (hb : b.size ≤ 1000) : (It.print (ofV k nm n a ac b bc)).length ≤ 1000000 := by
  have hw := word_le k
  have hd := dec_l20 h0 h1
  by_cases e1 : It.isNum k = true
  · rw [print_num e1]; simp [Ln.line, Lib.join]; omega
  by_cases e2 : It.isLen k = true
  · rw [print_len (len_num e2) e2]; simp [Ln.line, Lib.join]; omega
  by_cases e3 : k = 7
  · subst e3; rw [print_7]; simp [Ln.line, Lib.join, It.tipT]; omega
  by_cases e4 : k = 8
  · subst e4; rw [print_8]; simp [Ln.line, Lib.join, It.tipT]; omega
  by_cases e5 : k = 9
  · subst e5; rw [print_9]; simp [Ln.line, Lib.join, It.tipT]; omega
  · rw [ofV_k _ _ _ _ _ _ _ (by simp [It.isNum] at e1; simp [It.isLen] at e2; omega)]; simp
set_option maxHeartbeats 4000000 in
set_option maxRecDepth 100000 in
theorem riright_any (k : Int) (nm : ByteArray) (n : Int) (a : ByteArray) (ac : UInt8) (b : ByteArray) (bc : UInt8) (w : World) (h1 : n ≤ 9223372036854775807) (hn : nm.size ≤ 1000) (ha : a.size ≤ 1000) (hb : b.size ≤ 1000) :
    Calls Try.prog 36 #[.agg #[.int .i64 k, .string nm, .int .i64 n, .string a, .int .u8 ac.toNat, .string b, .int .u8 bc.toNat]] w fun e w' => e = .returned (.bool (It.right (ofV k nm n a ac b bc))) ∧ Below w.heap.size w w' := by
  have hb0 := Lib.hid ((Below.refl w.heap.size w).alloc (Nat.le_refl _) (.cells #[.int .i64 k, .string nm, .int .i64 n, .string a, .int .u8 ac.toNat, .string b, .int .u8 bc.toNat] 84))
  have R0 := Lib.hid (show (w.alloc (.cells #[.int .i64 k, .string nm, .int .i64 n, .string a, .int .u8 ac.toNat, .string b, .int .u8 bc.toNat] 84)).heap[w.heap.size]? = some (.cells #[.int .i64 k, .string nm, .int .i64 n, .string a, .int .u8 ac.toNat, .string b, .int .u8 bc.toNat] 84 (0, 0)) from heap_alloc_new _ _)
  by_cases h0 : n < 0
  · have P := Lib.hid (show It.right (ofV k nm n a ac b bc) = false by
      rw [It.right, dec_f (show ¬ 0 ≤ (ofV k nm n a ac b bc).n by show ¬ 0 ≤ n; omega)]; rfl)
    have h0' : decide (n < 0) = true := dec_t h0
    clear h1 hn ha hb h0
    go_enter Try.func36, Try.ntmps36
    go_wp2_with fail
    go_ret
    exact ⟨retB P.out.symm, hb0.out⟩
  · have h0' : decide (n < 0) = false := dec_f h0
    have hle := print_le k nm n a ac b bc (by omega) h1 hn ha hb
    have C := Lib.hid (riprint_any k nm n a ac b bc (w.alloc (.cells #[.int .i64 k, .string nm, .int .i64 n, .string a, .int .u8 ac.toNat, .string b, .int .u8 bc.toNat] 84)) (by omega) h1 hn ha hb)
    have PC := Lib.hid (fun w => riparse_any (txt (It.print (ofV k nm n a ac b bc))) w (by rw [txt_size]; exact hle))
    have HN := Lib.hid (show decide (0 ≤ (ofV k nm n a ac b bc).n) = true from dec_t (show 0 ≤ n by omega))
    clear h1 hn ha hb h0 hle
    go_enter Try.func36, Try.ntmps36
    go_wp2_with fail
    refine C.out.mono ?_; rintro e w1 ⟨rfl, hb1⟩
    have r0 := (hb1.block _ (show w.heap.size < (w.alloc (.cells #[.int .i64 k, .string nm, .int .i64 n, .string a, .int .u8 ac.toNat, .string b, .int .u8 bc.toNat] 84)).heap.size by simp)).trans R0.out
    have hy0 := (row7 r0).2.2
    have Q0 := Lib.hid r0
    have hbW := Lib.hid (hb0.out.trans (hb1.mono (by simp)))
    clear r0 hb1
    go_wp2_with fail
    refine (PC.out _).mono ?_; rintro e w2 ⟨y, rfl, hyy, hb2⟩
    rw [txt_toList] at hyy ⊢
    have r0 := (hb2.block _ hy0).trans Q0.out
    obtain ⟨⟨a0, a1, a2, a3, a4, a5, a6⟩, ⟨f0, f1, f2, f3, f4, f5, f6⟩, hy1⟩ := row7 r0
    have n0 := World.new_ne _ _ a0
    have hbX := Lib.hid (hbW.out.trans (hb2.mono hbW.out.size))
    clear r0 hb2
    cases hpk : It.parse (It.print (ofV k nm n a ac b bc)) with
    | none =>
      have P := Lib.hid (show It.right (ofV k nm n a ac b bc) = false by rw [It.right, HN.out, hpk]; rfl)
      clear hpk hyy
      rw [Option.isSome_none]
      go_wp2_with fail
      go_ret
      exact ⟨retB P.out.symm, hbX.out.alloc (by omega) _⟩
    | some z =>
      rw [hpk] at hyy
      obtain rfl : y = z := hyy
      have P := Lib.hid (show It.right (ofV k nm n a ac b bc) = decide (y = ofV k nm n a ac b bc) by rw [It.right, HN.out, hpk, Bool.true_and]; simp)
      clear hpk
      rw [Option.isSome_some]
      have Q := fun W => bin_item' W y k nm n a ac b bc
      go_wp2_with fail
      go_ret
      exact ⟨retB P.out.symm, hbX.out.alloc (by omega) _⟩
end Go.Proofs.Ytbmmcmdopekccaa
/-
  The walk of layer 3's awake: the document's examples come out as they should.
-/
namespace Go.Proofs.Ytbmmcmdopekccaa
open Go.RowKit

theorem stay_row {w w' : World} {b : Nat} {r : Obj} (h : w.heap[b]? = some r) (hb : Below w.heap.size w w') : w'.heap[b]? = some r := by
  rw [hb.block b (Array.getElem?_eq_some_iff.1 h).1, h]
theorem row2 {w : World} {g : Nat} {a b : Value} {t : TypeId} (h : w.heap[g]? = some (.cells #[a, b] t (0, 0))) : (w.cell? ⟨g, 0, none⟩ = some a ∧ w.cell? ⟨g, 1, none⟩ = some b) ∧ g < w.heap.size :=
  ⟨⟨cell_of_row w g 0 _ t _ h, cell_of_row w g 1 _ t _ h⟩, (Array.getElem?_eq_some_iff.1 h).1⟩
end Go.Proofs.Ytbmmcmdopekccaa
