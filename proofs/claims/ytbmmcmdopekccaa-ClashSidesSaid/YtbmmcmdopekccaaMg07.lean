/-
  Texts of this claim, merged: ItRParse.
-/
import Derived.Test.YtbmmcmdopekccaaMg06
/-
  The walk of the document's answer to layer 3's Parse.
-/
namespace Go.Proofs.Ytbmmcmdopekccaa
open Go.RowKit

theorem rkind_t (x : List UInt8) (w : World) (hs : x.length ≤ 1000000) (k : Int) (h : It.kind x = k) :
    Calls Try.prog 51 #[.string (txt x)] w fun e w' => e = .returned (.int .i64 k) ∧ w = w' := by
  have := rkind_any (txt x) w (by rw [txt_size]; unfold maxLen; omega)
  rwa [txt_toList, h] at this
theorem rparse_t (x : List UInt8) (m : Int) (w : World) (hs : x.length ≤ 1000000) (b : Bool) (h : Fig.parseB x m = b) :
    Calls Try.prog 54 #[.string (txt x), .int .i64 m] w fun e w' => e = .returned (.tuple #[.int .i64 (Fig.parseN x m), .bool b]) ∧ w = w' := by
  have := rparse_any (txt x) m w (by rw [txt_size]; unfold maxLen; omega)
  rwa [txt_toList, h] at this
theorem rname_t (x : List UInt8) (w : World) (hs : x.length ≤ 1000000) (b : Bool) (h : Fig.nameB x = b) :
    Calls Try.prog 52 #[.string (txt x)] w fun e w' => e = .returned (.bool b) ∧ w = w' := by
  have := rname_any (txt x) w (by rw [txt_size]; unfold maxLen; omega)
  rwa [txt_toList, h] at this
/-- What Words leaves of a line that has words, said of a world with a fresh item ahead. -/
def HasWords (s : ByteArray) (x : List UInt8) (T : List (List UInt8)) (w : World) : Prop :=
  Calls Try.prog 50 #[.string s] (w.alloc (.cells #[.int .i64 0, .string ⟨#[]⟩, .int .i64 0, .string ⟨#[]⟩, .int .u8 0, .string ⟨#[]⟩, .int .u8 0] 84)) (GivesList (x :: T) true (w.alloc (.cells #[.int .i64 0, .string ⟨#[]⟩, .int .i64 0, .string ⟨#[]⟩, .int .u8 0, .string ⟨#[]⟩, .int .u8 0] 84)))
/-- A slice's address behind its first element, as the language reckons it. -/
theorem at_words {w : World} {bk o : Nat} {x : List UInt8} {T : List (List UInt8)} (h : Strs w (some ⟨bk, o, none⟩) (x :: T)) : w.cell? ⟨bk, o, none⟩ = some (.string (txt x)) := (strs_at h 0 (by simp)).2

set_option maxHeartbeats 4000000 in
set_option maxRecDepth 100000 in
theorem rp_0 (s : ByteArray) (x : List UInt8) (T : List (List UInt8)) (hTl : T.length ≤ 1000000) (w : World) (W : HasWords s x T w) (hk : It.kind x = 0) (hx : x.length ≤ 1000000) :
    Calls Try.prog 35 #[.string s] w (ParseGives (It.parseK 0 T) w) := by
  have P := Lib.hid (show It.parseK 0 T = none from rfl)
  have hb0 := Lib.hid ((Below.refl w.heap.size w).alloc (Nat.le_refl _) (.cells #[.int .i64 0, .string ⟨#[]⟩, .int .i64 0, .string ⟨#[]⟩, .int .u8 0, .string ⟨#[]⟩, .int .u8 0] 84))
  have R0 := Lib.hid (show (w.alloc (.cells #[.int .i64 0, .string ⟨#[]⟩, .int .i64 0, .string ⟨#[]⟩, .int .u8 0, .string ⟨#[]⟩, .int .u8 0] 84)).heap[w.heap.size]? = some (.cells #[.int .i64 0, .string ⟨#[]⟩, .int .i64 0, .string ⟨#[]⟩, .int .u8 0, .string ⟨#[]⟩, .int .u8 0] 84 (0, 0)) from heap_alloc_new _ _)
  have C := Lib.hid W
  have KC := Lib.hid (fun w => rkind_t x w hx 0 hk)
  clear W hk
  go_enter Try.func35, Try.ntmps35
  go_wp2_with fail
  refine C.out.mono ?_; rintro e w1 ⟨A, c, hc, rfl, hs1, hb1⟩
  have r0 := (hb1.block _ (show w.heap.size < (w.alloc (.cells #[.int .i64 0, .string ⟨#[]⟩, .int .i64 0, .string ⟨#[]⟩, .int .u8 0, .string ⟨#[]⟩, .int .u8 0] 84)).heap.size by simp)).trans R0.out
  obtain ⟨⟨a0, a1, a2, a3, a4, a5, a6⟩, ⟨f0, f1, f2, f3, f4, f5, f6⟩, hy0⟩ := row7 r0
  have Q0 := Lib.hid r0
  have hbW := Lib.hid (hb0.out.trans (hb1.mono (by simp)))
  clear r0 hb1
  obtain ⟨bk, o, rfl⟩ := strs_addr hs1
  have hbk := (strs_at hs1 0 (by simp)).1
  have hc00 := at_words hs1
  have n0 := World.new_ne _ _ a0
  have n1 := World.new_ne _ _ hc00
  simp only [List.length_cons] at hc
  clear hs1
  go_wp2_with fail
  refine (KC.out _).mono ?_; rintro e w' ⟨rfl, rfl⟩
  go_wp2_with fail
  all_goals
    refine bodyPost_ret ?_ rfl (ParseGives.no P.out rfl ?_)
    · simp [results, Try.results35, go_sem, *]
    · (repeat (first | (with_reducible refine Below.setCell ?_ (by first | exact Nat.le_refl _ | (simp; done) | ((try simp); omega)) _) | (with_reducible refine Below.alloc ?_ (by first | (simp; done) | ((try simp); omega)) _) | with_reducible refine Below.drew ?_)); exact hbW.out
set_option maxHeartbeats 4000000 in
set_option maxRecDepth 100000 in
theorem rp_5_nil (s : ByteArray) (x : List UInt8) (w : World) (W : HasWords s x [] w) (hk : It.kind x = 5) (hx : x.length ≤ 1000000) :
    Calls Try.prog 35 #[.string s] w (ParseGives (It.parseK 5 []) w) := by
  have P := Lib.hid (show It.parseK 5 [] = none from rfl)
  have hb0 := Lib.hid ((Below.refl w.heap.size w).alloc (Nat.le_refl _) (.cells #[.int .i64 0, .string ⟨#[]⟩, .int .i64 0, .string ⟨#[]⟩, .int .u8 0, .string ⟨#[]⟩, .int .u8 0] 84))
  have R0 := Lib.hid (show (w.alloc (.cells #[.int .i64 0, .string ⟨#[]⟩, .int .i64 0, .string ⟨#[]⟩, .int .u8 0, .string ⟨#[]⟩, .int .u8 0] 84)).heap[w.heap.size]? = some (.cells #[.int .i64 0, .string ⟨#[]⟩, .int .i64 0, .string ⟨#[]⟩, .int .u8 0, .string ⟨#[]⟩, .int .u8 0] 84 (0, 0)) from heap_alloc_new _ _)
  have C := Lib.hid W
  have KC := Lib.hid (fun w => rkind_t x w hx 5 hk)
  clear W hk
  go_enter Try.func35, Try.ntmps35
  go_wp2_with fail
  refine C.out.mono ?_; rintro e w1 ⟨A, c, hc, rfl, hs1, hb1⟩
  have r0 := (hb1.block _ (show w.heap.size < (w.alloc (.cells #[.int .i64 0, .string ⟨#[]⟩, .int .i64 0, .string ⟨#[]⟩, .int .u8 0, .string ⟨#[]⟩, .int .u8 0] 84)).heap.size by simp)).trans R0.out
  obtain ⟨⟨a0, a1, a2, a3, a4, a5, a6⟩, ⟨f0, f1, f2, f3, f4, f5, f6⟩, hy0⟩ := row7 r0
  have Q0 := Lib.hid r0
  have hbW := Lib.hid (hb0.out.trans (hb1.mono (by simp)))
  clear r0 hb1
  obtain ⟨bk, o, rfl⟩ := strs_addr hs1
  have hbk := (strs_at hs1 0 (by simp)).1
  have hc00 := at_words hs1
  have n0 := World.new_ne _ _ a0
  have n1 := World.new_ne _ _ hc00
  simp only [List.length_cons] at hc
  clear hs1
  go_wp2_with fail
  refine (KC.out _).mono ?_; rintro e w' ⟨rfl, rfl⟩
  go_wp2_with fail
  all_goals
    refine bodyPost_ret ?_ rfl (ParseGives.no P.out rfl ?_)
    · simp [results, Try.results35, go_sem, *]
    · (repeat (first | (with_reducible refine Below.setCell ?_ (by first | exact Nat.le_refl _ | (simp; done) | ((try simp); omega)) _) | (with_reducible refine Below.alloc ?_ (by first | (simp; done) | ((try simp); omega)) _) | with_reducible refine Below.drew ?_)); exact hbW.out
set_option maxHeartbeats 4000000 in
set_option maxRecDepth 100000 in
theorem rp_6_nil (s : ByteArray) (x : List UInt8) (w : World) (W : HasWords s x [] w) (hk : It.kind x = 6) (hx : x.length ≤ 1000000) :
    Calls Try.prog 35 #[.string s] w (ParseGives (It.parseK 6 []) w) := by
  have P := Lib.hid (show It.parseK 6 [] = none from rfl)
  have hb0 := Lib.hid ((Below.refl w.heap.size w).alloc (Nat.le_refl _) (.cells #[.int .i64 0, .string ⟨#[]⟩, .int .i64 0, .string ⟨#[]⟩, .int .u8 0, .string ⟨#[]⟩, .int .u8 0] 84))
  have R0 := Lib.hid (show (w.alloc (.cells #[.int .i64 0, .string ⟨#[]⟩, .int .i64 0, .string ⟨#[]⟩, .int .u8 0, .string ⟨#[]⟩, .int .u8 0] 84)).heap[w.heap.size]? = some (.cells #[.int .i64 0, .string ⟨#[]⟩, .int .i64 0, .string ⟨#[]⟩, .int .u8 0, .string ⟨#[]⟩, .int .u8 0] 84 (0, 0)) from heap_alloc_new _ _)
  have C := Lib.hid W
  have KC := Lib.hid (fun w => rkind_t x w hx 6 hk)
  clear W hk
  go_enter Try.func35, Try.ntmps35
  go_wp2_with fail
  refine C.out.mono ?_; rintro e w1 ⟨A, c, hc, rfl, hs1, hb1⟩
  have r0 := (hb1.block _ (show w.heap.size < (w.alloc (.cells #[.int .i64 0, .string ⟨#[]⟩, .int .i64 0, .string ⟨#[]⟩, .int .u8 0, .string ⟨#[]⟩, .int .u8 0] 84)).heap.size by simp)).trans R0.out
  obtain ⟨⟨a0, a1, a2, a3, a4, a5, a6⟩, ⟨f0, f1, f2, f3, f4, f5, f6⟩, hy0⟩ := row7 r0
  have Q0 := Lib.hid r0
  have hbW := Lib.hid (hb0.out.trans (hb1.mono (by simp)))
  clear r0 hb1
  obtain ⟨bk, o, rfl⟩ := strs_addr hs1
  have hbk := (strs_at hs1 0 (by simp)).1
  have hc00 := at_words hs1
  have n0 := World.new_ne _ _ a0
  have n1 := World.new_ne _ _ hc00
  simp only [List.length_cons] at hc
  clear hs1
  go_wp2_with fail
  refine (KC.out _).mono ?_; rintro e w' ⟨rfl, rfl⟩
  go_wp2_with fail
  all_goals
    refine bodyPost_ret ?_ rfl (ParseGives.no P.out rfl ?_)
    · simp [results, Try.results35, go_sem, *]
    · (repeat (first | (with_reducible refine Below.setCell ?_ (by first | exact Nat.le_refl _ | (simp; done) | ((try simp); omega)) _) | (with_reducible refine Below.alloc ?_ (by first | (simp; done) | ((try simp); omega)) _) | with_reducible refine Below.drew ?_)); exact hbW.out
set_option maxHeartbeats 4000000 in
set_option maxRecDepth 100000 in
theorem rp_9_nil (s : ByteArray) (x : List UInt8) (w : World) (W : HasWords s x [] w) (hk : It.kind x = 9) (hx : x.length ≤ 1000000) :
    Calls Try.prog 35 #[.string s] w (ParseGives (It.parseK 9 []) w) := by
  have P := Lib.hid (show It.parseK 9 [] = none from rfl)
  have hb0 := Lib.hid ((Below.refl w.heap.size w).alloc (Nat.le_refl _) (.cells #[.int .i64 0, .string ⟨#[]⟩, .int .i64 0, .string ⟨#[]⟩, .int .u8 0, .string ⟨#[]⟩, .int .u8 0] 84))
  have R0 := Lib.hid (show (w.alloc (.cells #[.int .i64 0, .string ⟨#[]⟩, .int .i64 0, .string ⟨#[]⟩, .int .u8 0, .string ⟨#[]⟩, .int .u8 0] 84)).heap[w.heap.size]? = some (.cells #[.int .i64 0, .string ⟨#[]⟩, .int .i64 0, .string ⟨#[]⟩, .int .u8 0, .string ⟨#[]⟩, .int .u8 0] 84 (0, 0)) from heap_alloc_new _ _)
  have C := Lib.hid W
  have KC := Lib.hid (fun w => rkind_t x w hx 9 hk)
  clear W hk
  go_enter Try.func35, Try.ntmps35
  go_wp2_with fail
  refine C.out.mono ?_; rintro e w1 ⟨A, c, hc, rfl, hs1, hb1⟩
  have r0 := (hb1.block _ (show w.heap.size < (w.alloc (.cells #[.int .i64 0, .string ⟨#[]⟩, .int .i64 0, .string ⟨#[]⟩, .int .u8 0, .string ⟨#[]⟩, .int .u8 0] 84)).heap.size by simp)).trans R0.out
  obtain ⟨⟨a0, a1, a2, a3, a4, a5, a6⟩, ⟨f0, f1, f2, f3, f4, f5, f6⟩, hy0⟩ := row7 r0
  have Q0 := Lib.hid r0
  have hbW := Lib.hid (hb0.out.trans (hb1.mono (by simp)))
  clear r0 hb1
  obtain ⟨bk, o, rfl⟩ := strs_addr hs1
  have hbk := (strs_at hs1 0 (by simp)).1
  have hc00 := at_words hs1
  have n0 := World.new_ne _ _ a0
  have n1 := World.new_ne _ _ hc00
  simp only [List.length_cons] at hc
  clear hs1
  go_wp2_with fail
  refine (KC.out _).mono ?_; rintro e w' ⟨rfl, rfl⟩
  go_wp2_with fail
  all_goals
    refine bodyPost_ret ?_ rfl (ParseGives.no P.out rfl ?_)
    · simp [results, Try.results35, go_sem, *]
    · (repeat (first | (with_reducible refine Below.setCell ?_ (by first | exact Nat.le_refl _ | (simp; done) | ((try simp); omega)) _) | (with_reducible refine Below.alloc ?_ (by first | (simp; done) | ((try simp); omega)) _) | with_reducible refine Below.drew ?_)); exact hbW.out
theorem parseK_bad5 {k : Int} (hk : k = 5 ∨ k = 6 ∨ k = 9) {m : List UInt8} {T : List (List UInt8)} (h : Fig.nameB m = false) : It.parseK k (m :: T) = none := by
  rcases hk with rfl | rfl | rfl
  all_goals
    match T with
    | [] => rfl
    | [d] => simp [It.parseK, It.isNum, It.isLen, h]
    | _ :: _ :: _ => rfl
theorem strs_2 {w : World} {bk o : Nat} {x m : List UInt8} {T : List (List UInt8)} (h : Strs w (some ⟨bk, o, none⟩) (x :: m :: T)) : w.cell? ⟨bk, o + 1, none⟩ = some (.string (txt m)) := (strs_at h 1 (by simp)).2
theorem strs_3 {w : World} {bk o : Nat} {x m d : List UInt8} {T : List (List UInt8)} (h : Strs w (some ⟨bk, o, none⟩) (x :: m :: d :: T)) : w.cell? ⟨bk, o + 2, none⟩ = some (.string (txt d)) := (strs_at h 2 (by simp)).2
set_option maxHeartbeats 4000000 in
set_option maxRecDepth 100000 in
theorem rp_5_bad (s : ByteArray) (x : List UInt8) (m : List UInt8) (T : List (List UInt8)) (hm : m.length ≤ 1000000) (hTl : T.length ≤ 1000000) (hn : Fig.nameB m = false) (w : World) (W : HasWords s x (m :: T) w) (hk : It.kind x = 5) (hx : x.length ≤ 1000000) :
    Calls Try.prog 35 #[.string s] w (ParseGives (It.parseK 5 (m :: T)) w) := by
  have P := Lib.hid (parseK_bad5 (k := 5) (by omega) (T := T) hn)
  have N := Lib.hid (fun w => rname_t m w hm _ hn)
  clear hn hm
  have hb0 := Lib.hid ((Below.refl w.heap.size w).alloc (Nat.le_refl _) (.cells #[.int .i64 0, .string ⟨#[]⟩, .int .i64 0, .string ⟨#[]⟩, .int .u8 0, .string ⟨#[]⟩, .int .u8 0] 84))
  have R0 := Lib.hid (show (w.alloc (.cells #[.int .i64 0, .string ⟨#[]⟩, .int .i64 0, .string ⟨#[]⟩, .int .u8 0, .string ⟨#[]⟩, .int .u8 0] 84)).heap[w.heap.size]? = some (.cells #[.int .i64 0, .string ⟨#[]⟩, .int .i64 0, .string ⟨#[]⟩, .int .u8 0, .string ⟨#[]⟩, .int .u8 0] 84 (0, 0)) from heap_alloc_new _ _)
  have C := Lib.hid W
  have KC := Lib.hid (fun w => rkind_t x w hx 5 hk)
  clear W hk
  go_enter Try.func35, Try.ntmps35
  go_wp2_with fail
  refine C.out.mono ?_; rintro e w1 ⟨A, c, hc, rfl, hs1, hb1⟩
  have r0 := (hb1.block _ (show w.heap.size < (w.alloc (.cells #[.int .i64 0, .string ⟨#[]⟩, .int .i64 0, .string ⟨#[]⟩, .int .u8 0, .string ⟨#[]⟩, .int .u8 0] 84)).heap.size by simp)).trans R0.out
  obtain ⟨⟨a0, a1, a2, a3, a4, a5, a6⟩, ⟨f0, f1, f2, f3, f4, f5, f6⟩, hy0⟩ := row7 r0
  have Q0 := Lib.hid r0
  have hbW := Lib.hid (hb0.out.trans (hb1.mono (by simp)))
  clear r0 hb1
  obtain ⟨bk, o, rfl⟩ := strs_addr hs1
  have hbk := (strs_at hs1 0 (by simp)).1
  have hc00 := at_words hs1
  have n0 := World.new_ne _ _ a0
  have n1 := World.new_ne _ _ hc00
  simp only [List.length_cons] at hc
  have hc01 := strs_2 hs1
  clear hs1
  go_wp2_with fail
  refine (KC.out _).mono ?_; rintro e w' ⟨rfl, rfl⟩
  go_wp2_with fail
  refine (N.out _).mono ?_; rintro e w' ⟨rfl, rfl⟩
  go_wp2_with fail
  refine bodyPost_ret ?_ rfl (ParseGives.no P.out rfl ?_)
  · simp [results, Try.results35, go_sem, *]
  · (repeat (first | (with_reducible refine Below.setCell ?_ (by first | exact Nat.le_refl _ | (simp; done) | ((try simp); omega)) _) | (with_reducible refine Below.alloc ?_ (by first | (simp; done) | ((try simp); omega)) _) | with_reducible refine Below.drew ?_)); exact hbW.out
set_option maxHeartbeats 4000000 in
set_option maxRecDepth 100000 in
theorem rp_6_bad (s : ByteArray) (x : List UInt8) (m : List UInt8) (T : List (List UInt8)) (hm : m.length ≤ 1000000) (hTl : T.length ≤ 1000000) (hn : Fig.nameB m = false) (w : World) (W : HasWords s x (m :: T) w) (hk : It.kind x = 6) (hx : x.length ≤ 1000000) :
    Calls Try.prog 35 #[.string s] w (ParseGives (It.parseK 6 (m :: T)) w) := by
  have P := Lib.hid (parseK_bad5 (k := 6) (by omega) (T := T) hn)
  have N := Lib.hid (fun w => rname_t m w hm _ hn)
  clear hn hm
  have hb0 := Lib.hid ((Below.refl w.heap.size w).alloc (Nat.le_refl _) (.cells #[.int .i64 0, .string ⟨#[]⟩, .int .i64 0, .string ⟨#[]⟩, .int .u8 0, .string ⟨#[]⟩, .int .u8 0] 84))
  have R0 := Lib.hid (show (w.alloc (.cells #[.int .i64 0, .string ⟨#[]⟩, .int .i64 0, .string ⟨#[]⟩, .int .u8 0, .string ⟨#[]⟩, .int .u8 0] 84)).heap[w.heap.size]? = some (.cells #[.int .i64 0, .string ⟨#[]⟩, .int .i64 0, .string ⟨#[]⟩, .int .u8 0, .string ⟨#[]⟩, .int .u8 0] 84 (0, 0)) from heap_alloc_new _ _)
  have C := Lib.hid W
  have KC := Lib.hid (fun w => rkind_t x w hx 6 hk)
  clear W hk
  go_enter Try.func35, Try.ntmps35
  go_wp2_with fail
  refine C.out.mono ?_; rintro e w1 ⟨A, c, hc, rfl, hs1, hb1⟩
  have r0 := (hb1.block _ (show w.heap.size < (w.alloc (.cells #[.int .i64 0, .string ⟨#[]⟩, .int .i64 0, .string ⟨#[]⟩, .int .u8 0, .string ⟨#[]⟩, .int .u8 0] 84)).heap.size by simp)).trans R0.out
  obtain ⟨⟨a0, a1, a2, a3, a4, a5, a6⟩, ⟨f0, f1, f2, f3, f4, f5, f6⟩, hy0⟩ := row7 r0
  have Q0 := Lib.hid r0
  have hbW := Lib.hid (hb0.out.trans (hb1.mono (by simp)))
  clear r0 hb1
  obtain ⟨bk, o, rfl⟩ := strs_addr hs1
  have hbk := (strs_at hs1 0 (by simp)).1
  have hc00 := at_words hs1
  have n0 := World.new_ne _ _ a0
  have n1 := World.new_ne _ _ hc00
  simp only [List.length_cons] at hc
  have hc01 := strs_2 hs1
  clear hs1
  go_wp2_with fail
  refine (KC.out _).mono ?_; rintro e w' ⟨rfl, rfl⟩
  go_wp2_with fail
  refine (N.out _).mono ?_; rintro e w' ⟨rfl, rfl⟩
  go_wp2_with fail
  refine bodyPost_ret ?_ rfl (ParseGives.no P.out rfl ?_)
  · simp [results, Try.results35, go_sem, *]
  · (repeat (first | (with_reducible refine Below.setCell ?_ (by first | exact Nat.le_refl _ | (simp; done) | ((try simp); omega)) _) | (with_reducible refine Below.alloc ?_ (by first | (simp; done) | ((try simp); omega)) _) | with_reducible refine Below.drew ?_)); exact hbW.out
set_option maxHeartbeats 4000000 in
set_option maxRecDepth 100000 in
theorem rp_9_bad (s : ByteArray) (x : List UInt8) (m : List UInt8) (T : List (List UInt8)) (hm : m.length ≤ 1000000) (hTl : T.length ≤ 1000000) (hn : Fig.nameB m = false) (w : World) (W : HasWords s x (m :: T) w) (hk : It.kind x = 9) (hx : x.length ≤ 1000000) :
    Calls Try.prog 35 #[.string s] w (ParseGives (It.parseK 9 (m :: T)) w) := by
  have P := Lib.hid (parseK_bad5 (k := 9) (by omega) (T := T) hn)
  have N := Lib.hid (fun w => rname_t m w hm _ hn)
  clear hn hm
  have hb0 := Lib.hid ((Below.refl w.heap.size w).alloc (Nat.le_refl _) (.cells #[.int .i64 0, .string ⟨#[]⟩, .int .i64 0, .string ⟨#[]⟩, .int .u8 0, .string ⟨#[]⟩, .int .u8 0] 84))
  have R0 := Lib.hid (show (w.alloc (.cells #[.int .i64 0, .string ⟨#[]⟩, .int .i64 0, .string ⟨#[]⟩, .int .u8 0, .string ⟨#[]⟩, .int .u8 0] 84)).heap[w.heap.size]? = some (.cells #[.int .i64 0, .string ⟨#[]⟩, .int .i64 0, .string ⟨#[]⟩, .int .u8 0, .string ⟨#[]⟩, .int .u8 0] 84 (0, 0)) from heap_alloc_new _ _)
  have C := Lib.hid W
  have KC := Lib.hid (fun w => rkind_t x w hx 9 hk)
  clear W hk
  go_enter Try.func35, Try.ntmps35
  go_wp2_with fail
  refine C.out.mono ?_; rintro e w1 ⟨A, c, hc, rfl, hs1, hb1⟩
  have r0 := (hb1.block _ (show w.heap.size < (w.alloc (.cells #[.int .i64 0, .string ⟨#[]⟩, .int .i64 0, .string ⟨#[]⟩, .int .u8 0, .string ⟨#[]⟩, .int .u8 0] 84)).heap.size by simp)).trans R0.out
  obtain ⟨⟨a0, a1, a2, a3, a4, a5, a6⟩, ⟨f0, f1, f2, f3, f4, f5, f6⟩, hy0⟩ := row7 r0
  have Q0 := Lib.hid r0
  have hbW := Lib.hid (hb0.out.trans (hb1.mono (by simp)))
  clear r0 hb1
  obtain ⟨bk, o, rfl⟩ := strs_addr hs1
  have hbk := (strs_at hs1 0 (by simp)).1
  have hc00 := at_words hs1
  have n0 := World.new_ne _ _ a0
  have n1 := World.new_ne _ _ hc00
  simp only [List.length_cons] at hc
  have hc01 := strs_2 hs1
  clear hs1
  go_wp2_with fail
  refine (KC.out _).mono ?_; rintro e w' ⟨rfl, rfl⟩
  go_wp2_with fail
  refine (N.out _).mono ?_; rintro e w' ⟨rfl, rfl⟩
  go_wp2_with fail
  refine bodyPost_ret ?_ rfl (ParseGives.no P.out rfl ?_)
  · simp [results, Try.results35, go_sem, *]
  · (repeat (first | (with_reducible refine Below.setCell ?_ (by first | exact Nat.le_refl _ | (simp; done) | ((try simp); omega)) _) | (with_reducible refine Below.alloc ?_ (by first | (simp; done) | ((try simp); omega)) _) | with_reducible refine Below.drew ?_)); exact hbW.out
theorem parseK_many {k : Int} (hk : k = 5 ∨ k = 6 ∨ k = 9) {m : List UInt8} {T : List (List UInt8)} (h : T.length ≠ 1) : It.parseK k (m :: T) = none := by
  rcases hk with rfl | rfl | rfl
  all_goals
    match T, h with
    | [], _ => rfl
    | [d], h => exact absurd rfl h
    | _ :: _ :: _, _ => rfl
theorem most_t (k : Int) (w : World) (h0 : 1 ≤ k) (h9 : k ≤ 6) (lo hi : Int) (hl : It.least k = lo) (hh : It.most k = hi) :
    Calls Try.prog 53 #[.int .i64 k] w fun e w' => e = .returned (.tuple #[.int .i64 lo, .int .i64 hi]) ∧ w = w' := by
  subst hl hh; exact most_any k w h0 h9
theorem parseK_len_no {k : Int} (hk : It.isLen k = true) {m d : List UInt8} (_h : Fig.nameB m = true) (hp : Fig.parseB d 1099511627776 = false ∨ decide (Fig.parseN d 1099511627776 < 1) = true) : It.parseK k [m, d] = none := by
  have := (parseK_len hk m d _ rfl).1
  have e : (Fig.nameB m && Fig.parseB d 1099511627776 && decide (0 < Fig.parseN d 1099511627776)) = false := by
    rcases hp with hp | hp
    · rw [hp]; simp
    · have := of_decide_eq_true hp
      rw [dec_f (by omega : ¬ 0 < Fig.parseN d 1099511627776)]; simp
  rw [e] at this
  simpa using this
theorem parseK_len_yes {k : Int} (hk : It.isLen k = true) {m d : List UInt8} (h : Fig.nameB m = true) (hp : Fig.parseB d 1099511627776 = true) (hl : decide (Fig.parseN d 1099511627776 < 1) = false) : It.parseK k [m, d] = some ⟨k, m, Fig.parseN d 1099511627776, It.Tp.zero, It.Tp.zero⟩ := by
  have := parseK_len hk m d _ rfl
  have e : (Fig.nameB m && Fig.parseB d 1099511627776 && decide (0 < Fig.parseN d 1099511627776)) = true := by
    have := of_decide_eq_false hl
    rw [h, hp, dec_t (by omega : 0 < Fig.parseN d 1099511627776)]; rfl
  rw [e] at this
  obtain ⟨z, hz⟩ := Option.isSome_iff_exists.1 this.1
  rw [hz, this.2 z hz]
set_option maxHeartbeats 4000000 in
set_option maxRecDepth 100000 in
theorem rp_5_many (s : ByteArray) (x : List UInt8) (m : List UInt8) (T : List (List UInt8)) (hm : m.length ≤ 1000000) (hTl : T.length ≤ 1000000) (hn : Fig.nameB m = true) (h1 : T.length ≠ 1) (w : World) (W : HasWords s x (m :: T) w) (hk : It.kind x = 5) (hx : x.length ≤ 1000000) :
    Calls Try.prog 35 #[.string s] w (ParseGives (It.parseK 5 (m :: T)) w) := by
  have P := Lib.hid (parseK_many (k := 5) (by omega) (m := m) h1)
  have N := Lib.hid (fun w => rname_t m w hm _ hn)
  have hl : ((T.length : Int) != 1) = true := by rw [bne_iff_ne]; omega
  clear hn hm h1
  have hb0 := Lib.hid ((Below.refl w.heap.size w).alloc (Nat.le_refl _) (.cells #[.int .i64 0, .string ⟨#[]⟩, .int .i64 0, .string ⟨#[]⟩, .int .u8 0, .string ⟨#[]⟩, .int .u8 0] 84))
  have R0 := Lib.hid (show (w.alloc (.cells #[.int .i64 0, .string ⟨#[]⟩, .int .i64 0, .string ⟨#[]⟩, .int .u8 0, .string ⟨#[]⟩, .int .u8 0] 84)).heap[w.heap.size]? = some (.cells #[.int .i64 0, .string ⟨#[]⟩, .int .i64 0, .string ⟨#[]⟩, .int .u8 0, .string ⟨#[]⟩, .int .u8 0] 84 (0, 0)) from heap_alloc_new _ _)
  have C := Lib.hid W
  have KC := Lib.hid (fun w => rkind_t x w hx 5 hk)
  clear W hk
  go_enter Try.func35, Try.ntmps35
  go_wp2_with fail
  refine C.out.mono ?_; rintro e w1 ⟨A, c, hc, rfl, hs1, hb1⟩
  have r0 := (hb1.block _ (show w.heap.size < (w.alloc (.cells #[.int .i64 0, .string ⟨#[]⟩, .int .i64 0, .string ⟨#[]⟩, .int .u8 0, .string ⟨#[]⟩, .int .u8 0] 84)).heap.size by simp)).trans R0.out
  obtain ⟨⟨a0, a1, a2, a3, a4, a5, a6⟩, ⟨f0, f1, f2, f3, f4, f5, f6⟩, hy0⟩ := row7 r0
  have Q0 := Lib.hid r0
  have hbW := Lib.hid (hb0.out.trans (hb1.mono (by simp)))
  clear r0 hb1
  obtain ⟨bk, o, rfl⟩ := strs_addr hs1
  have hbk := (strs_at hs1 0 (by simp)).1
  have hc00 := at_words hs1
  have n0 := World.new_ne _ _ a0
  have n1 := World.new_ne _ _ hc00
  simp only [List.length_cons] at hc
  have hc01 := strs_2 hs1
  clear hs1
  go_wp2_with fail
  refine (KC.out _).mono ?_; rintro e w' ⟨rfl, rfl⟩
  go_wp2_with fail
  refine (N.out _).mono ?_; rintro e w' ⟨rfl, rfl⟩
  go_wp2_with fail
  go_region
  all_goals go_wp2_with fail
  all_goals
    refine bodyPost_ret ?_ rfl (ParseGives.no P.out rfl ?_)
    · simp [results, Try.results35, go_sem, *]
    · (repeat (first | (with_reducible refine Below.setCell ?_ (by first | exact Nat.le_refl _ | (simp; done) | ((try simp); omega)) _) | (with_reducible refine Below.alloc ?_ (by first | (simp; done) | ((try simp); omega)) _) | with_reducible refine Below.drew ?_)); exact hbW.out
set_option maxHeartbeats 4000000 in
set_option maxRecDepth 100000 in
theorem rp_6_many (s : ByteArray) (x : List UInt8) (m : List UInt8) (T : List (List UInt8)) (hm : m.length ≤ 1000000) (hTl : T.length ≤ 1000000) (hn : Fig.nameB m = true) (h1 : T.length ≠ 1) (w : World) (W : HasWords s x (m :: T) w) (hk : It.kind x = 6) (hx : x.length ≤ 1000000) :
    Calls Try.prog 35 #[.string s] w (ParseGives (It.parseK 6 (m :: T)) w) := by
  have P := Lib.hid (parseK_many (k := 6) (by omega) (m := m) h1)
  have N := Lib.hid (fun w => rname_t m w hm _ hn)
  have hl : ((T.length : Int) != 1) = true := by rw [bne_iff_ne]; omega
  clear hn hm h1
  have hb0 := Lib.hid ((Below.refl w.heap.size w).alloc (Nat.le_refl _) (.cells #[.int .i64 0, .string ⟨#[]⟩, .int .i64 0, .string ⟨#[]⟩, .int .u8 0, .string ⟨#[]⟩, .int .u8 0] 84))
  have R0 := Lib.hid (show (w.alloc (.cells #[.int .i64 0, .string ⟨#[]⟩, .int .i64 0, .string ⟨#[]⟩, .int .u8 0, .string ⟨#[]⟩, .int .u8 0] 84)).heap[w.heap.size]? = some (.cells #[.int .i64 0, .string ⟨#[]⟩, .int .i64 0, .string ⟨#[]⟩, .int .u8 0, .string ⟨#[]⟩, .int .u8 0] 84 (0, 0)) from heap_alloc_new _ _)
  have C := Lib.hid W
  have KC := Lib.hid (fun w => rkind_t x w hx 6 hk)
  clear W hk
  go_enter Try.func35, Try.ntmps35
  go_wp2_with fail
  refine C.out.mono ?_; rintro e w1 ⟨A, c, hc, rfl, hs1, hb1⟩
  have r0 := (hb1.block _ (show w.heap.size < (w.alloc (.cells #[.int .i64 0, .string ⟨#[]⟩, .int .i64 0, .string ⟨#[]⟩, .int .u8 0, .string ⟨#[]⟩, .int .u8 0] 84)).heap.size by simp)).trans R0.out
  obtain ⟨⟨a0, a1, a2, a3, a4, a5, a6⟩, ⟨f0, f1, f2, f3, f4, f5, f6⟩, hy0⟩ := row7 r0
  have Q0 := Lib.hid r0
  have hbW := Lib.hid (hb0.out.trans (hb1.mono (by simp)))
  clear r0 hb1
  obtain ⟨bk, o, rfl⟩ := strs_addr hs1
  have hbk := (strs_at hs1 0 (by simp)).1
  have hc00 := at_words hs1
  have n0 := World.new_ne _ _ a0
  have n1 := World.new_ne _ _ hc00
  simp only [List.length_cons] at hc
  have hc01 := strs_2 hs1
  clear hs1
  go_wp2_with fail
  refine (KC.out _).mono ?_; rintro e w' ⟨rfl, rfl⟩
  go_wp2_with fail
  refine (N.out _).mono ?_; rintro e w' ⟨rfl, rfl⟩
  go_wp2_with fail
  go_region
  all_goals go_wp2_with fail
  all_goals
    refine bodyPost_ret ?_ rfl (ParseGives.no P.out rfl ?_)
    · simp [results, Try.results35, go_sem, *]
    · (repeat (first | (with_reducible refine Below.setCell ?_ (by first | exact Nat.le_refl _ | (simp; done) | ((try simp); omega)) _) | (with_reducible refine Below.alloc ?_ (by first | (simp; done) | ((try simp); omega)) _) | with_reducible refine Below.drew ?_)); exact hbW.out
set_option maxHeartbeats 4000000 in
set_option maxRecDepth 100000 in
theorem rp_9_many (s : ByteArray) (x : List UInt8) (m : List UInt8) (T : List (List UInt8)) (hm : m.length ≤ 1000000) (hTl : T.length ≤ 1000000) (hn : Fig.nameB m = true) (h1 : T.length ≠ 1) (w : World) (W : HasWords s x (m :: T) w) (hk : It.kind x = 9) (hx : x.length ≤ 1000000) :
    Calls Try.prog 35 #[.string s] w (ParseGives (It.parseK 9 (m :: T)) w) := by
  have P := Lib.hid (parseK_many (k := 9) (by omega) (m := m) h1)
  have N := Lib.hid (fun w => rname_t m w hm _ hn)
  have hl : ((T.length : Int) != 1) = true := by rw [bne_iff_ne]; omega
  clear hn hm h1
  have hb0 := Lib.hid ((Below.refl w.heap.size w).alloc (Nat.le_refl _) (.cells #[.int .i64 0, .string ⟨#[]⟩, .int .i64 0, .string ⟨#[]⟩, .int .u8 0, .string ⟨#[]⟩, .int .u8 0] 84))
  have R0 := Lib.hid (show (w.alloc (.cells #[.int .i64 0, .string ⟨#[]⟩, .int .i64 0, .string ⟨#[]⟩, .int .u8 0, .string ⟨#[]⟩, .int .u8 0] 84)).heap[w.heap.size]? = some (.cells #[.int .i64 0, .string ⟨#[]⟩, .int .i64 0, .string ⟨#[]⟩, .int .u8 0, .string ⟨#[]⟩, .int .u8 0] 84 (0, 0)) from heap_alloc_new _ _)
  have C := Lib.hid W
  have KC := Lib.hid (fun w => rkind_t x w hx 9 hk)
  clear W hk
  go_enter Try.func35, Try.ntmps35
  go_wp2_with fail
  refine C.out.mono ?_; rintro e w1 ⟨A, c, hc, rfl, hs1, hb1⟩
  have r0 := (hb1.block _ (show w.heap.size < (w.alloc (.cells #[.int .i64 0, .string ⟨#[]⟩, .int .i64 0, .string ⟨#[]⟩, .int .u8 0, .string ⟨#[]⟩, .int .u8 0] 84)).heap.size by simp)).trans R0.out
  obtain ⟨⟨a0, a1, a2, a3, a4, a5, a6⟩, ⟨f0, f1, f2, f3, f4, f5, f6⟩, hy0⟩ := row7 r0
  have Q0 := Lib.hid r0
  have hbW := Lib.hid (hb0.out.trans (hb1.mono (by simp)))
  clear r0 hb1
  obtain ⟨bk, o, rfl⟩ := strs_addr hs1
  have hbk := (strs_at hs1 0 (by simp)).1
  have hc00 := at_words hs1
  have n0 := World.new_ne _ _ a0
  have n1 := World.new_ne _ _ hc00
  simp only [List.length_cons] at hc
  have hc01 := strs_2 hs1
  clear hs1
  go_wp2_with fail
  refine (KC.out _).mono ?_; rintro e w' ⟨rfl, rfl⟩
  go_wp2_with fail
  refine (N.out _).mono ?_; rintro e w' ⟨rfl, rfl⟩
  go_wp2_with fail
  go_region
  all_goals go_wp2_with fail
  all_goals
    refine bodyPost_ret ?_ rfl (ParseGives.no P.out rfl ?_)
    · simp [results, Try.results35, go_sem, *]
    · (repeat (first | (with_reducible refine Below.setCell ?_ (by first | exact Nat.le_refl _ | (simp; done) | ((try simp); omega)) _) | (with_reducible refine Below.alloc ?_ (by first | (simp; done) | ((try simp); omega)) _) | with_reducible refine Below.drew ?_)); exact hbW.out
set_option maxHeartbeats 4000000 in
set_option maxRecDepth 100000 in
theorem rp_5_one (s : ByteArray) (x : List UInt8) (m d : List UInt8) (hm : m.length ≤ 1000000) (hd : d.length ≤ 1000000) (hn : Fig.nameB m = true) (w : World) (W : HasWords s x [m, d] w) (hk : It.kind x = 5) (hx : x.length ≤ 1000000) :
    Calls Try.prog 35 #[.string s] w (ParseGives (It.parseK 5 [m, d]) w) := by
  have N := Lib.hid (fun w => rname_t m w hm _ hn)
  have MO := Lib.hid (fun w => most_t 5 w (by omega) (by omega) 1 1099511627776 rfl rfl)
  cases hp : Fig.parseB d 1099511627776
  · have P := Lib.hid (parseK_len_no (k := 5) rfl hn (Or.inl hp))
    have PC := Lib.hid (fun w => rparse_t d 1099511627776 w hd _ hp)
    clear hn hm hd hp
    have hb0 := Lib.hid ((Below.refl w.heap.size w).alloc (Nat.le_refl _) (.cells #[.int .i64 0, .string ⟨#[]⟩, .int .i64 0, .string ⟨#[]⟩, .int .u8 0, .string ⟨#[]⟩, .int .u8 0] 84))
    have R0 := Lib.hid (show (w.alloc (.cells #[.int .i64 0, .string ⟨#[]⟩, .int .i64 0, .string ⟨#[]⟩, .int .u8 0, .string ⟨#[]⟩, .int .u8 0] 84)).heap[w.heap.size]? = some (.cells #[.int .i64 0, .string ⟨#[]⟩, .int .i64 0, .string ⟨#[]⟩, .int .u8 0, .string ⟨#[]⟩, .int .u8 0] 84 (0, 0)) from heap_alloc_new _ _)
    have C := Lib.hid W
    have KC := Lib.hid (fun w => rkind_t x w hx 5 hk)
    clear W hk
    go_enter Try.func35, Try.ntmps35
    go_wp2_with fail
    refine C.out.mono ?_; rintro e w1 ⟨A, c, hc, rfl, hs1, hb1⟩
    have r0 := (hb1.block _ (show w.heap.size < (w.alloc (.cells #[.int .i64 0, .string ⟨#[]⟩, .int .i64 0, .string ⟨#[]⟩, .int .u8 0, .string ⟨#[]⟩, .int .u8 0] 84)).heap.size by simp)).trans R0.out
    obtain ⟨⟨a0, a1, a2, a3, a4, a5, a6⟩, ⟨f0, f1, f2, f3, f4, f5, f6⟩, hy0⟩ := row7 r0
    have Q0 := Lib.hid r0
    have hbW := Lib.hid (hb0.out.trans (hb1.mono (by simp)))
    clear r0 hb1
    obtain ⟨bk, o, rfl⟩ := strs_addr hs1
    have hbk := (strs_at hs1 0 (by simp)).1
    have hc00 := at_words hs1
    have n0 := World.new_ne _ _ a0
    have n1 := World.new_ne _ _ hc00
    simp only [List.length_cons] at hc
    have hc01 := strs_2 hs1
    have hc02 := strs_3 hs1
    clear hs1
    go_wp2_with fail
    refine (KC.out _).mono ?_; rintro e w' ⟨rfl, rfl⟩
    go_wp2_with fail
    refine (N.out _).mono ?_; rintro e w' ⟨rfl, rfl⟩
    go_wp2_with fail
    go_region
    all_goals go_wp2_with fail
    all_goals
      refine (MO.out _).mono ?_; rintro e w' ⟨rfl, rfl⟩
      go_wp2_with fail
      refine (PC.out _).mono ?_; rintro e w' ⟨rfl, rfl⟩
      go_wp2_with fail
      refine bodyPost_ret ?_ rfl (ParseGives.no P.out rfl ?_)
      · simp [results, Try.results35, go_sem, *]
      · (repeat (first | (with_reducible refine Below.setCell ?_ (by first | exact Nat.le_refl _ | (simp; done) | ((try simp); omega)) _) | (with_reducible refine Below.alloc ?_ (by first | (simp; done) | ((try simp); omega)) _) | with_reducible refine Below.drew ?_)); exact hbW.out
  · have PC := Lib.hid (fun w => rparse_t d 1099511627776 w hd _ hp)
    cases hl : decide (Fig.parseN d 1099511627776 < 1)
    · have P := Lib.hid (parseK_len_yes (k := 5) rfl hn hp hl)
      clear hn hm hd hp
      have hb0 := Lib.hid ((Below.refl w.heap.size w).alloc (Nat.le_refl _) (.cells #[.int .i64 0, .string ⟨#[]⟩, .int .i64 0, .string ⟨#[]⟩, .int .u8 0, .string ⟨#[]⟩, .int .u8 0] 84))
      have R0 := Lib.hid (show (w.alloc (.cells #[.int .i64 0, .string ⟨#[]⟩, .int .i64 0, .string ⟨#[]⟩, .int .u8 0, .string ⟨#[]⟩, .int .u8 0] 84)).heap[w.heap.size]? = some (.cells #[.int .i64 0, .string ⟨#[]⟩, .int .i64 0, .string ⟨#[]⟩, .int .u8 0, .string ⟨#[]⟩, .int .u8 0] 84 (0, 0)) from heap_alloc_new _ _)
      have C := Lib.hid W
      have KC := Lib.hid (fun w => rkind_t x w hx 5 hk)
      clear W hk
      go_enter Try.func35, Try.ntmps35
      go_wp2_with fail
      refine C.out.mono ?_; rintro e w1 ⟨A, c, hc, rfl, hs1, hb1⟩
      have r0 := (hb1.block _ (show w.heap.size < (w.alloc (.cells #[.int .i64 0, .string ⟨#[]⟩, .int .i64 0, .string ⟨#[]⟩, .int .u8 0, .string ⟨#[]⟩, .int .u8 0] 84)).heap.size by simp)).trans R0.out
      obtain ⟨⟨a0, a1, a2, a3, a4, a5, a6⟩, ⟨f0, f1, f2, f3, f4, f5, f6⟩, hy0⟩ := row7 r0
      have Q0 := Lib.hid r0
      have hbW := Lib.hid (hb0.out.trans (hb1.mono (by simp)))
      clear r0 hb1
      obtain ⟨bk, o, rfl⟩ := strs_addr hs1
      have hbk := (strs_at hs1 0 (by simp)).1
      have hc00 := at_words hs1
      have n0 := World.new_ne _ _ a0
      have n1 := World.new_ne _ _ hc00
      simp only [List.length_cons] at hc
      have hc01 := strs_2 hs1
      have hc02 := strs_3 hs1
      clear hs1
      go_wp2_with fail
      refine (KC.out _).mono ?_; rintro e w' ⟨rfl, rfl⟩
      go_wp2_with fail
      refine (N.out _).mono ?_; rintro e w' ⟨rfl, rfl⟩
      go_wp2_with fail
      go_region
      all_goals go_wp2_with fail
      all_goals
        refine (MO.out _).mono ?_; rintro e w' ⟨rfl, rfl⟩
        go_wp2_with fail
        refine (PC.out _).mono ?_; rintro e w' ⟨rfl, rfl⟩
        go_wp2_with fail
        refine bodyPost_ret ?_ rfl (ParseGives.yes P.out rfl ?_)
        · simp [results, Try.results35, go_sem, *] <;> (repeat' (first | exact rfl | apply And.intro))
        · (repeat (first | (with_reducible refine Below.setCell ?_ (by first | exact Nat.le_refl _ | (simp; done) | ((try simp); omega)) _) | (with_reducible refine Below.alloc ?_ (by first | (simp; done) | ((try simp); omega)) _) | with_reducible refine Below.drew ?_)); exact hbW.out
    · have P := Lib.hid (parseK_len_no (k := 5) rfl hn (Or.inr hl))
      clear hn hm hd hp
      have hb0 := Lib.hid ((Below.refl w.heap.size w).alloc (Nat.le_refl _) (.cells #[.int .i64 0, .string ⟨#[]⟩, .int .i64 0, .string ⟨#[]⟩, .int .u8 0, .string ⟨#[]⟩, .int .u8 0] 84))
      have R0 := Lib.hid (show (w.alloc (.cells #[.int .i64 0, .string ⟨#[]⟩, .int .i64 0, .string ⟨#[]⟩, .int .u8 0, .string ⟨#[]⟩, .int .u8 0] 84)).heap[w.heap.size]? = some (.cells #[.int .i64 0, .string ⟨#[]⟩, .int .i64 0, .string ⟨#[]⟩, .int .u8 0, .string ⟨#[]⟩, .int .u8 0] 84 (0, 0)) from heap_alloc_new _ _)
      have C := Lib.hid W
      have KC := Lib.hid (fun w => rkind_t x w hx 5 hk)
      clear W hk
      go_enter Try.func35, Try.ntmps35
      go_wp2_with fail
      refine C.out.mono ?_; rintro e w1 ⟨A, c, hc, rfl, hs1, hb1⟩
      have r0 := (hb1.block _ (show w.heap.size < (w.alloc (.cells #[.int .i64 0, .string ⟨#[]⟩, .int .i64 0, .string ⟨#[]⟩, .int .u8 0, .string ⟨#[]⟩, .int .u8 0] 84)).heap.size by simp)).trans R0.out
      obtain ⟨⟨a0, a1, a2, a3, a4, a5, a6⟩, ⟨f0, f1, f2, f3, f4, f5, f6⟩, hy0⟩ := row7 r0
      have Q0 := Lib.hid r0
      have hbW := Lib.hid (hb0.out.trans (hb1.mono (by simp)))
      clear r0 hb1
      obtain ⟨bk, o, rfl⟩ := strs_addr hs1
      have hbk := (strs_at hs1 0 (by simp)).1
      have hc00 := at_words hs1
      have n0 := World.new_ne _ _ a0
      have n1 := World.new_ne _ _ hc00
      simp only [List.length_cons] at hc
      have hc01 := strs_2 hs1
      have hc02 := strs_3 hs1
      clear hs1
      go_wp2_with fail
      refine (KC.out _).mono ?_; rintro e w' ⟨rfl, rfl⟩
      go_wp2_with fail
      refine (N.out _).mono ?_; rintro e w' ⟨rfl, rfl⟩
      go_wp2_with fail
      go_region
      all_goals go_wp2_with fail
      all_goals
        refine (MO.out _).mono ?_; rintro e w' ⟨rfl, rfl⟩
        go_wp2_with fail
        refine (PC.out _).mono ?_; rintro e w' ⟨rfl, rfl⟩
        go_wp2_with fail
        refine bodyPost_ret ?_ rfl (ParseGives.no P.out rfl ?_)
        · simp [results, Try.results35, go_sem, *]
        · (repeat (first | (with_reducible refine Below.setCell ?_ (by first | exact Nat.le_refl _ | (simp; done) | ((try simp); omega)) _) | (with_reducible refine Below.alloc ?_ (by first | (simp; done) | ((try simp); omega)) _) | with_reducible refine Below.drew ?_)); exact hbW.out
set_option maxHeartbeats 4000000 in
set_option maxRecDepth 100000 in
theorem rp_6_one (s : ByteArray) (x : List UInt8) (m d : List UInt8) (hm : m.length ≤ 1000000) (hd : d.length ≤ 1000000) (hn : Fig.nameB m = true) (w : World) (W : HasWords s x [m, d] w) (hk : It.kind x = 6) (hx : x.length ≤ 1000000) :
    Calls Try.prog 35 #[.string s] w (ParseGives (It.parseK 6 [m, d]) w) := by
  have N := Lib.hid (fun w => rname_t m w hm _ hn)
  have MO := Lib.hid (fun w => most_t 6 w (by omega) (by omega) 1 1099511627776 rfl rfl)
  cases hp : Fig.parseB d 1099511627776
  · have P := Lib.hid (parseK_len_no (k := 6) rfl hn (Or.inl hp))
    have PC := Lib.hid (fun w => rparse_t d 1099511627776 w hd _ hp)
    clear hn hm hd hp
    have hb0 := Lib.hid ((Below.refl w.heap.size w).alloc (Nat.le_refl _) (.cells #[.int .i64 0, .string ⟨#[]⟩, .int .i64 0, .string ⟨#[]⟩, .int .u8 0, .string ⟨#[]⟩, .int .u8 0] 84))
    have R0 := Lib.hid (show (w.alloc (.cells #[.int .i64 0, .string ⟨#[]⟩, .int .i64 0, .string ⟨#[]⟩, .int .u8 0, .string ⟨#[]⟩, .int .u8 0] 84)).heap[w.heap.size]? = some (.cells #[.int .i64 0, .string ⟨#[]⟩, .int .i64 0, .string ⟨#[]⟩, .int .u8 0, .string ⟨#[]⟩, .int .u8 0] 84 (0, 0)) from heap_alloc_new _ _)
    have C := Lib.hid W
    have KC := Lib.hid (fun w => rkind_t x w hx 6 hk)
    clear W hk
    go_enter Try.func35, Try.ntmps35
    go_wp2_with fail
    refine C.out.mono ?_; rintro e w1 ⟨A, c, hc, rfl, hs1, hb1⟩
    have r0 := (hb1.block _ (show w.heap.size < (w.alloc (.cells #[.int .i64 0, .string ⟨#[]⟩, .int .i64 0, .string ⟨#[]⟩, .int .u8 0, .string ⟨#[]⟩, .int .u8 0] 84)).heap.size by simp)).trans R0.out
    obtain ⟨⟨a0, a1, a2, a3, a4, a5, a6⟩, ⟨f0, f1, f2, f3, f4, f5, f6⟩, hy0⟩ := row7 r0
    have Q0 := Lib.hid r0
    have hbW := Lib.hid (hb0.out.trans (hb1.mono (by simp)))
    clear r0 hb1
    obtain ⟨bk, o, rfl⟩ := strs_addr hs1
    have hbk := (strs_at hs1 0 (by simp)).1
    have hc00 := at_words hs1
    have n0 := World.new_ne _ _ a0
    have n1 := World.new_ne _ _ hc00
    simp only [List.length_cons] at hc
    have hc01 := strs_2 hs1
    have hc02 := strs_3 hs1
    clear hs1
    go_wp2_with fail
    refine (KC.out _).mono ?_; rintro e w' ⟨rfl, rfl⟩
    go_wp2_with fail
    refine (N.out _).mono ?_; rintro e w' ⟨rfl, rfl⟩
    go_wp2_with fail
    go_region
    all_goals go_wp2_with fail
    all_goals
      refine (MO.out _).mono ?_; rintro e w' ⟨rfl, rfl⟩
      go_wp2_with fail
      refine (PC.out _).mono ?_; rintro e w' ⟨rfl, rfl⟩
      go_wp2_with fail
      refine bodyPost_ret ?_ rfl (ParseGives.no P.out rfl ?_)
      · simp [results, Try.results35, go_sem, *]
      · (repeat (first | (with_reducible refine Below.setCell ?_ (by first | exact Nat.le_refl _ | (simp; done) | ((try simp); omega)) _) | (with_reducible refine Below.alloc ?_ (by first | (simp; done) | ((try simp); omega)) _) | with_reducible refine Below.drew ?_)); exact hbW.out
  · have PC := Lib.hid (fun w => rparse_t d 1099511627776 w hd _ hp)
    cases hl : decide (Fig.parseN d 1099511627776 < 1)
    · have P := Lib.hid (parseK_len_yes (k := 6) rfl hn hp hl)
      clear hn hm hd hp
      have hb0 := Lib.hid ((Below.refl w.heap.size w).alloc (Nat.le_refl _) (.cells #[.int .i64 0, .string ⟨#[]⟩, .int .i64 0, .string ⟨#[]⟩, .int .u8 0, .string ⟨#[]⟩, .int .u8 0] 84))
      have R0 := Lib.hid (show (w.alloc (.cells #[.int .i64 0, .string ⟨#[]⟩, .int .i64 0, .string ⟨#[]⟩, .int .u8 0, .string ⟨#[]⟩, .int .u8 0] 84)).heap[w.heap.size]? = some (.cells #[.int .i64 0, .string ⟨#[]⟩, .int .i64 0, .string ⟨#[]⟩, .int .u8 0, .string ⟨#[]⟩, .int .u8 0] 84 (0, 0)) from heap_alloc_new _ _)
      have C := Lib.hid W
      have KC := Lib.hid (fun w => rkind_t x w hx 6 hk)
      clear W hk
      go_enter Try.func35, Try.ntmps35
      go_wp2_with fail
      refine C.out.mono ?_; rintro e w1 ⟨A, c, hc, rfl, hs1, hb1⟩
      have r0 := (hb1.block _ (show w.heap.size < (w.alloc (.cells #[.int .i64 0, .string ⟨#[]⟩, .int .i64 0, .string ⟨#[]⟩, .int .u8 0, .string ⟨#[]⟩, .int .u8 0] 84)).heap.size by simp)).trans R0.out
      obtain ⟨⟨a0, a1, a2, a3, a4, a5, a6⟩, ⟨f0, f1, f2, f3, f4, f5, f6⟩, hy0⟩ := row7 r0
      have Q0 := Lib.hid r0
      have hbW := Lib.hid (hb0.out.trans (hb1.mono (by simp)))
      clear r0 hb1
      obtain ⟨bk, o, rfl⟩ := strs_addr hs1
      have hbk := (strs_at hs1 0 (by simp)).1
      have hc00 := at_words hs1
      have n0 := World.new_ne _ _ a0
      have n1 := World.new_ne _ _ hc00
      simp only [List.length_cons] at hc
      have hc01 := strs_2 hs1
      have hc02 := strs_3 hs1
      clear hs1
      go_wp2_with fail
      refine (KC.out _).mono ?_; rintro e w' ⟨rfl, rfl⟩
      go_wp2_with fail
      refine (N.out _).mono ?_; rintro e w' ⟨rfl, rfl⟩
      go_wp2_with fail
      go_region
      all_goals go_wp2_with fail
      all_goals
        refine (MO.out _).mono ?_; rintro e w' ⟨rfl, rfl⟩
        go_wp2_with fail
        refine (PC.out _).mono ?_; rintro e w' ⟨rfl, rfl⟩
        go_wp2_with fail
        refine bodyPost_ret ?_ rfl (ParseGives.yes P.out rfl ?_)
        · simp [results, Try.results35, go_sem, *] <;> (repeat' (first | exact rfl | apply And.intro))
        · (repeat (first | (with_reducible refine Below.setCell ?_ (by first | exact Nat.le_refl _ | (simp; done) | ((try simp); omega)) _) | (with_reducible refine Below.alloc ?_ (by first | (simp; done) | ((try simp); omega)) _) | with_reducible refine Below.drew ?_)); exact hbW.out
    · have P := Lib.hid (parseK_len_no (k := 6) rfl hn (Or.inr hl))
      clear hn hm hd hp
      have hb0 := Lib.hid ((Below.refl w.heap.size w).alloc (Nat.le_refl _) (.cells #[.int .i64 0, .string ⟨#[]⟩, .int .i64 0, .string ⟨#[]⟩, .int .u8 0, .string ⟨#[]⟩, .int .u8 0] 84))
      have R0 := Lib.hid (show (w.alloc (.cells #[.int .i64 0, .string ⟨#[]⟩, .int .i64 0, .string ⟨#[]⟩, .int .u8 0, .string ⟨#[]⟩, .int .u8 0] 84)).heap[w.heap.size]? = some (.cells #[.int .i64 0, .string ⟨#[]⟩, .int .i64 0, .string ⟨#[]⟩, .int .u8 0, .string ⟨#[]⟩, .int .u8 0] 84 (0, 0)) from heap_alloc_new _ _)
      have C := Lib.hid W
      have KC := Lib.hid (fun w => rkind_t x w hx 6 hk)
      clear W hk
      go_enter Try.func35, Try.ntmps35
      go_wp2_with fail
      refine C.out.mono ?_; rintro e w1 ⟨A, c, hc, rfl, hs1, hb1⟩
      have r0 := (hb1.block _ (show w.heap.size < (w.alloc (.cells #[.int .i64 0, .string ⟨#[]⟩, .int .i64 0, .string ⟨#[]⟩, .int .u8 0, .string ⟨#[]⟩, .int .u8 0] 84)).heap.size by simp)).trans R0.out
      obtain ⟨⟨a0, a1, a2, a3, a4, a5, a6⟩, ⟨f0, f1, f2, f3, f4, f5, f6⟩, hy0⟩ := row7 r0
      have Q0 := Lib.hid r0
      have hbW := Lib.hid (hb0.out.trans (hb1.mono (by simp)))
      clear r0 hb1
      obtain ⟨bk, o, rfl⟩ := strs_addr hs1
      have hbk := (strs_at hs1 0 (by simp)).1
      have hc00 := at_words hs1
      have n0 := World.new_ne _ _ a0
      have n1 := World.new_ne _ _ hc00
      simp only [List.length_cons] at hc
      have hc01 := strs_2 hs1
      have hc02 := strs_3 hs1
      clear hs1
      go_wp2_with fail
      refine (KC.out _).mono ?_; rintro e w' ⟨rfl, rfl⟩
      go_wp2_with fail
      refine (N.out _).mono ?_; rintro e w' ⟨rfl, rfl⟩
      go_wp2_with fail
      go_region
      all_goals go_wp2_with fail
      all_goals
        refine (MO.out _).mono ?_; rintro e w' ⟨rfl, rfl⟩
        go_wp2_with fail
        refine (PC.out _).mono ?_; rintro e w' ⟨rfl, rfl⟩
        go_wp2_with fail
        refine bodyPost_ret ?_ rfl (ParseGives.no P.out rfl ?_)
        · simp [results, Try.results35, go_sem, *]
        · (repeat (first | (with_reducible refine Below.setCell ?_ (by first | exact Nat.le_refl _ | (simp; done) | ((try simp); omega)) _) | (with_reducible refine Below.alloc ?_ (by first | (simp; done) | ((try simp); omega)) _) | with_reducible refine Below.drew ?_)); exact hbW.out
end Go.Proofs.Ytbmmcmdopekccaa
