/-
  The document's answer to layer 3's Parse, of whatever text.
-/
import Derived.Test.YtgagandecjljoaaDoorItRParseE
namespace Go.Proofs.YtgagandecjljoaaDoor
open Go.RowKit

theorem rp_all (k : Int) (s : ByteArray) (x : List UInt8) (T : List (List UInt8)) (w : World) (W : HasWords s x T w) (hk : It.kind x = k) (hx : x.length ≤ 1000000) (hT : ∀ y ∈ T, y.length ≤ 1000000) (hTl : T.length ≤ 1000000) (h0 : 0 ≤ k) (h9 : k ≤ 9) :
    Calls Tryd.prog 16 #[.string s] w (ParseGives (It.parseK k T) w) := by
  obtain rfl | rfl | rfl | rfl | rfl | rfl | rfl | rfl | rfl | rfl : k = 0 ∨ k = 1 ∨ k = 2 ∨ k = 3 ∨ k = 4 ∨ k = 5 ∨ k = 6 ∨ k = 7 ∨ k = 8 ∨ k = 9 := by omega
  · exact rp_0 s x T hTl w W hk hx
  · by_cases h : T.length = 1
    · obtain ⟨d, rfl⟩ := List.length_eq_one_iff.1 h
      exact rp_1_one s x d (hT d (by simp)) w W hk hx
    · exact rp_1_many s x T hTl h w W hk hx
  · by_cases h : T.length = 1
    · obtain ⟨d, rfl⟩ := List.length_eq_one_iff.1 h
      exact rp_2_one s x d (hT d (by simp)) w W hk hx
    · exact rp_2_many s x T hTl h w W hk hx
  · by_cases h : T.length = 1
    · obtain ⟨d, rfl⟩ := List.length_eq_one_iff.1 h
      exact rp_3_one s x d (hT d (by simp)) w W hk hx
    · exact rp_3_many s x T hTl h w W hk hx
  · by_cases h : T.length = 1
    · obtain ⟨d, rfl⟩ := List.length_eq_one_iff.1 h
      exact rp_4_one s x d (hT d (by simp)) w W hk hx
    · exact rp_4_many s x T hTl h w W hk hx
  · match T with
    | [] => exact rp_5_nil s x w W hk hx
    | m :: T =>
      have hm := hT m (by simp)
      have hTl' : T.length ≤ 1000000 := by simp at hTl; omega
      cases hn : Fig.nameB m
      · exact rp_5_bad s x m T hm hTl' hn w W hk hx
      · by_cases h : T.length = 1
        · obtain ⟨d, rfl⟩ := List.length_eq_one_iff.1 h
          exact rp_5_one s x m d hm (hT d (by simp)) hn w W hk hx
        · exact rp_5_many s x m T hm hTl' hn h w W hk hx
  · match T with
    | [] => exact rp_6_nil s x w W hk hx
    | m :: T =>
      have hm := hT m (by simp)
      have hTl' : T.length ≤ 1000000 := by simp at hTl; omega
      cases hn : Fig.nameB m
      · exact rp_6_bad s x m T hm hTl' hn w W hk hx
      · by_cases h : T.length = 1
        · obtain ⟨d, rfl⟩ := List.length_eq_one_iff.1 h
          exact rp_6_one s x m d hm (hT d (by simp)) hn w W hk hx
        · exact rp_6_many s x m T hm hTl' hn h w W hk hx
  · by_cases h : T.length = 2
    · obtain ⟨a, b, rfl⟩ : ∃ a b, T = [a, b] := by
        match T, h with
        | [a, b], _ => exact ⟨a, b, rfl⟩
      exact rp_7_one s x a b (hT a (by simp)) (hT b (by simp)) w W hk hx
    · exact rp_7_many s x T hTl h w W hk hx
  · by_cases h : T.length = 1
    · obtain ⟨a, rfl⟩ := List.length_eq_one_iff.1 h
      exact rp_8_one s x a (hT a (by simp)) w W hk hx
    · exact rp_8_many s x T hTl h w W hk hx
  · match T with
    | [] => exact rp_9_nil s x w W hk hx
    | m :: T =>
      have hm := hT m (by simp)
      have hTl' : T.length ≤ 1000000 := by simp at hTl; omega
      cases hn : Fig.nameB m
      · exact rp_9_bad s x m T hm hTl' hn w W hk hx
      · by_cases h : T.length = 1
        · obtain ⟨a, rfl⟩ := List.length_eq_one_iff.1 h
          exact rp_9_one s x m a hm (hT a (by simp)) hn w W hk hx
        · exact rp_9_many s x m T hm hTl' hn h w W hk hx

set_option maxHeartbeats 4000000 in
set_option maxRecDepth 100000 in
theorem riparse_any (s : ByteArray) (w : World) (hs : s.size ≤ 1000000) :
    Calls Tryd.prog 16 #[.string s] w (ParseGives (It.parse s.data.toList) w) := by
  have W := rwords_any s (w.alloc (.cells #[.int .i64 0, .string ⟨#[]⟩, .int .i64 0, .string ⟨#[]⟩, .int .u8 0, .string ⟨#[]⟩, .int .u8 0] 38)) hs
  cases hws : Ln.ws true s.data.toList
  · have hb0 := Lib.hid ((Below.refl w.heap.size w).alloc (Nat.le_refl _) (.cells #[.int .i64 0, .string ⟨#[]⟩, .int .i64 0, .string ⟨#[]⟩, .int .u8 0, .string ⟨#[]⟩, .int .u8 0] 38))
    have R0 := Lib.hid (show (w.alloc (.cells #[.int .i64 0, .string ⟨#[]⟩, .int .i64 0, .string ⟨#[]⟩, .int .u8 0, .string ⟨#[]⟩, .int .u8 0] 38)).heap[w.heap.size]? = some (.cells #[.int .i64 0, .string ⟨#[]⟩, .int .i64 0, .string ⟨#[]⟩, .int .u8 0, .string ⟨#[]⟩, .int .u8 0] 38 (0, 0)) from heap_alloc_new _ _)
    have P := Lib.hid (parse_none hws)
    rw [Ln.words, hws] at W
    have C := Lib.hid W
    clear W hws
    go_enter Tryd.func16, Tryd.ntmps16
    go_wp2_with fail
    refine C.out.mono ?_; rintro e w1 ⟨A, c, hc, rfl, hs1, hb1⟩
    have r0 := (hb1.block _ (show w.heap.size < (w.alloc (.cells #[.int .i64 0, .string ⟨#[]⟩, .int .i64 0, .string ⟨#[]⟩, .int .u8 0, .string ⟨#[]⟩, .int .u8 0] 38)).heap.size by simp)).trans R0.out
    obtain ⟨⟨a0, a1, a2, a3, a4, a5, a6⟩, ⟨f0, f1, f2, f3, f4, f5, f6⟩, hy0⟩ := row7 r0
    have Q0 := Lib.hid r0
    have hbW := Lib.hid (hb0.out.trans (hb1.mono (by simp)))
    clear r0 hb1
    go_wp2_with fail
    refine bodyPost_ret ?_ rfl (ParseGives.no P.out rfl ?_)
    · simp [results, Tryd.results16, go_sem, *]
    · (repeat (with_reducible refine Below.setCell ?_ (by first | exact Nat.le_refl _ | exact Nat.le_succ _) _)); exact hbW.out
  · obtain ⟨hl, hne⟩ := Ln.line_words _ hws
    have hle := words_le _ hws
    obtain ⟨x, T, hL⟩ : ∃ x T, Ln.words s.data.toList = x :: T := by
      cases hw : Ln.words s.data.toList with
      | nil => exact absurd hw hne
      | cons x T => exact ⟨x, T, rfl⟩
    rw [hL] at hle
    have hsz : s.data.toList.length = s.size := by simp
    have hTl : T.length ≤ 1000000 := by
      have := words_len s.data.toList
      rw [hL] at this; simp at this; omega
    have hkb := kind_bd x
    rw [parse_some hws hL rfl]
    rw [hL, hws] at W
    exact rp_all _ s x T w W rfl (by have := hle x (by simp); omega) (fun y hy => by have := hle y (by simp [hy]); omega) hTl hkb.1 hkb.2
end Go.Proofs.YtgagandecjljoaaDoor

