/-
  The walk of layer 3's Parse.
-/
import Derived.Test.YtgagandecjljoaaDoorItRead
namespace Go.Proofs.YtgagandecjljoaaDoor
open Go.RowKit

theorem join_mem (c : UInt8) : ∀ (D : List (List UInt8)) (r x : List UInt8), x ∈ D ++ [r] → x.length ≤ ((D.map (· ++ [c])).flatten ++ r).length
  | [], r, x, h => by simp at h; subst h; simp
  | d :: D, r, x, h => by
    rcases List.mem_cons.1 (by simpa using h : x ∈ d :: (D ++ [r])) with rfl | h2
    · simp <;> omega
    · have := join_mem c D r x h2
      simp only [List.map_cons, List.flatten_cons, List.length_append] at this ⊢; omega
theorem words_le (l : List UInt8) (h : Ln.ws true l = true) : ∀ x ∈ Ln.words l, x.length ≤ l.length := fun x hx => by
  obtain ⟨hl, hne⟩ := Ln.line_words l h
  obtain ⟨D, r, hD⟩ : ∃ D r, Ln.words l = D ++ [r] := ⟨(Ln.words l).dropLast, (Ln.words l).getLast hne, (List.dropLast_concat_getLast hne).symm⟩
  have := join_mem 32 D r x (by rw [← hD]; exact hx)
  rw [hD, Ln.line, Ln.join_snoc] at hl
  rwa [hl] at this
theorem words_len (l : List UInt8) : (Ln.words l).length ≤ l.length + 1 := by
  unfold Ln.words
  split
  · have := Ln.st_len 32 l
    simp [Ln.cut]; omega
  · simp
theorem parseK_none {k : Int} {T : List (List UInt8)} (h0 : 0 ≤ k) (h9 : k ≤ 9) (h : (T.length : Int) + 1 ≠ sizeOf k) : It.parseK k T = none := by
  obtain rfl | rfl | rfl | rfl | rfl | rfl | rfl | rfl | rfl | rfl : k = 0 ∨ k = 1 ∨ k = 2 ∨ k = 3 ∨ k = 4 ∨ k = 5 ∨ k = 6 ∨ k = 7 ∨ k = 8 ∨ k = 9 := by omega
  · rfl
  all_goals
    match T, h with
    | [], _ => rfl
    | [a], h => first | rfl | exact absurd (by simp [sizeOf]) h
    | [a, b], h => first | rfl | exact absurd (by simp [sizeOf]) h
    | _ :: _ :: _ :: _, _ => rfl
theorem kind_bd (l : List UInt8) : 0 ≤ It.kind l ∧ It.kind l ≤ 9 := by
  rcases It.kind_cases l with ⟨h, _⟩ | ⟨h1, h2, _⟩
  · omega
  · omega
/-- read, of whatever kind, with as many words as it has. -/
theorem read_any (k : Int) (h0 : 0 ≤ k) (h9 : k ≤ 9) (bk o c : Nat) (x : List UInt8) (T : List (List UInt8)) (w : World) (h : Strs w (some ⟨bk, o, none⟩) (x :: T)) (hcap : T.length + 1 ≤ c) (hx : ∀ y ∈ T, y.length ≤ 1000000) (hlen : (T.length : Int) + 1 = sizeOf k) :
    Calls Tryd.prog 33 #[.int .i64 k, .slice (some ⟨bk, o, none⟩) (T.length + 1) c] w (ReadGives (It.parseK k T) w) := by
  have hk : k = 1 ∨ k = 2 ∨ k = 3 ∨ k = 4 ∨ k = 5 ∨ k = 6 ∨ k = 7 ∨ k = 8 ∨ k = 9 := by
    rcases Classical.em (k = 0) with rfl | h
    · have : sizeOf 0 = 0 := rfl
      omega
    · omega
  have two (e : sizeOf k = 2) : ∃ d, T = [d] := by
    match T, hlen with
    | [d], _ => exact ⟨d, rfl⟩
    | [], h => rw [e] at h; exact absurd h (by simp)
    | _ :: _ :: _, h => rw [e] at h; simp at h; omega
  have three (e : sizeOf k = 3) : ∃ m d, T = [m, d] := by
    match T, hlen with
    | [m, d], _ => exact ⟨m, d, rfl⟩
    | [], h => rw [e] at h; exact absurd h (by simp)
    | [_], h => rw [e] at h; exact absurd h (by simp)
    | _ :: _ :: _ :: _, h => rw [e] at h; simp at h; omega
  have c2 (e : It.isNum k = true) (es : sizeOf k = 2) : Calls Tryd.prog 33 #[.int .i64 k, .slice (some ⟨bk, o, none⟩) (T.length + 1) c] w (ReadGives (It.parseK k T) w) := by
    obtain ⟨d, rfl⟩ := two es
    exact read_num k e bk o c x d w h (hx d (by simp))
  have c3 (e : It.isLen k = true) (es : sizeOf k = 3) : Calls Tryd.prog 33 #[.int .i64 k, .slice (some ⟨bk, o, none⟩) (T.length + 1) c] w (ReadGives (It.parseK k T) w) := by
    obtain ⟨m, d, rfl⟩ := three es
    exact read_len k e bk o c x m d w h (hx m (by simp)) (hx d (by simp))
  rcases hk with rfl | rfl | rfl | rfl | rfl | rfl | rfl | rfl | rfl
  · exact c2 rfl rfl
  · exact c2 rfl rfl
  · exact c2 rfl rfl
  · exact c2 rfl rfl
  · exact c3 rfl rfl
  · exact c3 rfl rfl
  · obtain ⟨a, b, rfl⟩ := three rfl
    exact read_7 bk o c x a b w h hcap (hx a (by simp)) (hx b (by simp))
  · obtain ⟨a, rfl⟩ := two rfl
    exact read_8 bk o c x a w h hcap (hx a (by simp))
  · obtain ⟨m, a, rfl⟩ := three rfl
    exact read_9 bk o c x m a w h hcap (hx m (by simp)) (hx a (by simp))

/-- What Parse leaves. -/
def ParseGives (p : Option It.Itm) (w : World) (e : Ending) (w' : World) : Prop :=
  ∃ y : It.Itm, e = .returned (.tuple #[.agg #[.int .i64 y.k, .string (txt y.name), .int .i64 y.n, .string (txt y.e0.n), .int .u8 y.e0.c.toNat, .string (txt y.e1.n), .int .u8 y.e1.c.toNat], .bool p.isSome]) ∧
    y = p.getD It.Itm.zero ∧ Below w.heap.size w w'
theorem ParseGives.no {p : Option It.Itm} {w w' : World} {e : Ending} (hp : p = none) (he : e = .returned (.tuple #[.agg #[.int .i64 0, .string ⟨#[]⟩, .int .i64 0, .string ⟨#[]⟩, .int .u8 0, .string ⟨#[]⟩, .int .u8 0], .bool false])) (hw : Below w.heap.size w w') : ParseGives p w e w' := by
  subst hp; exact ⟨It.Itm.zero, he, rfl, hw⟩
theorem ParseGives.yes {p : Option It.Itm} {y : It.Itm} {w w' : World} {e : Ending} (hp : p = some y) (he : e = .returned (.tuple #[.agg #[.int .i64 y.k, .string (txt y.name), .int .i64 y.n, .string (txt y.e0.n), .int .u8 y.e0.c.toNat, .string (txt y.e1.n), .int .u8 y.e1.c.toNat], .bool true])) (hw : Below w.heap.size w w') : ParseGives p w e w' := by
  subst hp; exact ⟨y, he, rfl, hw⟩
theorem kind_t (x : List UInt8) (w : World) (hs : x.length ≤ 1000000) (k : Int) (h : It.kind x = k) :
    Calls Tryd.prog 31 #[.string (txt x)] w fun e w' => e = .returned (.int .i64 k) ∧ w = w' := by
  have := kind_any (txt x) w (by rw [txt_size]; unfold maxLen; omega)
  rwa [txt_toList, h] at this
theorem parse_none {l : List UInt8} (h : Ln.ws true l = false) : It.parse l = none := by rw [It.parse, h]; rfl
theorem parse_some {l x : List UInt8} {T : List (List UInt8)} {k : Int} (h : Ln.ws true l = true) (hL : Ln.words l = x :: T) (hk : It.kind x = k) : It.parse l = It.parseK k T := by rw [It.parse, if_pos h, hL, It.parseW, hk]

theorem strs_addr {w : World} {A : Option Addr} {x : List UInt8} {T : List (List UInt8)} (h : Strs w A (x :: T)) : ∃ bk o, A = some ⟨bk, o, none⟩ := by
  obtain ⟨a, rfl, hb, hc⟩ := h 0 x rfl
  obtain ⟨bk, o, sp⟩ := a
  obtain rfl : sp = none := by simpa [Addr.add] using World.cell?_spot hc
  exact ⟨bk, o, rfl⟩
set_option maxHeartbeats 4000000 in
set_option maxRecDepth 100000 in
theorem iparse_any (s : ByteArray) (w : World) (hE : Env w) (hs : s.size ≤ 1000000) :
    Calls Tryd.prog 18 #[.string s] w (ParseGives (It.parse s.data.toList) w) := by
  have hb0 := Lib.hid ((Below.refl w.heap.size w).alloc (Nat.le_refl _) (.cells #[.int .i64 0, .string ⟨#[]⟩, .int .i64 0, .string ⟨#[]⟩, .int .u8 0, .string ⟨#[]⟩, .int .u8 0] 38))
  have hE0 := hE.below rfl hb0.out
  have W := words_any s (w.alloc (.cells #[.int .i64 0, .string ⟨#[]⟩, .int .i64 0, .string ⟨#[]⟩, .int .u8 0, .string ⟨#[]⟩, .int .u8 0] 38)) hE0.1 hs
  have R0 := Lib.hid (show (w.alloc (.cells #[.int .i64 0, .string ⟨#[]⟩, .int .i64 0, .string ⟨#[]⟩, .int .u8 0, .string ⟨#[]⟩, .int .u8 0] 38)).heap[w.heap.size]? = some (.cells #[.int .i64 0, .string ⟨#[]⟩, .int .i64 0, .string ⟨#[]⟩, .int .u8 0, .string ⟨#[]⟩, .int .u8 0] 38 (0, 0)) from heap_alloc_new _ _)
  cases hws : Ln.ws true s.data.toList
  · have P := Lib.hid (parse_none hws)
    rw [Ln.words, hws] at W
    have C := Lib.hid W
    clear W hws hE hE0
    go_enter Tryd.func18, Tryd.ntmps18
    go_wp2_with fail
    refine C.out.mono ?_; rintro e w1 ⟨A, c, hc, rfl, hs1, hb1⟩
    have r0 := (hb1.block _ (show w.heap.size < (w.alloc (.cells #[.int .i64 0, .string ⟨#[]⟩, .int .i64 0, .string ⟨#[]⟩, .int .u8 0, .string ⟨#[]⟩, .int .u8 0] 38)).heap.size by simp)).trans R0.out
    obtain ⟨⟨a0, a1, a2, a3, a4, a5, a6⟩, ⟨f0, f1, f2, f3, f4, f5, f6⟩, hy0⟩ := row7 r0
    have Q0 := Lib.hid r0
    have hbW := Lib.hid (hb0.out.trans (hb1.mono (by simp)))
    clear r0 hb1
    go_wp2_with fail
    refine bodyPost_ret ?_ rfl (ParseGives.no P.out rfl ?_)
    · simp [results, Tryd.results18, go_sem, *]
    · (repeat (with_reducible refine Below.setCell ?_ (by first | exact Nat.le_refl _ | exact Nat.le_succ _) _)); exact hbW.out
  · obtain ⟨hl, hne⟩ := Ln.line_words _ hws
    have hle := words_le _ hws
    obtain ⟨x, T, hL⟩ : ∃ x T, Ln.words s.data.toList = x :: T := by
      cases hw : Ln.words s.data.toList with
      | nil => exact absurd hw hne
      | cons x T => exact ⟨x, T, rfl⟩
    rw [hL] at hle
    have hsz : s.data.toList.length = s.size := by simp
    have hx : x.length ≤ 1000000 := by have := hle x (by simp); omega
    have hT : ∀ y ∈ T, y.length ≤ 1000000 := fun y hy => by have := hle y (by simp [hy]); omega
    have hTl : T.length ≤ 1000000 := by
      have := words_len s.data.toList
      rw [hL] at this; simp at this; omega
    obtain ⟨k, hk⟩ : ∃ k, It.kind x = k := ⟨_, rfl⟩
    have hkb := kind_bd x
    rw [hk] at hkb
    have hp := parse_some hws hL hk
    rw [hL, hws] at W
    have C := Lib.hid W
    have KC := Lib.hid (fun w => kind_t x w hx k hk)
    have SC := Lib.hid (fun w => size_any k w hkb.1 hkb.2)
    clear W hws hE hE0 hL hl hne hle hsz hk
    by_cases hlen : (T.length : Int) + 1 = sizeOf k
    · have h1 : ((T.length : Int) + 1 != sizeOf k) = false := by rw [bne_eq_false_iff_eq]; exact hlen
      have hlen' := hlen
      have HP := Lib.hid hp
      clear hp hlen
      go_enter Tryd.func18, Tryd.ntmps18
      go_wp2_with fail
      refine C.out.mono ?_; rintro e w1 ⟨A, c, hc, rfl, hs1, hb1⟩
      have r0 := (hb1.block _ (show w.heap.size < (w.alloc (.cells #[.int .i64 0, .string ⟨#[]⟩, .int .i64 0, .string ⟨#[]⟩, .int .u8 0, .string ⟨#[]⟩, .int .u8 0] 38)).heap.size by simp)).trans R0.out
      have hy0 := (row7 r0).2.2
      have Q0 := Lib.hid r0
      have hbW := Lib.hid (hb0.out.trans (hb1.mono (by simp)))
      clear r0 hb1
      obtain ⟨bk, o, rfl⟩ := strs_addr hs1
      obtain ⟨hbk, hc0⟩ := strs_at hs1 0 (by simp)
      have hc00 : w1.cell? ⟨bk, o, none⟩ = some (.string (txt x)) := hc0
      have RD := Lib.hid (read_any k hkb.1 hkb.2 bk o c x T w1 hs1 (by simpa using hc) hT hlen')
      clear hc0 hs1 hlen'
      go_wp2_with fail
      refine (KC.out _).mono ?_; rintro e w' ⟨rfl, rfl⟩
      go_wp2_with fail
      refine (SC.out _).mono ?_; rintro e w' ⟨rfl, rfl⟩
      go_wp2_with fail
      refine RD.out.mono ?_; rintro e w2 ⟨y, rfl, hyy, hb2⟩
      have r0 := (hb2.block _ hy0).trans Q0.out
      obtain ⟨⟨a0, a1, a2, a3, a4, a5, a6⟩, ⟨f0, f1, f2, f3, f4, f5, f6⟩, hy1⟩ := row7 r0
      have n0 := World.new_ne _ _ a0
      have hbX := Lib.hid (hbW.out.trans (hb2.mono hbW.out.size))
      clear r0 hb2 hc00
      cases hpk : It.parseK k T with
      | none =>
        have P := Lib.hid (HP.out.trans hpk)
        clear hpk hyy
        rw [Option.isSome_none]
        go_wp2_with fail
        refine bodyPost_ret ?_ rfl (ParseGives.no P.out rfl ?_)
        · simp [results, Tryd.results18, go_sem, *]
        · refine Below.alloc ?_ (by simp; omega) _; (repeat (with_reducible refine Below.setCell ?_ (by first | exact Nat.le_refl _ | exact Nat.le_succ _) _)); exact hbX.out
      | some z =>
        have P := Lib.hid (HP.out.trans hpk)
        obtain rfl := hyy z hpk
        clear hpk hyy
        rw [Option.isSome_some]
        go_wp2_with fail
        refine bodyPost_ret ?_ rfl (ParseGives.yes P.out rfl ?_)
        · simp [results, Tryd.results18, go_sem, *]
        · refine Below.alloc ?_ (by simp; omega) _; (repeat (with_reducible refine Below.setCell ?_ (by first | exact Nat.le_refl _ | exact Nat.le_succ _) _)); exact hbX.out
    · have P := Lib.hid (hp.trans (parseK_none hkb.1 hkb.2 hlen))
      have h1 : ((T.length : Int) + 1 != sizeOf k) = true := by rw [bne_iff_ne]; exact hlen
      clear hlen hp hkb
      go_enter Tryd.func18, Tryd.ntmps18
      go_wp2_with fail
      refine C.out.mono ?_; rintro e w1 ⟨A, c, hc, rfl, hs1, hb1⟩
      have r0 := (hb1.block _ (show w.heap.size < (w.alloc (.cells #[.int .i64 0, .string ⟨#[]⟩, .int .i64 0, .string ⟨#[]⟩, .int .u8 0, .string ⟨#[]⟩, .int .u8 0] 38)).heap.size by simp)).trans R0.out
      obtain ⟨⟨a0, a1, a2, a3, a4, a5, a6⟩, ⟨f0, f1, f2, f3, f4, f5, f6⟩, hy0⟩ := row7 r0
      have Q0 := Lib.hid r0
      have hbW := Lib.hid (hb0.out.trans (hb1.mono (by simp)))
      clear r0 hb1
      obtain ⟨bk, o, rfl⟩ := strs_addr hs1
      obtain ⟨hbk, hc0⟩ := strs_at hs1 0 (by simp)
      have hc00 : w1.cell? ⟨bk, o, none⟩ = some (.string (txt x)) := hc0
      clear hc0
      go_wp2_with fail
      refine (KC.out _).mono ?_; rintro e w' ⟨rfl, rfl⟩
      go_wp2_with fail
      refine (SC.out _).mono ?_; rintro e w' ⟨rfl, rfl⟩
      go_wp2_with fail
      refine bodyPost_ret ?_ rfl (ParseGives.no P.out rfl ?_)
      · simp [results, Tryd.results18, go_sem, *]
      · (repeat (with_reducible refine Below.setCell ?_ (by first | exact Nat.le_refl _ | exact Nat.le_succ _) _)); exact hbW.out
end Go.Proofs.YtgagandecjljoaaDoor

