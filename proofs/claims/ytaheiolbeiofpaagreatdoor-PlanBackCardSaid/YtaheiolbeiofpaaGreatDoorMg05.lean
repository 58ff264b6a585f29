/-
  Texts of this claim, merged: ItRead, ItParse.
-/
import Derived.Test.YtaheiolbeiofpaaGreatDoorMg04
/-
  The walk of layer 3's read: a line's words read as an item of their kind.
-/
namespace Go.Proofs.YtaheiolbeiofpaaGreatDoor
open Go.RowKit

/-- What read leaves: an item, and whether the words were one; if they were, it is that. -/
def ReadGives (p : Option It.Itm) (w : World) (e : Ending) (w' : World) : Prop :=
  ∃ y : It.Itm, e = .returned (.tuple #[.agg #[.int .i64 y.k, .string (txt y.name), .int .i64 y.n, .string (txt y.e0.n), .int .u8 y.e0.c.toNat, .string (txt y.e1.n), .int .u8 y.e1.c.toNat], .bool p.isSome]) ∧
    (∀ z, p = some z → y = z) ∧ Below w.heap.size w w'
theorem ReadGives.mk {p : Option It.Itm} {w w' : World} {e : Ending} (y : It.Itm) (b : Bool) (hb : p.isSome = b) (hy : ∀ z, p = some z → y = z) (he : e = .returned (.tuple #[.agg #[.int .i64 y.k, .string (txt y.name), .int .i64 y.n, .string (txt y.e0.n), .int .u8 y.e0.c.toNat, .string (txt y.e1.n), .int .u8 y.e1.c.toNat], .bool b]))
    (hw : Below w.heap.size w w') : ReadGives p w e w' := by subst hb; exact ⟨y, he, hy, hw⟩
theorem parse_t (x : List UInt8) (m : Int) (w : World) (hs : x.length ≤ 1000000) (b : Bool) (h : Fig.parseB x m = b) :
    Calls Tryz.prog 121 #[.string (txt x), .int .i64 m] w fun e w' => e = .returned (.tuple #[.int .i64 (Fig.parseN x m), .bool b]) ∧ w = w' := by
  have := parse_any (txt x) m w (by rw [txt_size]; unfold maxLen; omega)
  rwa [txt_toList, h] at this
theorem name_t (x : List UInt8) (w : World) (hs : x.length ≤ 1000000) (b : Bool) (h : Fig.nameB x = b) :
    Calls Tryz.prog 122 #[.string (txt x)] w fun e w' => e = .returned (.bool b) ∧ w = w' := by
  have := name_any (txt x) w (by rw [txt_size]; unfold maxLen; omega)
  rwa [txt_toList, h] at this
theorem strs_at {w : World} {bk o : Nat} {L : List (List UInt8)} (h : Strs w (some ⟨bk, o, none⟩) L) (k : Nat) (hk : k < L.length) : bk < w.heap.size ∧ w.cell? ⟨bk, o + k, none⟩ = some (.string (txt L[k])) := by
  obtain ⟨a', ha, hb, hc⟩ := h.cell hk
  cases ha
  rw [Go.WideShapes.add_plain, str] at hc
  exact ⟨hb, hc⟩
theorem strs_tail {w : World} {bk o : Nat} {x : List UInt8} {T : List (List UInt8)} (h : Strs w (some ⟨bk, o, none⟩) (x :: T)) : Strs w (some ⟨bk, o + 1, none⟩) T := fun k y hy => by
  obtain ⟨a', ha, hb, hc⟩ := h (k + 1) y (by simpa using hy)
  cases ha
  refine ⟨_, rfl, hb, ?_⟩
  rw [Go.WideShapes.add_plain] at hc ⊢
  rw [show o + 1 + k = o + (k + 1) by omega]
  exact hc
theorem row7 {w : World} {g : Nat} {a b c d e f i : Value} {t : TypeId} (h : w.heap[g]? = some (.cells #[a, b, c, d, e, f, i] t (0, 0))) :
    (w.cell? ⟨g, 0, none⟩ = some a ∧ w.cell? ⟨g, 1, none⟩ = some b ∧ w.cell? ⟨g, 2, none⟩ = some c ∧ w.cell? ⟨g, 3, none⟩ = some d ∧ w.cell? ⟨g, 4, none⟩ = some e ∧ w.cell? ⟨g, 5, none⟩ = some f ∧ w.cell? ⟨g, 6, none⟩ = some i) ∧
    (w.frozen? ⟨g, 0, none⟩ = false ∧ w.frozen? ⟨g, 1, none⟩ = false ∧ w.frozen? ⟨g, 2, none⟩ = false ∧ w.frozen? ⟨g, 3, none⟩ = false ∧ w.frozen? ⟨g, 4, none⟩ = false ∧ w.frozen? ⟨g, 5, none⟩ = false ∧ w.frozen? ⟨g, 6, none⟩ = false) ∧ g < w.heap.size :=
  ⟨⟨cell_of_row w g 0 _ t _ h, cell_of_row w g 1 _ t _ h, cell_of_row w g 2 _ t _ h, cell_of_row w g 3 _ t _ h, cell_of_row w g 4 _ t _ h, cell_of_row w g 5 _ t _ h, cell_of_row w g 6 _ t _ h⟩,
    ⟨frozen_of_row w g 0 _ t h, frozen_of_row w g 1 _ t h, frozen_of_row w g 2 _ t h, frozen_of_row w g 3 _ t h, frozen_of_row w g 4 _ t h, frozen_of_row w g 5 _ t h, frozen_of_row w g 6 _ t h⟩, (Array.getElem?_eq_some_iff.1 h).1⟩
theorem most_eq {k : Int} (h : It.isNum k = true) : (((k == 1) = true ∨ ((k == 1) = false ∧ (k == 2) = true)) ∧ It.most k = 1099511627776) ∨ ((k == 1) = false ∧ (k == 2) = false ∧ ((k == 3) = true ∨ ((k == 3) = false ∧ (k == 4) = true)) ∧ It.most k = 1000) := by
  have h' : k = 1 ∨ k = 2 ∨ k = 3 ∨ k = 4 := by simp [It.isNum] at h; omega
  rcases h' with rfl | rfl | rfl | rfl <;> decide
theorem below2 (w : World) (o1 o2 : Obj) : Hid (Below w.heap.size w ((w.alloc o1).alloc o2)) := Lib.hid (((Below.refl _ _).alloc (Nat.le_refl _) _).alloc (by simp) _)

theorem parseK_num {k : Int} (h : It.isNum k = true) (d : List UInt8) (m : Int) (hm : It.most k = m) (b : Bool) (hb : Fig.parseB d m = b) :
    (It.parseK k [d]).isSome = b ∧ ∀ z, It.parseK k [d] = some z → (⟨k, [], Fig.parseN d m, It.Tp.zero, It.Tp.zero⟩ : It.Itm) = z := by
  subst hm hb
  cases hp : Fig.parseB d (It.most k) <;> simp [It.parseK, h, hp]
set_option maxHeartbeats 4000000 in
set_option maxRecDepth 100000 in
theorem read_num (k : Int) (hk : It.isNum k = true) (bk o c : Nat) (x d : List UInt8) (w : World) (h : Strs w (some ⟨bk, o, none⟩) [x, d]) (hd : d.length ≤ 1000000) :
    Calls Tryz.prog 95 #[.int .i64 k, .slice (some ⟨bk, o, none⟩) 2 c] w (ReadGives (It.parseK k [d]) w) := by
  obtain ⟨hb, hc⟩ := strs_at h 1 (by simp)
  have hc1 : w.cell? ⟨bk, o + 1, none⟩ = some (.string (txt d)) := hc
  clear hc h
  rcases most_eq hk with ⟨e, hm⟩ | ⟨e1, e2, e, hm⟩
  · cases hp : Fig.parseB d 1099511627776
    all_goals
      have P := Lib.hid (parseK_num hk d _ hm _ hp)
      have C := Lib.hid (fun w => parse_t d 1099511627776 w hd _ hp)
      have hM := Lib.hid hm
      have hK := Lib.hid hk
      clear hm hp hk hd
      rcases e with e1 | ⟨e1, e2⟩
      all_goals
        have E1 := Lib.hid e1
        go_enter Tryz.func95, Tryz.ntmps95
        go_wp2_with fail
        refine (C.out _).mono ?_; rintro e w' ⟨rfl, rfl⟩
        go_wp2_with fail
        refine bodyPost_ret ?_ rfl (ReadGives.mk ⟨k, [], Fig.parseN d _, It.Tp.zero, It.Tp.zero⟩ _ P.out.1 P.out.2 rfl (((Below.refl _ _).alloc (Nat.le_refl _) _).alloc (by simp) _)); simp [results, Tryz.results95, go_sem, txt, It.Tp.zero]
  · cases hp : Fig.parseB d 1000
    all_goals
      have P := Lib.hid (parseK_num hk d _ hm _ hp)
      have C := Lib.hid (fun w => parse_t d 1000 w hd _ hp)
      have hM := Lib.hid hm
      have hK := Lib.hid hk
      clear hm hp hk hd
      rcases e with e3 | ⟨e3, e4⟩
      all_goals
        go_enter Tryz.func95, Tryz.ntmps95
        go_wp2_with fail
        refine (C.out _).mono ?_; rintro e w' ⟨rfl, rfl⟩
        go_wp2_with fail
        refine bodyPost_ret ?_ rfl (ReadGives.mk ⟨k, [], Fig.parseN d _, It.Tp.zero, It.Tp.zero⟩ _ P.out.1 P.out.2 rfl (((Below.refl _ _).alloc (Nat.le_refl _) _).alloc (by simp) _)); simp [results, Tryz.results95, go_sem, txt, It.Tp.zero]
theorem parseK_len {k : Int} (h : It.isLen k = true) (m d : List UInt8) (b : Bool) (hb : (Fig.nameB m && Fig.parseB d 1099511627776 && decide (0 < Fig.parseN d 1099511627776)) = b) :
    (It.parseK k [m, d]).isSome = b ∧ ∀ z, It.parseK k [m, d] = some z → (⟨k, m, Fig.parseN d 1099511627776, It.Tp.zero, It.Tp.zero⟩ : It.Itm) = z := by
  subst hb
  have e : It.parseK k [m, d] = if (Fig.nameB m && Fig.parseB d 1099511627776 && decide (0 < Fig.parseN d 1099511627776)) = true then some ⟨k, m, Fig.parseN d 1099511627776, It.Tp.zero, It.Tp.zero⟩ else none := by
    simp only [It.parseK, len_num h, h]; rfl
  rw [e]
  split
  · rename_i hb; rw [hb]; exact ⟨rfl, fun z hz => Option.some.inj hz⟩
  · rename_i hb; exact ⟨by simpa using hb, fun z hz => by cases hz⟩
theorem len_five {k : Int} (h : It.isLen k = true) : (k == 5) = true ∨ ((k == 5) = false ∧ (k == 6) = true) := (len_ways h).2.2.2.2
theorem len_ways3 {p n : Bool} {v : Int} : (p = false ∧ (n && p && decide (0 < v)) = false) ∨ (p = true ∧ n = false ∧ (n && p && decide (0 < v)) = false) ∨ (p = true ∧ n = true ∧ decide (0 < v) = false ∧ (n && p && decide (0 < v)) = false) ∨ (p = true ∧ n = true ∧ decide (0 < v) = true ∧ (n && p && decide (0 < v)) = true) := by
  cases p <;> cases n <;> cases decide (0 < v) <;> simp
set_option maxHeartbeats 4000000 in
set_option maxRecDepth 100000 in
theorem read_len (k : Int) (hk : It.isLen k = true) (bk o c : Nat) (x m d : List UInt8) (w : World) (h : Strs w (some ⟨bk, o, none⟩) [x, m, d]) (hm : m.length ≤ 1000000) (hd : d.length ≤ 1000000) :
    Calls Tryz.prog 95 #[.int .i64 k, .slice (some ⟨bk, o, none⟩) 3 c] w (ReadGives (It.parseK k [m, d]) w) := by
  obtain ⟨hb, hc⟩ := strs_at h 1 (by simp)
  obtain ⟨_, hc'⟩ := strs_at h 2 (by simp)
  have hc1 : w.cell? ⟨bk, o + 1, none⟩ = some (.string (txt m)) := hc
  have hc2 : w.cell? ⟨bk, o + 2, none⟩ = some (.string (txt d)) := hc'
  obtain ⟨e1, e2, e3, e4, _⟩ := len_ways hk
  have hk5 := len_five hk
  clear hc hc' h
  rcases len_ways3 (p := Fig.parseB d 1099511627776) (n := Fig.nameB m) (v := Fig.parseN d 1099511627776) with ⟨hp, ha⟩ | ⟨hp, hn, ha⟩ | ⟨hp, hn, hv, ha⟩ | ⟨hp, hn, hv, ha⟩
  · have P := Lib.hid (parseK_len hk m d _ ha)
    have C := Lib.hid (fun w => parse_t d 1099511627776 w hd _ hp)
    clear hp ha hk hd hm
    rcases hk5 with e5 | ⟨e5, e6⟩
    all_goals
      go_enter Tryz.func95, Tryz.ntmps95
      go_wp2_with fail
      refine (C.out _).mono ?_; rintro e w' ⟨rfl, rfl⟩
      go_wp2_with fail
      refine bodyPost_ret ?_ rfl (ReadGives.mk ⟨k, m, Fig.parseN d _, It.Tp.zero, It.Tp.zero⟩ _ P.out.1 P.out.2 rfl (((Below.refl _ _).alloc (Nat.le_refl _) _).alloc (by simp) _)); simp [results, Tryz.results95, go_sem, txt, It.Tp.zero]
  · have P := Lib.hid (parseK_len hk m d _ ha)
    have C := Lib.hid (fun w => parse_t d 1099511627776 w hd _ hp)
    have N := Lib.hid (fun w => name_t m w hm _ hn)
    clear hp ha hk hd hm hn
    rcases hk5 with e5 | ⟨e5, e6⟩
    all_goals
      go_enter Tryz.func95, Tryz.ntmps95
      go_wp2_with fail
      refine (C.out _).mono ?_; rintro e w' ⟨rfl, rfl⟩
      go_wp2_with fail
      refine (N.out _).mono ?_; rintro e w' ⟨rfl, rfl⟩
      go_wp2_with fail
      refine bodyPost_ret ?_ rfl (ReadGives.mk ⟨k, m, Fig.parseN d _, It.Tp.zero, It.Tp.zero⟩ _ P.out.1 P.out.2 rfl (((Below.refl _ _).alloc (Nat.le_refl _) _).alloc (by simp) _)); simp [results, Tryz.results95, go_sem, txt, It.Tp.zero]
  all_goals
    have P := Lib.hid (parseK_len hk m d _ ha)
    have C := Lib.hid (fun w => parse_t d 1099511627776 w hd _ hp)
    have N := Lib.hid (fun w => name_t m w hm _ hn)
    clear hp ha hk hd hm hn
    rcases hk5 with e5 | ⟨e5, e6⟩
    all_goals
      go_enter Tryz.func95, Tryz.ntmps95
      go_wp2_with fail
      refine (C.out _).mono ?_; rintro e w' ⟨rfl, rfl⟩
      go_wp2_with fail
      refine (N.out _).mono ?_; rintro e w' ⟨rfl, rfl⟩
      go_wp2_with fail
      refine bodyPost_ret ?_ rfl (ReadGives.mk ⟨k, m, Fig.parseN d _, It.Tp.zero, It.Tp.zero⟩ _ P.out.1 P.out.2 rfl (((Below.refl _ _).alloc (Nat.le_refl _) _).alloc (by simp) _)); simp [results, Tryz.results95, go_sem, txt, It.Tp.zero]
theorem parseK_7 (a b : List UInt8) (v : Bool) (e0 e1 : It.Tp) (hb : [a, b].all It.tipOk = v) (h : [a, b].all It.tipOk = true → e0 = It.tip ([a, b].getD 0 []) ∧ e1 = if [a, b].length = 2 then It.tip ([a, b].getD 1 []) else It.Tp.zero) :
    (It.parseK 7 [a, b]).isSome = v ∧ ∀ z, It.parseK 7 [a, b] = some z → (⟨7, [], 0, e0, e1⟩ : It.Itm) = z := by
  subst hb
  have e : It.parseK 7 [a, b] = if (It.tipOk a && It.tipOk b) = true then some ⟨7, [], 0, It.tip a, It.tip b⟩ else none := rfl
  rw [e]
  have ea : [a, b].all It.tipOk = (It.tipOk a && It.tipOk b) := by simp
  rw [ea] at h ⊢
  split
  · rename_i hb
    obtain ⟨rfl, rfl⟩ := h hb
    rw [hb]; exact ⟨rfl, fun z hz => Option.some.inj hz⟩
  · rename_i hb; exact ⟨by simpa using hb, fun z hz => by cases hz⟩
theorem parseK_8 (a : List UInt8) (v : Bool) (e0 e1 : It.Tp) (hb : [a].all It.tipOk = v) (h : [a].all It.tipOk = true → e0 = It.tip ([a].getD 0 []) ∧ e1 = if [a].length = 2 then It.tip ([a].getD 1 []) else It.Tp.zero) :
    (It.parseK 8 [a]).isSome = v ∧ ∀ z, It.parseK 8 [a] = some z → (⟨8, [], 0, e0, e1⟩ : It.Itm) = z := by
  subst hb
  have e : It.parseK 8 [a] = if It.tipOk a = true then some ⟨8, [], 0, It.tip a, It.Tp.zero⟩ else none := rfl
  rw [e]
  have ea : [a].all It.tipOk = It.tipOk a := by simp
  rw [ea] at h ⊢
  split
  · rename_i hb
    obtain ⟨rfl, rfl⟩ := h hb
    rw [hb]; exact ⟨rfl, fun z hz => Option.some.inj hz⟩
  · rename_i hb; exact ⟨by simpa using hb, fun z hz => by cases hz⟩
theorem parseK_9 (m a : List UInt8) (v n : Bool) (e0 e1 : It.Tp) (hb : [a].all It.tipOk = v) (hn : Fig.nameB m = n) (h : [a].all It.tipOk = true → e0 = It.tip ([a].getD 0 []) ∧ e1 = if [a].length = 2 then It.tip ([a].getD 1 []) else It.Tp.zero) :
    (It.parseK 9 [m, a]).isSome = (v && n) ∧ ∀ z, It.parseK 9 [m, a] = some z → (⟨9, m, 0, e0, e1⟩ : It.Itm) = z := by
  subst hb hn
  have e : It.parseK 9 [m, a] = if (Fig.nameB m && It.tipOk a) = true then some ⟨9, m, 0, It.tip a, It.Tp.zero⟩ else none := rfl
  rw [e]
  have ea : [a].all It.tipOk = It.tipOk a := by simp
  rw [ea] at h ⊢
  split
  · rename_i hb
    have hb2 := hb
    rw [Bool.and_eq_true] at hb2
    obtain ⟨rfl, rfl⟩ := h hb2.2
    rw [Bool.and_comm, hb]; exact ⟨rfl, fun z hz => Option.some.inj hz⟩
  · rename_i hb; rw [Bool.and_comm]; exact ⟨by simpa using hb, fun z hz => by cases hz⟩
set_option maxHeartbeats 4000000 in
set_option maxRecDepth 100000 in
theorem read_7 (bk o c : Nat) (x a b : List UInt8) (w : World) (h : Strs w (some ⟨bk, o, none⟩) [x, a, b]) (hcap : 3 ≤ c) (ha : a.length ≤ 1000000) (hb : b.length ≤ 1000000) :
    Calls Tryz.prog 95 #[.int .i64 7, .slice (some ⟨bk, o, none⟩) 3 c] w (ReadGives (It.parseK 7 [a, b]) w) := by
  have hb := (strs_at h 0 (by simp)).1
  have hbl := Lib.hid (((Below.refl w.heap.size w).alloc (Nat.le_refl _) (.cells #[.int .i64 0, .string ⟨#[]⟩, .int .i64 0, .string ⟨#[]⟩, .int .u8 0, .string ⟨#[]⟩, .int .u8 0] 44)).alloc (by simp) (.cells #[.int .i64 7, .string ⟨#[]⟩, .int .i64 0, .string ⟨#[]⟩, .int .u8 0, .string ⟨#[]⟩, .int .u8 0] 44))
  have T := Lib.hid (fun c => tips_any bk (o + 1) c [a, b] ((w.alloc (.cells #[.int .i64 0, .string ⟨#[]⟩, .int .i64 0, .string ⟨#[]⟩, .int .u8 0, .string ⟨#[]⟩, .int .u8 0] 44)).alloc (.cells #[.int .i64 7, .string ⟨#[]⟩, .int .i64 0, .string ⟨#[]⟩, .int .u8 0, .string ⟨#[]⟩, .int .u8 0] 44)) ((strs_tail h).below rfl hbl.out) (by simp) (by intro y hy; simp at hy; rcases hy with rfl | rfl <;> assumption))
  have hs := Lib.hid (show w.heap.size ≤ ((w.alloc (.cells #[.int .i64 0, .string ⟨#[]⟩, .int .i64 0, .string ⟨#[]⟩, .int .u8 0, .string ⟨#[]⟩, .int .u8 0] 44)).alloc (.cells #[.int .i64 7, .string ⟨#[]⟩, .int .i64 0, .string ⟨#[]⟩, .int .u8 0, .string ⟨#[]⟩, .int .u8 0] 44)).heap.size by simp; omega)
  have R0 := Lib.hid (show ((w.alloc (.cells #[.int .i64 0, .string ⟨#[]⟩, .int .i64 0, .string ⟨#[]⟩, .int .u8 0, .string ⟨#[]⟩, .int .u8 0] 44)).alloc (.cells #[.int .i64 7, .string ⟨#[]⟩, .int .i64 0, .string ⟨#[]⟩, .int .u8 0, .string ⟨#[]⟩, .int .u8 0] 44)).heap[w.heap.size]? = some (.cells #[.int .i64 0, .string ⟨#[]⟩, .int .i64 0, .string ⟨#[]⟩, .int .u8 0, .string ⟨#[]⟩, .int .u8 0] 44 (0, 0)) from (row_alloc (by simp) _).trans (heap_alloc_new _ _))
  have R1 := Lib.hid (show ((w.alloc (.cells #[.int .i64 0, .string ⟨#[]⟩, .int .i64 0, .string ⟨#[]⟩, .int .u8 0, .string ⟨#[]⟩, .int .u8 0] 44)).alloc (.cells #[.int .i64 7, .string ⟨#[]⟩, .int .i64 0, .string ⟨#[]⟩, .int .u8 0, .string ⟨#[]⟩, .int .u8 0] 44)).heap[w.heap.size + 1]? = some (.cells #[.int .i64 7, .string ⟨#[]⟩, .int .i64 0, .string ⟨#[]⟩, .int .u8 0, .string ⟨#[]⟩, .int .u8 0] 44 (0, 0)) from by
    have := heap_alloc_new (w.alloc (.cells #[.int .i64 0, .string ⟨#[]⟩, .int .i64 0, .string ⟨#[]⟩, .int .u8 0, .string ⟨#[]⟩, .int .u8 0] 44)) (.cells #[.int .i64 7, .string ⟨#[]⟩, .int .i64 0, .string ⟨#[]⟩, .int .u8 0, .string ⟨#[]⟩, .int .u8 0] 44)
    rwa [show (w.alloc (.cells #[.int .i64 0, .string ⟨#[]⟩, .int .i64 0, .string ⟨#[]⟩, .int .u8 0, .string ⟨#[]⟩, .int .u8 0] 44)).heap.size = w.heap.size + 1 by simp] at this)
  clear h
  go_enter Tryz.func95, Tryz.ntmps95
  go_wp2_with fail
  refine (T.out _).mono ?_; rintro e w2 ⟨e0, e1, rfl, he, hb2⟩
  have P := Lib.hid (parseK_7 a b _ e0 e1 rfl he)
  have hz0 : w.heap.size < ((w.alloc (.cells #[.int .i64 0, .string ⟨#[]⟩, .int .i64 0, .string ⟨#[]⟩, .int .u8 0, .string ⟨#[]⟩, .int .u8 0] 44)).alloc (.cells #[.int .i64 7, .string ⟨#[]⟩, .int .i64 0, .string ⟨#[]⟩, .int .u8 0, .string ⟨#[]⟩, .int .u8 0] 44)).heap.size := by simp; omega
  have hz1 : w.heap.size + 1 < ((w.alloc (.cells #[.int .i64 0, .string ⟨#[]⟩, .int .i64 0, .string ⟨#[]⟩, .int .u8 0, .string ⟨#[]⟩, .int .u8 0] 44)).alloc (.cells #[.int .i64 7, .string ⟨#[]⟩, .int .i64 0, .string ⟨#[]⟩, .int .u8 0, .string ⟨#[]⟩, .int .u8 0] 44)).heap.size := by simp
  have r0 := (hb2.block _ hz0).trans R0.out
  have r1 := (hb2.block _ hz1).trans R1.out
  obtain ⟨⟨a0, a1, a2, a3, a4, a5, a6⟩, ⟨f0, f1, f2, f3, f4, f5, f6⟩, hy0⟩ := row7 r0
  obtain ⟨⟨b0, b1, b2, b3, b4, b5, b6⟩, ⟨g0, g1, g2, g3, g4, g5, g6⟩, hy1⟩ := row7 r1
  have hbF := Lib.hid (hbl.out.trans (hb2.mono hs.out))
  clear r0 r1 he hb2 hz0 hz1 hb
  cases hv : [a, b].all It.tipOk
  all_goals
    rw [hv] at P
    clear hv
    go_wp2_with fail
    refine bodyPost_ret ?_ rfl (ReadGives.mk ⟨7, [], 0, e0, e1⟩ _ P.out.1 P.out.2 rfl ?_)
    · simp [results, Tryz.results95, go_sem, txt, *]
    · (repeat (refine Below.setCell ?_ (by first | exact Nat.le_refl _ | exact Nat.le_succ _) _)); exact hbF.out
set_option maxHeartbeats 4000000 in
set_option maxRecDepth 100000 in
theorem read_8 (bk o c : Nat) (x a : List UInt8) (w : World) (h : Strs w (some ⟨bk, o, none⟩) [x, a]) (hcap : 2 ≤ c) (ha : a.length ≤ 1000000) :
    Calls Tryz.prog 95 #[.int .i64 8, .slice (some ⟨bk, o, none⟩) 2 c] w (ReadGives (It.parseK 8 [a]) w) := by
  have hb := (strs_at h 0 (by simp)).1
  have hbl := Lib.hid (((Below.refl w.heap.size w).alloc (Nat.le_refl _) (.cells #[.int .i64 0, .string ⟨#[]⟩, .int .i64 0, .string ⟨#[]⟩, .int .u8 0, .string ⟨#[]⟩, .int .u8 0] 44)).alloc (by simp) (.cells #[.int .i64 8, .string ⟨#[]⟩, .int .i64 0, .string ⟨#[]⟩, .int .u8 0, .string ⟨#[]⟩, .int .u8 0] 44))
  have T := Lib.hid (fun c => tips_any bk (o + 1) c [a] ((w.alloc (.cells #[.int .i64 0, .string ⟨#[]⟩, .int .i64 0, .string ⟨#[]⟩, .int .u8 0, .string ⟨#[]⟩, .int .u8 0] 44)).alloc (.cells #[.int .i64 8, .string ⟨#[]⟩, .int .i64 0, .string ⟨#[]⟩, .int .u8 0, .string ⟨#[]⟩, .int .u8 0] 44)) ((strs_tail h).below rfl hbl.out) (by simp) (by intro y hy; simp at hy; subst hy; assumption))
  have hs := Lib.hid (show w.heap.size ≤ ((w.alloc (.cells #[.int .i64 0, .string ⟨#[]⟩, .int .i64 0, .string ⟨#[]⟩, .int .u8 0, .string ⟨#[]⟩, .int .u8 0] 44)).alloc (.cells #[.int .i64 8, .string ⟨#[]⟩, .int .i64 0, .string ⟨#[]⟩, .int .u8 0, .string ⟨#[]⟩, .int .u8 0] 44)).heap.size by simp; omega)
  have R0 := Lib.hid (show ((w.alloc (.cells #[.int .i64 0, .string ⟨#[]⟩, .int .i64 0, .string ⟨#[]⟩, .int .u8 0, .string ⟨#[]⟩, .int .u8 0] 44)).alloc (.cells #[.int .i64 8, .string ⟨#[]⟩, .int .i64 0, .string ⟨#[]⟩, .int .u8 0, .string ⟨#[]⟩, .int .u8 0] 44)).heap[w.heap.size]? = some (.cells #[.int .i64 0, .string ⟨#[]⟩, .int .i64 0, .string ⟨#[]⟩, .int .u8 0, .string ⟨#[]⟩, .int .u8 0] 44 (0, 0)) from (row_alloc (by simp) _).trans (heap_alloc_new _ _))
  have R1 := Lib.hid (show ((w.alloc (.cells #[.int .i64 0, .string ⟨#[]⟩, .int .i64 0, .string ⟨#[]⟩, .int .u8 0, .string ⟨#[]⟩, .int .u8 0] 44)).alloc (.cells #[.int .i64 8, .string ⟨#[]⟩, .int .i64 0, .string ⟨#[]⟩, .int .u8 0, .string ⟨#[]⟩, .int .u8 0] 44)).heap[w.heap.size + 1]? = some (.cells #[.int .i64 8, .string ⟨#[]⟩, .int .i64 0, .string ⟨#[]⟩, .int .u8 0, .string ⟨#[]⟩, .int .u8 0] 44 (0, 0)) from by
    have := heap_alloc_new (w.alloc (.cells #[.int .i64 0, .string ⟨#[]⟩, .int .i64 0, .string ⟨#[]⟩, .int .u8 0, .string ⟨#[]⟩, .int .u8 0] 44)) (.cells #[.int .i64 8, .string ⟨#[]⟩, .int .i64 0, .string ⟨#[]⟩, .int .u8 0, .string ⟨#[]⟩, .int .u8 0] 44)
    rwa [show (w.alloc (.cells #[.int .i64 0, .string ⟨#[]⟩, .int .i64 0, .string ⟨#[]⟩, .int .u8 0, .string ⟨#[]⟩, .int .u8 0] 44)).heap.size = w.heap.size + 1 by simp] at this)
  clear h
  go_enter Tryz.func95, Tryz.ntmps95
  go_wp2_with fail
  refine (T.out _).mono ?_; rintro e w2 ⟨e0, e1, rfl, he, hb2⟩
  have P := Lib.hid (parseK_8 a _ e0 e1 rfl he)
  have hz0 : w.heap.size < ((w.alloc (.cells #[.int .i64 0, .string ⟨#[]⟩, .int .i64 0, .string ⟨#[]⟩, .int .u8 0, .string ⟨#[]⟩, .int .u8 0] 44)).alloc (.cells #[.int .i64 8, .string ⟨#[]⟩, .int .i64 0, .string ⟨#[]⟩, .int .u8 0, .string ⟨#[]⟩, .int .u8 0] 44)).heap.size := by simp; omega
  have hz1 : w.heap.size + 1 < ((w.alloc (.cells #[.int .i64 0, .string ⟨#[]⟩, .int .i64 0, .string ⟨#[]⟩, .int .u8 0, .string ⟨#[]⟩, .int .u8 0] 44)).alloc (.cells #[.int .i64 8, .string ⟨#[]⟩, .int .i64 0, .string ⟨#[]⟩, .int .u8 0, .string ⟨#[]⟩, .int .u8 0] 44)).heap.size := by simp
  have r0 := (hb2.block _ hz0).trans R0.out
  have r1 := (hb2.block _ hz1).trans R1.out
  obtain ⟨⟨a0, a1, a2, a3, a4, a5, a6⟩, ⟨f0, f1, f2, f3, f4, f5, f6⟩, hy0⟩ := row7 r0
  obtain ⟨⟨b0, b1, b2, b3, b4, b5, b6⟩, ⟨g0, g1, g2, g3, g4, g5, g6⟩, hy1⟩ := row7 r1
  have hbF := Lib.hid (hbl.out.trans (hb2.mono hs.out))
  clear r0 r1 he hb2 hz0 hz1 hb
  cases hv : [a].all It.tipOk
  all_goals
    rw [hv] at P
    clear hv
    go_wp2_with fail
    refine bodyPost_ret ?_ rfl (ReadGives.mk ⟨8, [], 0, e0, e1⟩ _ P.out.1 P.out.2 rfl ?_)
    · simp [results, Tryz.results95, go_sem, txt, *]
    · (repeat (refine Below.setCell ?_ (by first | exact Nat.le_refl _ | exact Nat.le_succ _) _)); exact hbF.out
set_option maxHeartbeats 4000000 in
set_option maxRecDepth 100000 in
theorem read_9 (bk o c : Nat) (x m a : List UInt8) (w : World) (h : Strs w (some ⟨bk, o, none⟩) [x, m, a]) (hcap : 3 ≤ c) (hm : m.length ≤ 1000000) (ha : a.length ≤ 1000000) :
    Calls Tryz.prog 95 #[.int .i64 9, .slice (some ⟨bk, o, none⟩) 3 c] w (ReadGives (It.parseK 9 [m, a]) w) := by
  have hb := (strs_at h 0 (by simp)).1
  obtain ⟨_, hc⟩ := strs_at h 1 (by simp)
  have hc1 : w.cell? ⟨bk, o + 1, none⟩ = some (.string (txt m)) := hc
  have hbl := Lib.hid (((Below.refl w.heap.size w).alloc (Nat.le_refl _) (.cells #[.int .i64 0, .string ⟨#[]⟩, .int .i64 0, .string ⟨#[]⟩, .int .u8 0, .string ⟨#[]⟩, .int .u8 0] 44)).alloc (by simp) (.cells #[.int .i64 9, .string (txt m), .int .i64 0, .string ⟨#[]⟩, .int .u8 0, .string ⟨#[]⟩, .int .u8 0] 44))
  have T := Lib.hid (fun c => tips_any bk (o + 2) c [a] ((w.alloc (.cells #[.int .i64 0, .string ⟨#[]⟩, .int .i64 0, .string ⟨#[]⟩, .int .u8 0, .string ⟨#[]⟩, .int .u8 0] 44)).alloc (.cells #[.int .i64 9, .string (txt m), .int .i64 0, .string ⟨#[]⟩, .int .u8 0, .string ⟨#[]⟩, .int .u8 0] 44)) ((strs_tail (strs_tail h)).below rfl hbl.out) (by simp) (by intro y hy; simp at hy; subst hy; assumption))
  have hs := Lib.hid (show w.heap.size ≤ ((w.alloc (.cells #[.int .i64 0, .string ⟨#[]⟩, .int .i64 0, .string ⟨#[]⟩, .int .u8 0, .string ⟨#[]⟩, .int .u8 0] 44)).alloc (.cells #[.int .i64 9, .string (txt m), .int .i64 0, .string ⟨#[]⟩, .int .u8 0, .string ⟨#[]⟩, .int .u8 0] 44)).heap.size by simp; omega)
  have R0 := Lib.hid (show ((w.alloc (.cells #[.int .i64 0, .string ⟨#[]⟩, .int .i64 0, .string ⟨#[]⟩, .int .u8 0, .string ⟨#[]⟩, .int .u8 0] 44)).alloc (.cells #[.int .i64 9, .string (txt m), .int .i64 0, .string ⟨#[]⟩, .int .u8 0, .string ⟨#[]⟩, .int .u8 0] 44)).heap[w.heap.size]? = some (.cells #[.int .i64 0, .string ⟨#[]⟩, .int .i64 0, .string ⟨#[]⟩, .int .u8 0, .string ⟨#[]⟩, .int .u8 0] 44 (0, 0)) from (row_alloc (by simp) _).trans (heap_alloc_new _ _))
  have R1 := Lib.hid (show ((w.alloc (.cells #[.int .i64 0, .string ⟨#[]⟩, .int .i64 0, .string ⟨#[]⟩, .int .u8 0, .string ⟨#[]⟩, .int .u8 0] 44)).alloc (.cells #[.int .i64 9, .string (txt m), .int .i64 0, .string ⟨#[]⟩, .int .u8 0, .string ⟨#[]⟩, .int .u8 0] 44)).heap[w.heap.size + 1]? = some (.cells #[.int .i64 9, .string (txt m), .int .i64 0, .string ⟨#[]⟩, .int .u8 0, .string ⟨#[]⟩, .int .u8 0] 44 (0, 0)) from by
    have := heap_alloc_new (w.alloc (.cells #[.int .i64 0, .string ⟨#[]⟩, .int .i64 0, .string ⟨#[]⟩, .int .u8 0, .string ⟨#[]⟩, .int .u8 0] 44)) (.cells #[.int .i64 9, .string (txt m), .int .i64 0, .string ⟨#[]⟩, .int .u8 0, .string ⟨#[]⟩, .int .u8 0] 44)
    rwa [show (w.alloc (.cells #[.int .i64 0, .string ⟨#[]⟩, .int .i64 0, .string ⟨#[]⟩, .int .u8 0, .string ⟨#[]⟩, .int .u8 0] 44)).heap.size = w.heap.size + 1 by simp] at this)
  cases hn : Fig.nameB m
  all_goals
    have N := Lib.hid (fun w => name_t m w hm _ hn)
    have HN := Lib.hid hn
    clear hn hc h
    go_enter Tryz.func95, Tryz.ntmps95
    go_wp2_with fail
    refine (T.out _).mono ?_; rintro e w2 ⟨e0, e1, rfl, he, hb2⟩
    have P := Lib.hid (parseK_9 m a _ _ e0 e1 rfl HN.out he)
    have hz0 : w.heap.size < ((w.alloc (.cells #[.int .i64 0, .string ⟨#[]⟩, .int .i64 0, .string ⟨#[]⟩, .int .u8 0, .string ⟨#[]⟩, .int .u8 0] 44)).alloc (.cells #[.int .i64 9, .string (txt m), .int .i64 0, .string ⟨#[]⟩, .int .u8 0, .string ⟨#[]⟩, .int .u8 0] 44)).heap.size := by simp; omega
    have hz1 : w.heap.size + 1 < ((w.alloc (.cells #[.int .i64 0, .string ⟨#[]⟩, .int .i64 0, .string ⟨#[]⟩, .int .u8 0, .string ⟨#[]⟩, .int .u8 0] 44)).alloc (.cells #[.int .i64 9, .string (txt m), .int .i64 0, .string ⟨#[]⟩, .int .u8 0, .string ⟨#[]⟩, .int .u8 0] 44)).heap.size := by simp
    have r0 := (hb2.block _ hz0).trans R0.out
    have r1 := (hb2.block _ hz1).trans R1.out
    obtain ⟨⟨a0, a1, a2, a3, a4, a5, a6⟩, ⟨f0, f1, f2, f3, f4, f5, f6⟩, hy0⟩ := row7 r0
    obtain ⟨⟨b0, b1, b2, b3, b4, b5, b6⟩, ⟨g0, g1, g2, g3, g4, g5, g6⟩, hy1⟩ := row7 r1
    have hbF := Lib.hid (hbl.out.trans (hb2.mono hs.out))
    clear r0 r1 he hb2 hz0 hz1 hc1 hb
    cases hv : [a].all It.tipOk
    · rw [hv] at P
      clear hv
      go_wp2_with fail
      refine bodyPost_ret ?_ rfl (ReadGives.mk ⟨9, m, 0, e0, e1⟩ _ P.out.1 P.out.2 rfl ?_)
      · simp [results, Tryz.results95, go_sem, txt, *]
      · (repeat (refine Below.setCell ?_ (by first | exact Nat.le_refl _ | exact Nat.le_succ _) _)); exact hbF.out
    · rw [hv] at P
      clear hv
      go_wp2_with fail
      refine (N.out _).mono ?_; rintro e w' ⟨rfl, rfl⟩
      go_wp2_with fail
      refine bodyPost_ret ?_ rfl (ReadGives.mk ⟨9, m, 0, e0, e1⟩ _ P.out.1 P.out.2 rfl ?_)
      · simp [results, Tryz.results95, go_sem, txt, *]
      · (repeat (refine Below.setCell ?_ (by first | exact Nat.le_refl _ | exact Nat.le_succ _) _)); exact hbF.out
end Go.Proofs.YtaheiolbeiofpaaGreatDoor
/-
  The walk of layer 3's Parse.
-/
namespace Go.Proofs.YtaheiolbeiofpaaGreatDoor
open Go.RowKit

theorem join_mem (c : UInt8) : ∀ (D : List (List UInt8)) (r x : List UInt8), x ∈ D ++ [r] → x.length ≤ ((D.map (· ++ [c])).flatten ++ r).length
  | [], r, x, h => by simp at h; subst h; simp
  | d :: D, r, x, h => by
    rcases List.mem_cons.1 (by simpa using h : x ∈ d :: (D ++ [r])) with rfl | h2
    · simp <;> omega
    · have := join_mem c D r x h2
      simp only [List.map_cons, List.flatten_cons, List.length_append] at this ⊢; omega
theorem words_le (l : List UInt8) (h : Ln.ws true l = true) : ∀ x ∈ Ln.words l, x.length ≤ l.length := fun x hx => by
  obtain ⟨hl, hne⟩ := Ln.line_words l h
  obtain ⟨D, r, hD⟩ : ∃ D r, Ln.words l = D ++ [r] := ⟨(Ln.words l).dropLast, (Ln.words l).getLast hne, (List.dropLast_concat_getLast hne).symm⟩
  have := join_mem 32 D r x (by rw [← hD]; exact hx)
  rw [hD, Ln.line, Ln.join_snoc] at hl
  rwa [hl] at this
theorem words_len (l : List UInt8) : (Ln.words l).length ≤ l.length + 1 := by
  unfold Ln.words
  split
  · have := Ln.st_len 32 l
    simp [Ln.cut]; omega
  · simp
theorem parseK_none {k : Int} {T : List (List UInt8)} (h0 : 0 ≤ k) (h9 : k ≤ 9) (h : (T.length : Int) + 1 ≠ sizeOf k) : It.parseK k T = none := by
  obtain rfl | rfl | rfl | rfl | rfl | rfl | rfl | rfl | rfl | rfl : k = 0 ∨ k = 1 ∨ k = 2 ∨ k = 3 ∨ k = 4 ∨ k = 5 ∨ k = 6 ∨ k = 7 ∨ k = 8 ∨ k = 9 := by omega
  · rfl
  all_goals
    match T, h with
    | [], _ => rfl
    | [a], h => first | rfl | exact absurd (by simp [sizeOf]) h
    | [a, b], h => first | rfl | exact absurd (by simp [sizeOf]) h
    | _ :: _ :: _ :: _, _ => rfl
theorem kind_bd (l : List UInt8) : 0 ≤ It.kind l ∧ It.kind l ≤ 9 := by
  rcases It.kind_cases l with ⟨h, _⟩ | ⟨h1, h2, _⟩
  · omega
  · omega
/-- read, of whatever kind, with as many words as it has. -/
theorem read_any (k : Int) (h0 : 0 ≤ k) (h9 : k ≤ 9) (bk o c : Nat) (x : List UInt8) (T : List (List UInt8)) (w : World) (h : Strs w (some ⟨bk, o, none⟩) (x :: T)) (hcap : T.length + 1 ≤ c) (hx : ∀ y ∈ T, y.length ≤ 1000000) (hlen : (T.length : Int) + 1 = sizeOf k) :
    Calls Tryz.prog 95 #[.int .i64 k, .slice (some ⟨bk, o, none⟩) (T.length + 1) c] w (ReadGives (It.parseK k T) w) := by
  have hk : k = 1 ∨ k = 2 ∨ k = 3 ∨ k = 4 ∨ k = 5 ∨ k = 6 ∨ k = 7 ∨ k = 8 ∨ k = 9 := by
    rcases Classical.em (k = 0) with rfl | h
    · have : sizeOf 0 = 0 := rfl
      omega
    · omega
  have two (e : sizeOf k = 2) : ∃ d, T = [d] := by
    match T, hlen with
    | [d], _ => exact ⟨d, rfl⟩
    | [], h => rw [e] at h; exact absurd h (by simp)
    | _ :: _ :: _, h => rw [e] at h; simp at h; omega
  have three (e : sizeOf k = 3) : ∃ m d, T = [m, d] := by
    match T, hlen with
    | [m, d], _ => exact ⟨m, d, rfl⟩
    | [], h => rw [e] at h; exact absurd h (by simp)
    | [_], h => rw [e] at h; exact absurd h (by simp)
    | _ :: _ :: _ :: _, h => rw [e] at h; simp at h; omega
  have c2 (e : It.isNum k = true) (es : sizeOf k = 2) : Calls Tryz.prog 95 #[.int .i64 k, .slice (some ⟨bk, o, none⟩) (T.length + 1) c] w (ReadGives (It.parseK k T) w) := by
    obtain ⟨d, rfl⟩ := two es
    exact read_num k e bk o c x d w h (hx d (by simp))
  have c3 (e : It.isLen k = true) (es : sizeOf k = 3) : Calls Tryz.prog 95 #[.int .i64 k, .slice (some ⟨bk, o, none⟩) (T.length + 1) c] w (ReadGives (It.parseK k T) w) := by
    obtain ⟨m, d, rfl⟩ := three es
    exact read_len k e bk o c x m d w h (hx m (by simp)) (hx d (by simp))
  rcases hk with rfl | rfl | rfl | rfl | rfl | rfl | rfl | rfl | rfl
  · exact c2 rfl rfl
  · exact c2 rfl rfl
  · exact c2 rfl rfl
  · exact c2 rfl rfl
  · exact c3 rfl rfl
  · exact c3 rfl rfl
  · obtain ⟨a, b, rfl⟩ := three rfl
    exact read_7 bk o c x a b w h hcap (hx a (by simp)) (hx b (by simp))
  · obtain ⟨a, rfl⟩ := two rfl
    exact read_8 bk o c x a w h hcap (hx a (by simp))
  · obtain ⟨m, a, rfl⟩ := three rfl
    exact read_9 bk o c x m a w h hcap (hx m (by simp)) (hx a (by simp))

/-- What Parse leaves. -/
def ParseGives (p : Option It.Itm) (w : World) (e : Ending) (w' : World) : Prop :=
  ∃ y : It.Itm, e = .returned (.tuple #[.agg #[.int .i64 y.k, .string (txt y.name), .int .i64 y.n, .string (txt y.e0.n), .int .u8 y.e0.c.toNat, .string (txt y.e1.n), .int .u8 y.e1.c.toNat], .bool p.isSome]) ∧
    y = p.getD It.Itm.zero ∧ Below w.heap.size w w'
theorem ParseGives.no {p : Option It.Itm} {w w' : World} {e : Ending} (hp : p = none) (he : e = .returned (.tuple #[.agg #[.int .i64 0, .string ⟨#[]⟩, .int .i64 0, .string ⟨#[]⟩, .int .u8 0, .string ⟨#[]⟩, .int .u8 0], .bool false])) (hw : Below w.heap.size w w') : ParseGives p w e w' := by
  subst hp; exact ⟨It.Itm.zero, he, rfl, hw⟩
theorem ParseGives.yes {p : Option It.Itm} {y : It.Itm} {w w' : World} {e : Ending} (hp : p = some y) (he : e = .returned (.tuple #[.agg #[.int .i64 y.k, .string (txt y.name), .int .i64 y.n, .string (txt y.e0.n), .int .u8 y.e0.c.toNat, .string (txt y.e1.n), .int .u8 y.e1.c.toNat], .bool true])) (hw : Below w.heap.size w w') : ParseGives p w e w' := by
  subst hp; exact ⟨y, he, rfl, hw⟩
theorem kind_t (x : List UInt8) (w : World) (hs : x.length ≤ 1000000) (k : Int) (h : It.kind x = k) :
    Calls Tryz.prog 93 #[.string (txt x)] w fun e w' => e = .returned (.int .i64 k) ∧ w = w' := by
  have := kind_any (txt x) w (by rw [txt_size]; unfold maxLen; omega)
  rwa [txt_toList, h] at this
theorem parse_none {l : List UInt8} (h : Ln.ws true l = false) : It.parse l = none := by rw [It.parse, h]; rfl
theorem parse_some {l x : List UInt8} {T : List (List UInt8)} {k : Int} (h : Ln.ws true l = true) (hL : Ln.words l = x :: T) (hk : It.kind x = k) : It.parse l = It.parseK k T := by rw [It.parse, if_pos h, hL, It.parseW, hk]

theorem strs_addr {w : World} {A : Option Addr} {x : List UInt8} {T : List (List UInt8)} (h : Strs w A (x :: T)) : ∃ bk o, A = some ⟨bk, o, none⟩ := by
  obtain ⟨a, rfl, hb, hc⟩ := h 0 x rfl
  obtain ⟨bk, o, sp⟩ := a
  obtain rfl : sp = none := by simpa [Addr.add] using World.cell?_spot hc
  exact ⟨bk, o, rfl⟩
set_option maxHeartbeats 4000000 in
set_option maxRecDepth 100000 in
theorem iparse_any (s : ByteArray) (w : World) (hE : Env w) (hs : s.size ≤ 1000000) :
    Calls Tryz.prog 76 #[.string s] w (ParseGives (It.parse s.data.toList) w) := by
  have hb0 := Lib.hid ((Below.refl w.heap.size w).alloc (Nat.le_refl _) (.cells #[.int .i64 0, .string ⟨#[]⟩, .int .i64 0, .string ⟨#[]⟩, .int .u8 0, .string ⟨#[]⟩, .int .u8 0] 44))
  have hE0 := hE.below rfl hb0.out
  have W := words_any s (w.alloc (.cells #[.int .i64 0, .string ⟨#[]⟩, .int .i64 0, .string ⟨#[]⟩, .int .u8 0, .string ⟨#[]⟩, .int .u8 0] 44)) hE0.1 hs
  have R0 := Lib.hid (show (w.alloc (.cells #[.int .i64 0, .string ⟨#[]⟩, .int .i64 0, .string ⟨#[]⟩, .int .u8 0, .string ⟨#[]⟩, .int .u8 0] 44)).heap[w.heap.size]? = some (.cells #[.int .i64 0, .string ⟨#[]⟩, .int .i64 0, .string ⟨#[]⟩, .int .u8 0, .string ⟨#[]⟩, .int .u8 0] 44 (0, 0)) from heap_alloc_new _ _)
  cases hws : Ln.ws true s.data.toList
  · have P := Lib.hid (parse_none hws)
    rw [Ln.words, hws] at W
    have C := Lib.hid W
    clear W hws hE hE0
    go_enter Tryz.func76, Tryz.ntmps76
    go_wp2_with fail
    refine C.out.mono ?_; rintro e w1 ⟨A, c, hc, rfl, hs1, hb1⟩
    have r0 := (hb1.block _ (show w.heap.size < (w.alloc (.cells #[.int .i64 0, .string ⟨#[]⟩, .int .i64 0, .string ⟨#[]⟩, .int .u8 0, .string ⟨#[]⟩, .int .u8 0] 44)).heap.size by simp)).trans R0.out
    obtain ⟨⟨a0, a1, a2, a3, a4, a5, a6⟩, ⟨f0, f1, f2, f3, f4, f5, f6⟩, hy0⟩ := row7 r0
    have Q0 := Lib.hid r0
    have hbW := Lib.hid (hb0.out.trans (hb1.mono (by simp)))
    clear r0 hb1
    go_wp2_with fail
    refine bodyPost_ret ?_ rfl (ParseGives.no P.out rfl ?_)
    · simp [results, Tryz.results76, go_sem, *]
    · (repeat (with_reducible refine Below.setCell ?_ (by first | exact Nat.le_refl _ | exact Nat.le_succ _) _)); exact hbW.out
  · obtain ⟨hl, hne⟩ := Ln.line_words _ hws
    have hle := words_le _ hws
    obtain ⟨x, T, hL⟩ : ∃ x T, Ln.words s.data.toList = x :: T := by
      cases hw : Ln.words s.data.toList with
      | nil => exact absurd hw hne
      | cons x T => exact ⟨x, T, rfl⟩
    rw [hL] at hle
    have hsz : s.data.toList.length = s.size := by simp
    have hx : x.length ≤ 1000000 := by have := hle x (by simp); omega
    have hT : ∀ y ∈ T, y.length ≤ 1000000 := fun y hy => by have := hle y (by simp [hy]); omega
    have hTl : T.length ≤ 1000000 := by
      have := words_len s.data.toList
      rw [hL] at this; simp at this; omega
    obtain ⟨k, hk⟩ : ∃ k, It.kind x = k := ⟨_, rfl⟩
    have hkb := kind_bd x
    rw [hk] at hkb
    have hp := parse_some hws hL hk
    rw [hL, hws] at W
    have C := Lib.hid W
    have KC := Lib.hid (fun w => kind_t x w hx k hk)
    have SC := Lib.hid (fun w => size_any k w hkb.1 hkb.2)
    clear W hws hE hE0 hL hl hne hle hsz hk
    by_cases hlen : (T.length : Int) + 1 = sizeOf k
    · have h1 : ((T.length : Int) + 1 != sizeOf k) = false := by rw [bne_eq_false_iff_eq]; exact hlen
      have hlen' := hlen
      have HP := Lib.hid hp
      clear hp hlen
      go_enter Tryz.func76, Tryz.ntmps76
      go_wp2_with fail
      refine C.out.mono ?_; rintro e w1 ⟨A, c, hc, rfl, hs1, hb1⟩
      have r0 := (hb1.block _ (show w.heap.size < (w.alloc (.cells #[.int .i64 0, .string ⟨#[]⟩, .int .i64 0, .string ⟨#[]⟩, .int .u8 0, .string ⟨#[]⟩, .int .u8 0] 44)).heap.size by simp)).trans R0.out
      have hy0 := (row7 r0).2.2
      have Q0 := Lib.hid r0
      have hbW := Lib.hid (hb0.out.trans (hb1.mono (by simp)))
      clear r0 hb1
      obtain ⟨bk, o, rfl⟩ := strs_addr hs1
      obtain ⟨hbk, hc0⟩ := strs_at hs1 0 (by simp)
      have hc00 : w1.cell? ⟨bk, o, none⟩ = some (.string (txt x)) := hc0
      have RD := Lib.hid (read_any k hkb.1 hkb.2 bk o c x T w1 hs1 (by simpa using hc) hT hlen')
      clear hc0 hs1 hlen'
      go_wp2_with fail
      refine (KC.out _).mono ?_; rintro e w' ⟨rfl, rfl⟩
      go_wp2_with fail
      refine (SC.out _).mono ?_; rintro e w' ⟨rfl, rfl⟩
      go_wp2_with fail
      refine RD.out.mono ?_; rintro e w2 ⟨y, rfl, hyy, hb2⟩
      have r0 := (hb2.block _ hy0).trans Q0.out
      obtain ⟨⟨a0, a1, a2, a3, a4, a5, a6⟩, ⟨f0, f1, f2, f3, f4, f5, f6⟩, hy1⟩ := row7 r0
      have n0 := World.new_ne _ _ a0
      have hbX := Lib.hid (hbW.out.trans (hb2.mono hbW.out.size))
      clear r0 hb2 hc00
      cases hpk : It.parseK k T with
      | none =>
        have P := Lib.hid (HP.out.trans hpk)
        clear hpk hyy
        rw [Option.isSome_none]
        go_wp2_with fail
        refine bodyPost_ret ?_ rfl (ParseGives.no P.out rfl ?_)
        · simp [results, Tryz.results76, go_sem, *]
        · refine Below.alloc ?_ (by simp; omega) _; (repeat (with_reducible refine Below.setCell ?_ (by first | exact Nat.le_refl _ | exact Nat.le_succ _) _)); exact hbX.out
      | some z =>
        have P := Lib.hid (HP.out.trans hpk)
        obtain rfl := hyy z hpk
        clear hpk hyy
        rw [Option.isSome_some]
        go_wp2_with fail
        refine bodyPost_ret ?_ rfl (ParseGives.yes P.out rfl ?_)
        · simp [results, Tryz.results76, go_sem, *]
        · refine Below.alloc ?_ (by simp; omega) _; (repeat (with_reducible refine Below.setCell ?_ (by first | exact Nat.le_refl _ | exact Nat.le_succ _) _)); exact hbX.out
    · have P := Lib.hid (hp.trans (parseK_none hkb.1 hkb.2 hlen))
      have h1 : ((T.length : Int) + 1 != sizeOf k) = true := by rw [bne_iff_ne]; exact hlen
      clear hlen hp hkb
      go_enter Tryz.func76, Tryz.ntmps76
      go_wp2_with fail
      refine C.out.mono ?_; rintro e w1 ⟨A, c, hc, rfl, hs1, hb1⟩
      have r0 := (hb1.block _ (show w.heap.size < (w.alloc (.cells #[.int .i64 0, .string ⟨#[]⟩, .int .i64 0, .string ⟨#[]⟩, .int .u8 0, .string ⟨#[]⟩, .int .u8 0] 44)).heap.size by simp)).trans R0.out
      obtain ⟨⟨a0, a1, a2, a3, a4, a5, a6⟩, ⟨f0, f1, f2, f3, f4, f5, f6⟩, hy0⟩ := row7 r0
      have Q0 := Lib.hid r0
      have hbW := Lib.hid (hb0.out.trans (hb1.mono (by simp)))
      clear r0 hb1
      obtain ⟨bk, o, rfl⟩ := strs_addr hs1
      obtain ⟨hbk, hc0⟩ := strs_at hs1 0 (by simp)
      have hc00 : w1.cell? ⟨bk, o, none⟩ = some (.string (txt x)) := hc0
      clear hc0
      go_wp2_with fail
      refine (KC.out _).mono ?_; rintro e w' ⟨rfl, rfl⟩
      go_wp2_with fail
      refine (SC.out _).mono ?_; rintro e w' ⟨rfl, rfl⟩
      go_wp2_with fail
      refine bodyPost_ret ?_ rfl (ParseGives.no P.out rfl ?_)
      · simp [results, Tryz.results76, go_sem, *]
      · (repeat (with_reducible refine Below.setCell ?_ (by first | exact Nat.le_refl _ | exact Nat.le_succ _) _)); exact hbW.out
end Go.Proofs.YtaheiolbeiofpaaGreatDoor
