/-
  The walk of layer 3's read: a line's words read as an item of their kind.
-/
import Derived.Test.YtgagandecjljoaaDoorItTips
namespace Go.Proofs.YtgagandecjljoaaDoor
open Go.RowKit

/-- What read leaves: an item, and whether the words were one; if they were, it is that. -/
def ReadGives (p : Option It.Itm) (w : World) (e : Ending) (w' : World) : Prop :=
  ∃ y : It.Itm, e = .returned (.tuple #[.agg #[.int .i64 y.k, .string (txt y.name), .int .i64 y.n, .string (txt y.e0.n), .int .u8 y.e0.c.toNat, .string (txt y.e1.n), .int .u8 y.e1.c.toNat], .bool p.isSome]) ∧
    (∀ z, p = some z → y = z) ∧ Below w.heap.size w w'
theorem ReadGives.mk {p : Option It.Itm} {w w' : World} {e : Ending} (y : It.Itm) (b : Bool) (hb : p.isSome = b) (hy : ∀ z, p = some z → y = z) (he : e = .returned (.tuple #[.agg #[.int .i64 y.k, .string (txt y.name), .int .i64 y.n, .string (txt y.e0.n), .int .u8 y.e0.c.toNat, .string (txt y.e1.n), .int .u8 y.e1.c.toNat], .bool b]))
    (hw : Below w.heap.size w w') : ReadGives p w e w' := by subst hb; exact ⟨y, he, hy, hw⟩
theorem parse_t (x : List UInt8) (m : Int) (w : World) (hs : x.length ≤ 1000000) (b : Bool) (h : Fig.parseB x m = b) :
    Calls Tryd.prog 48 #[.string (txt x), .int .i64 m] w fun e w' => e = .returned (.tuple #[.int .i64 (Fig.parseN x m), .bool b]) ∧ w = w' := by
  have := parse_any (txt x) m w (by rw [txt_size]; unfold maxLen; omega)
  rwa [txt_toList, h] at this
theorem name_t (x : List UInt8) (w : World) (hs : x.length ≤ 1000000) (b : Bool) (h : Fig.nameB x = b) :
    Calls Tryd.prog 49 #[.string (txt x)] w fun e w' => e = .returned (.bool b) ∧ w = w' := by
  have := name_any (txt x) w (by rw [txt_size]; unfold maxLen; omega)
  rwa [txt_toList, h] at this
theorem strs_at {w : World} {bk o : Nat} {L : List (List UInt8)} (h : Strs w (some ⟨bk, o, none⟩) L) (k : Nat) (hk : k < L.length) : bk < w.heap.size ∧ w.cell? ⟨bk, o + k, none⟩ = some (.string (txt L[k])) := by
  obtain ⟨a', ha, hb, hc⟩ := h.cell hk
  cases ha
  rw [Go.WideShapes.add_plain, str] at hc
  exact ⟨hb, hc⟩
theorem strs_tail {w : World} {bk o : Nat} {x : List UInt8} {T : List (List UInt8)} (h : Strs w (some ⟨bk, o, none⟩) (x :: T)) : Strs w (some ⟨bk, o + 1, none⟩) T := fun k y hy => by
  obtain ⟨a', ha, hb, hc⟩ := h (k + 1) y (by simpa using hy)
  cases ha
  refine ⟨_, rfl, hb, ?_⟩
  rw [Go.WideShapes.add_plain] at hc ⊢
  rw [show o + 1 + k = o + (k + 1) by omega]
  exact hc
theorem row7 {w : World} {g : Nat} {a b c d e f i : Value} {t : TypeId} (h : w.heap[g]? = some (.cells #[a, b, c, d, e, f, i] t (0, 0))) :
    (w.cell? ⟨g, 0, none⟩ = some a ∧ w.cell? ⟨g, 1, none⟩ = some b ∧ w.cell? ⟨g, 2, none⟩ = some c ∧ w.cell? ⟨g, 3, none⟩ = some d ∧ w.cell? ⟨g, 4, none⟩ = some e ∧ w.cell? ⟨g, 5, none⟩ = some f ∧ w.cell? ⟨g, 6, none⟩ = some i) ∧
    (w.frozen? ⟨g, 0, none⟩ = false ∧ w.frozen? ⟨g, 1, none⟩ = false ∧ w.frozen? ⟨g, 2, none⟩ = false ∧ w.frozen? ⟨g, 3, none⟩ = false ∧ w.frozen? ⟨g, 4, none⟩ = false ∧ w.frozen? ⟨g, 5, none⟩ = false ∧ w.frozen? ⟨g, 6, none⟩ = false) ∧ g < w.heap.size :=
  ⟨⟨cell_of_row w g 0 _ t _ h, cell_of_row w g 1 _ t _ h, cell_of_row w g 2 _ t _ h, cell_of_row w g 3 _ t _ h, cell_of_row w g 4 _ t _ h, cell_of_row w g 5 _ t _ h, cell_of_row w g 6 _ t _ h⟩,
    ⟨frozen_of_row w g 0 _ t h, frozen_of_row w g 1 _ t h, frozen_of_row w g 2 _ t h, frozen_of_row w g 3 _ t h, frozen_of_row w g 4 _ t h, frozen_of_row w g 5 _ t h, frozen_of_row w g 6 _ t h⟩, (Array.getElem?_eq_some_iff.1 h).1⟩
theorem most_eq {k : Int} (h : It.isNum k = true) : (((k == 1) = true ∨ ((k == 1) = false ∧ (k == 2) = true)) ∧ It.most k = 1099511627776) ∨ ((k == 1) = false ∧ (k == 2) = false ∧ ((k == 3) = true ∨ ((k == 3) = false ∧ (k == 4) = true)) ∧ It.most k = 1000) := by
  have h' : k = 1 ∨ k = 2 ∨ k = 3 ∨ k = 4 := by simp [It.isNum] at h; omega
  rcases h' with rfl | rfl | rfl | rfl <;> decide
theorem below2 (w : World) (o1 o2 : Obj) : Hid (Below w.heap.size w ((w.alloc o1).alloc o2)) := Lib.hid (((Below.refl _ _).alloc (Nat.le_refl _) _).alloc (by simp) _)

theorem parseK_num {k : Int} (h : It.isNum k = true) (d : List UInt8) (m : Int) (hm : It.most k = m) (b : Bool) (hb : Fig.parseB d m = b) :
    (It.parseK k [d]).isSome = b ∧ ∀ z, It.parseK k [d] = some z → (⟨k, [], Fig.parseN d m, It.Tp.zero, It.Tp.zero⟩ : It.Itm) = z := by
  subst hm hb
  cases hp : Fig.parseB d (It.most k) <;> simp [It.parseK, h, hp]
set_option maxHeartbeats 4000000 in
set_option maxRecDepth 100000 in
theorem read_num (k : Int) (hk : It.isNum k = true) (bk o c : Nat) (x d : List UInt8) (w : World) (h : Strs w (some ⟨bk, o, none⟩) [x, d]) (hd : d.length ≤ 1000000) :
    Calls Tryd.prog 33 #[.int .i64 k, .slice (some ⟨bk, o, none⟩) 2 c] w (ReadGives (It.parseK k [d]) w) := by
  obtain ⟨hb, hc⟩ := strs_at h 1 (by simp)
  have hc1 : w.cell? ⟨bk, o + 1, none⟩ = some (.string (txt d)) := hc
  clear hc h
  rcases most_eq hk with ⟨e, hm⟩ | ⟨e1, e2, e, hm⟩
  · cases hp : Fig.parseB d 1099511627776
    all_goals
      have P := Lib.hid (parseK_num hk d _ hm _ hp)
      have C := Lib.hid (fun w => parse_t d 1099511627776 w hd _ hp)
      have hM := Lib.hid hm
      have hK := Lib.hid hk
      clear hm hp hk hd
      rcases e with e1 | ⟨e1, e2⟩
      all_goals
        have E1 := Lib.hid e1
        go_enter Tryd.func33, Tryd.ntmps33
        go_wp2_with fail
        refine (C.out _).mono ?_; rintro e w' ⟨rfl, rfl⟩
        go_wp2_with fail
        refine bodyPost_ret ?_ rfl (ReadGives.mk ⟨k, [], Fig.parseN d _, It.Tp.zero, It.Tp.zero⟩ _ P.out.1 P.out.2 rfl (((Below.refl _ _).alloc (Nat.le_refl _) _).alloc (by simp) _)); simp [results, Tryd.results33, go_sem, txt, It.Tp.zero]
  · cases hp : Fig.parseB d 1000
    all_goals
      have P := Lib.hid (parseK_num hk d _ hm _ hp)
      have C := Lib.hid (fun w => parse_t d 1000 w hd _ hp)
      have hM := Lib.hid hm
      have hK := Lib.hid hk
      clear hm hp hk hd
      rcases e with e3 | ⟨e3, e4⟩
      all_goals
        go_enter Tryd.func33, Tryd.ntmps33
        go_wp2_with fail
        refine (C.out _).mono ?_; rintro e w' ⟨rfl, rfl⟩
        go_wp2_with fail
        refine bodyPost_ret ?_ rfl (ReadGives.mk ⟨k, [], Fig.parseN d _, It.Tp.zero, It.Tp.zero⟩ _ P.out.1 P.out.2 rfl (((Below.refl _ _).alloc (Nat.le_refl _) _).alloc (by simp) _)); simp [results, Tryd.results33, go_sem, txt, It.Tp.zero]
theorem parseK_len {k : Int} (h : It.isLen k = true) (m d : List UInt8) (b : Bool) (hb : (Fig.nameB m && Fig.parseB d 1099511627776 && decide (0 < Fig.parseN d 1099511627776)) = b) :
    (It.parseK k [m, d]).isSome = b ∧ ∀ z, It.parseK k [m, d] = some z → (⟨k, m, Fig.parseN d 1099511627776, It.Tp.zero, It.Tp.zero⟩ : It.Itm) = z := by
  subst hb
  have e : It.parseK k [m, d] = if (Fig.nameB m && Fig.parseB d 1099511627776 && decide (0 < Fig.parseN d 1099511627776)) = true then some ⟨k, m, Fig.parseN d 1099511627776, It.Tp.zero, It.Tp.zero⟩ else none := by
    simp only [It.parseK, len_num h, h]; rfl
  rw [e]
  split
  · rename_i hb; rw [hb]; exact ⟨rfl, fun z hz => Option.some.inj hz⟩
  · rename_i hb; exact ⟨by simpa using hb, fun z hz => by cases hz⟩
theorem len_five {k : Int} (h : It.isLen k = true) : (k == 5) = true ∨ ((k == 5) = false ∧ (k == 6) = true) := (len_ways h).2.2.2.2
theorem len_ways3 {p n : Bool} {v : Int} : (p = false ∧ (n && p && decide (0 < v)) = false) ∨ (p = true ∧ n = false ∧ (n && p && decide (0 < v)) = false) ∨ (p = true ∧ n = true ∧ decide (0 < v) = false ∧ (n && p && decide (0 < v)) = false) ∨ (p = true ∧ n = true ∧ decide (0 < v) = true ∧ (n && p && decide (0 < v)) = true) := by
  cases p <;> cases n <;> cases decide (0 < v) <;> simp
set_option maxHeartbeats 4000000 in
set_option maxRecDepth 100000 in
theorem read_len (k : Int) (hk : It.isLen k = true) (bk o c : Nat) (x m d : List UInt8) (w : World) (h : Strs w (some ⟨bk, o, none⟩) [x, m, d]) (hm : m.length ≤ 1000000) (hd : d.length ≤ 1000000) :
    Calls Tryd.prog 33 #[.int .i64 k, .slice (some ⟨bk, o, none⟩) 3 c] w (ReadGives (It.parseK k [m, d]) w) := by
  obtain ⟨hb, hc⟩ := strs_at h 1 (by simp)
  obtain ⟨_, hc'⟩ := strs_at h 2 (by simp)
  have hc1 : w.cell? ⟨bk, o + 1, none⟩ = some (.string (txt m)) := hc
  have hc2 : w.cell? ⟨bk, o + 2, none⟩ = some (.string (txt d)) := hc'
  obtain ⟨e1, e2, e3, e4, _⟩ := len_ways hk
  have hk5 := len_five hk
  clear hc hc' h
  rcases len_ways3 (p := Fig.parseB d 1099511627776) (n := Fig.nameB m) (v := Fig.parseN d 1099511627776) with ⟨hp, ha⟩ | ⟨hp, hn, ha⟩ | ⟨hp, hn, hv, ha⟩ | ⟨hp, hn, hv, ha⟩
  · have P := Lib.hid (parseK_len hk m d _ ha)
    have C := Lib.hid (fun w => parse_t d 1099511627776 w hd _ hp)
    clear hp ha hk hd hm
    rcases hk5 with e5 | ⟨e5, e6⟩
    all_goals
      go_enter Tryd.func33, Tryd.ntmps33
      go_wp2_with fail
      refine (C.out _).mono ?_; rintro e w' ⟨rfl, rfl⟩
      go_wp2_with fail
      refine bodyPost_ret ?_ rfl (ReadGives.mk ⟨k, m, Fig.parseN d _, It.Tp.zero, It.Tp.zero⟩ _ P.out.1 P.out.2 rfl (((Below.refl _ _).alloc (Nat.le_refl _) _).alloc (by simp) _)); simp [results, Tryd.results33, go_sem, txt, It.Tp.zero]
  · have P := Lib.hid (parseK_len hk m d _ ha)
    have C := Lib.hid (fun w => parse_t d 1099511627776 w hd _ hp)
    have N := Lib.hid (fun w => name_t m w hm _ hn)
    clear hp ha hk hd hm hn
    rcases hk5 with e5 | ⟨e5, e6⟩
    all_goals
      go_enter Tryd.func33, Tryd.ntmps33
      go_wp2_with fail
      refine (C.out _).mono ?_; rintro e w' ⟨rfl, rfl⟩
      go_wp2_with fail
      refine (N.out _).mono ?_; rintro e w' ⟨rfl, rfl⟩
      go_wp2_with fail
      refine bodyPost_ret ?_ rfl (ReadGives.mk ⟨k, m, Fig.parseN d _, It.Tp.zero, It.Tp.zero⟩ _ P.out.1 P.out.2 rfl (((Below.refl _ _).alloc (Nat.le_refl _) _).alloc (by simp) _)); simp [results, Tryd.results33, go_sem, txt, It.Tp.zero]
  all_goals
    have P := Lib.hid (parseK_len hk m d _ ha)
    have C := Lib.hid (fun w => parse_t d 1099511627776 w hd _ hp)
    have N := Lib.hid (fun w => name_t m w hm _ hn)
    clear hp ha hk hd hm hn
    rcases hk5 with e5 | ⟨e5, e6⟩
    all_goals
      go_enter Tryd.func33, Tryd.ntmps33
      go_wp2_with fail
      refine (C.out _).mono ?_; rintro e w' ⟨rfl, rfl⟩
      go_wp2_with fail
      refine (N.out _).mono ?_; rintro e w' ⟨rfl, rfl⟩
      go_wp2_with fail
      refine bodyPost_ret ?_ rfl (ReadGives.mk ⟨k, m, Fig.parseN d _, It.Tp.zero, It.Tp.zero⟩ _ P.out.1 P.out.2 rfl (((Below.refl _ _).alloc (Nat.le_refl _) _).alloc (by simp) _)); simp [results, Tryd.results33, go_sem, txt, It.Tp.zero]
theorem parseK_7 (a b : List UInt8) (v : Bool) (e0 e1 : It.Tp) (hb : [a, b].all It.tipOk = v) (h : [a, b].all It.tipOk = true → e0 = It.tip ([a, b].getD 0 []) ∧ e1 = if [a, b].length = 2 then It.tip ([a, b].getD 1 []) else It.Tp.zero) :
    (It.parseK 7 [a, b]).isSome = v ∧ ∀ z, It.parseK 7 [a, b] = some z → (⟨7, [], 0, e0, e1⟩ : It.Itm) = z := by
  subst hb
  have e : It.parseK 7 [a, b] = if (It.tipOk a && It.tipOk b) = true then some ⟨7, [], 0, It.tip a, It.tip b⟩ else none := rfl
  rw [e]
  have ea : [a, b].all It.tipOk = (It.tipOk a && It.tipOk b) := by simp
  rw [ea] at h ⊢
  split
  · rename_i hb
    obtain ⟨rfl, rfl⟩ := h hb
    rw [hb]; exact ⟨rfl, fun z hz => Option.some.inj hz⟩
  · rename_i hb; exact ⟨by simpa using hb, fun z hz => by cases hz⟩
theorem parseK_8 (a : List UInt8) (v : Bool) (e0 e1 : It.Tp) (hb : [a].all It.tipOk = v) (h : [a].all It.tipOk = true → e0 = It.tip ([a].getD 0 []) ∧ e1 = if [a].length = 2 then It.tip ([a].getD 1 []) else It.Tp.zero) :
    (It.parseK 8 [a]).isSome = v ∧ ∀ z, It.parseK 8 [a] = some z → (⟨8, [], 0, e0, e1⟩ : It.Itm) = z := by
  subst hb
  have e : It.parseK 8 [a] = if It.tipOk a = true then some ⟨8, [], 0, It.tip a, It.Tp.zero⟩ else none := rfl
  rw [e]
  have ea : [a].all It.tipOk = It.tipOk a := by simp
  rw [ea] at h ⊢
  split
  · rename_i hb
    obtain ⟨rfl, rfl⟩ := h hb
    rw [hb]; exact ⟨rfl, fun z hz => Option.some.inj hz⟩
  · rename_i hb; exact ⟨by simpa using hb, fun z hz => by cases hz⟩
theorem parseK_9 (m a : List UInt8) (v n : Bool) (e0 e1 : It.Tp) (hb : [a].all It.tipOk = v) (hn : Fig.nameB m = n) (h : [a].all It.tipOk = true → e0 = It.tip ([a].getD 0 []) ∧ e1 = if [a].length = 2 then It.tip ([a].getD 1 []) else It.Tp.zero) :
    (It.parseK 9 [m, a]).isSome = (v && n) ∧ ∀ z, It.parseK 9 [m, a] = some z → (⟨9, m, 0, e0, e1⟩ : It.Itm) = z := by
  subst hb hn
  have e : It.parseK 9 [m, a] = if (Fig.nameB m && It.tipOk a) = true then some ⟨9, m, 0, It.tip a, It.Tp.zero⟩ else none := rfl
  rw [e]
  have ea : [a].all It.tipOk = It.tipOk a := by simp
  rw [ea] at h ⊢
  split
  · rename_i hb
    have hb2 := hb
    rw [Bool.and_eq_true] at hb2
    obtain ⟨rfl, rfl⟩ := h hb2.2
    rw [Bool.and_comm, hb]; exact ⟨rfl, fun z hz => Option.some.inj hz⟩
  · rename_i hb; rw [Bool.and_comm]; exact ⟨by simpa using hb, fun z hz => by cases hz⟩
set_option maxHeartbeats 4000000 in
set_option maxRecDepth 100000 in
theorem read_7 (bk o c : Nat) (x a b : List UInt8) (w : World) (h : Strs w (some ⟨bk, o, none⟩) [x, a, b]) (hcap : 3 ≤ c) (ha : a.length ≤ 1000000) (hb : b.length ≤ 1000000) :
    Calls Tryd.prog 33 #[.int .i64 7, .slice (some ⟨bk, o, none⟩) 3 c] w (ReadGives (It.parseK 7 [a, b]) w) := by
  have hb := (strs_at h 0 (by simp)).1
  have hbl := Lib.hid (((Below.refl w.heap.size w).alloc (Nat.le_refl _) (.cells #[.int .i64 0, .string ⟨#[]⟩, .int .i64 0, .string ⟨#[]⟩, .int .u8 0, .string ⟨#[]⟩, .int .u8 0] 38)).alloc (by simp) (.cells #[.int .i64 7, .string ⟨#[]⟩, .int .i64 0, .string ⟨#[]⟩, .int .u8 0, .string ⟨#[]⟩, .int .u8 0] 38))
  have T := Lib.hid (fun c => tips_any bk (o + 1) c [a, b] ((w.alloc (.cells #[.int .i64 0, .string ⟨#[]⟩, .int .i64 0, .string ⟨#[]⟩, .int .u8 0, .string ⟨#[]⟩, .int .u8 0] 38)).alloc (.cells #[.int .i64 7, .string ⟨#[]⟩, .int .i64 0, .string ⟨#[]⟩, .int .u8 0, .string ⟨#[]⟩, .int .u8 0] 38)) ((strs_tail h).below rfl hbl.out) (by simp) (by intro y hy; simp at hy; rcases hy with rfl | rfl <;> assumption))
  have hs := Lib.hid (show w.heap.size ≤ ((w.alloc (.cells #[.int .i64 0, .string ⟨#[]⟩, .int .i64 0, .string ⟨#[]⟩, .int .u8 0, .string ⟨#[]⟩, .int .u8 0] 38)).alloc (.cells #[.int .i64 7, .string ⟨#[]⟩, .int .i64 0, .string ⟨#[]⟩, .int .u8 0, .string ⟨#[]⟩, .int .u8 0] 38)).heap.size by simp; omega)
  have R0 := Lib.hid (show ((w.alloc (.cells #[.int .i64 0, .string ⟨#[]⟩, .int .i64 0, .string ⟨#[]⟩, .int .u8 0, .string ⟨#[]⟩, .int .u8 0] 38)).alloc (.cells #[.int .i64 7, .string ⟨#[]⟩, .int .i64 0, .string ⟨#[]⟩, .int .u8 0, .string ⟨#[]⟩, .int .u8 0] 38)).heap[w.heap.size]? = some (.cells #[.int .i64 0, .string ⟨#[]⟩, .int .i64 0, .string ⟨#[]⟩, .int .u8 0, .string ⟨#[]⟩, .int .u8 0] 38 (0, 0)) from (row_alloc (by simp) _).trans (heap_alloc_new _ _))
  have R1 := Lib.hid (show ((w.alloc (.cells #[.int .i64 0, .string ⟨#[]⟩, .int .i64 0, .string ⟨#[]⟩, .int .u8 0, .string ⟨#[]⟩, .int .u8 0] 38)).alloc (.cells #[.int .i64 7, .string ⟨#[]⟩, .int .i64 0, .string ⟨#[]⟩, .int .u8 0, .string ⟨#[]⟩, .int .u8 0] 38)).heap[w.heap.size + 1]? = some (.cells #[.int .i64 7, .string ⟨#[]⟩, .int .i64 0, .string ⟨#[]⟩, .int .u8 0, .string ⟨#[]⟩, .int .u8 0] 38 (0, 0)) from by
    have := heap_alloc_new (w.alloc (.cells #[.int .i64 0, .string ⟨#[]⟩, .int .i64 0, .string ⟨#[]⟩, .int .u8 0, .string ⟨#[]⟩, .int .u8 0] 38)) (.cells #[.int .i64 7, .string ⟨#[]⟩, .int .i64 0, .string ⟨#[]⟩, .int .u8 0, .string ⟨#[]⟩, .int .u8 0] 38)
    rwa [show (w.alloc (.cells #[.int .i64 0, .string ⟨#[]⟩, .int .i64 0, .string ⟨#[]⟩, .int .u8 0, .string ⟨#[]⟩, .int .u8 0] 38)).heap.size = w.heap.size + 1 by simp] at this)
  clear h
  go_enter Tryd.func33, Tryd.ntmps33
  go_wp2_with fail
  refine (T.out _).mono ?_; rintro e w2 ⟨e0, e1, rfl, he, hb2⟩
  have P := Lib.hid (parseK_7 a b _ e0 e1 rfl he)
  have hz0 : w.heap.size < ((w.alloc (.cells #[.int .i64 0, .string ⟨#[]⟩, .int .i64 0, .string ⟨#[]⟩, .int .u8 0, .string ⟨#[]⟩, .int .u8 0] 38)).alloc (.cells #[.int .i64 7, .string ⟨#[]⟩, .int .i64 0, .string ⟨#[]⟩, .int .u8 0, .string ⟨#[]⟩, .int .u8 0] 38)).heap.size := by simp; omega
  have hz1 : w.heap.size + 1 < ((w.alloc (.cells #[.int .i64 0, .string ⟨#[]⟩, .int .i64 0, .string ⟨#[]⟩, .int .u8 0, .string ⟨#[]⟩, .int .u8 0] 38)).alloc (.cells #[.int .i64 7, .string ⟨#[]⟩, .int .i64 0, .string ⟨#[]⟩, .int .u8 0, .string ⟨#[]⟩, .int .u8 0] 38)).heap.size := by simp
  have r0 := (hb2.block _ hz0).trans R0.out
  have r1 := (hb2.block _ hz1).trans R1.out
  obtain ⟨⟨a0, a1, a2, a3, a4, a5, a6⟩, ⟨f0, f1, f2, f3, f4, f5, f6⟩, hy0⟩ := row7 r0
  obtain ⟨⟨b0, b1, b2, b3, b4, b5, b6⟩, ⟨g0, g1, g2, g3, g4, g5, g6⟩, hy1⟩ := row7 r1
  have hbF := Lib.hid (hbl.out.trans (hb2.mono hs.out))
  clear r0 r1 he hb2 hz0 hz1 hb
  cases hv : [a, b].all It.tipOk
  all_goals
    rw [hv] at P
    clear hv
    go_wp2_with fail
    refine bodyPost_ret ?_ rfl (ReadGives.mk ⟨7, [], 0, e0, e1⟩ _ P.out.1 P.out.2 rfl ?_)
    · simp [results, Tryd.results33, go_sem, txt, *]
    · (repeat (refine Below.setCell ?_ (by first | exact Nat.le_refl _ | exact Nat.le_succ _) _)); exact hbF.out
set_option maxHeartbeats 4000000 in
set_option maxRecDepth 100000 in
theorem read_8 (bk o c : Nat) (x a : List UInt8) (w : World) (h : Strs w (some ⟨bk, o, none⟩) [x, a]) (hcap : 2 ≤ c) (ha : a.length ≤ 1000000) :
    Calls Tryd.prog 33 #[.int .i64 8, .slice (some ⟨bk, o, none⟩) 2 c] w (ReadGives (It.parseK 8 [a]) w) := by
  have hb := (strs_at h 0 (by simp)).1
  have hbl := Lib.hid (((Below.refl w.heap.size w).alloc (Nat.le_refl _) (.cells #[.int .i64 0, .string ⟨#[]⟩, .int .i64 0, .string ⟨#[]⟩, .int .u8 0, .string ⟨#[]⟩, .int .u8 0] 38)).alloc (by simp) (.cells #[.int .i64 8, .string ⟨#[]⟩, .int .i64 0, .string ⟨#[]⟩, .int .u8 0, .string ⟨#[]⟩, .int .u8 0] 38))
  have T := Lib.hid (fun c => tips_any bk (o + 1) c [a] ((w.alloc (.cells #[.int .i64 0, .string ⟨#[]⟩, .int .i64 0, .string ⟨#[]⟩, .int .u8 0, .string ⟨#[]⟩, .int .u8 0] 38)).alloc (.cells #[.int .i64 8, .string ⟨#[]⟩, .int .i64 0, .string ⟨#[]⟩, .int .u8 0, .string ⟨#[]⟩, .int .u8 0] 38)) ((strs_tail h).below rfl hbl.out) (by simp) (by intro y hy; simp at hy; subst hy; assumption))
  have hs := Lib.hid (show w.heap.size ≤ ((w.alloc (.cells #[.int .i64 0, .string ⟨#[]⟩, .int .i64 0, .string ⟨#[]⟩, .int .u8 0, .string ⟨#[]⟩, .int .u8 0] 38)).alloc (.cells #[.int .i64 8, .string ⟨#[]⟩, .int .i64 0, .string ⟨#[]⟩, .int .u8 0, .string ⟨#[]⟩, .int .u8 0] 38)).heap.size by simp; omega)
  have R0 := Lib.hid (show ((w.alloc (.cells #[.int .i64 0, .string ⟨#[]⟩, .int .i64 0, .string ⟨#[]⟩, .int .u8 0, .string ⟨#[]⟩, .int .u8 0] 38)).alloc (.cells #[.int .i64 8, .string ⟨#[]⟩, .int .i64 0, .string ⟨#[]⟩, .int .u8 0, .string ⟨#[]⟩, .int .u8 0] 38)).heap[w.heap.size]? = some (.cells #[.int .i64 0, .string ⟨#[]⟩, .int .i64 0, .string ⟨#[]⟩, .int .u8 0, .string ⟨#[]⟩, .int .u8 0] 38 (0, 0)) from (row_alloc (by simp) _).trans (heap_alloc_new _ _))
  have R1 := Lib.hid (show ((w.alloc (.cells #[.int .i64 0, .string ⟨#[]⟩, .int .i64 0, .string ⟨#[]⟩, .int .u8 0, .string ⟨#[]⟩, .int .u8 0] 38)).alloc (.cells #[.int .i64 8, .string ⟨#[]⟩, .int .i64 0, .string ⟨#[]⟩, .int .u8 0, .string ⟨#[]⟩, .int .u8 0] 38)).heap[w.heap.size + 1]? = some (.cells #[.int .i64 8, .string ⟨#[]⟩, .int .i64 0, .string ⟨#[]⟩, .int .u8 0, .string ⟨#[]⟩, .int .u8 0] 38 (0, 0)) from by
    have := heap_alloc_new (w.alloc (.cells #[.int .i64 0, .string ⟨#[]⟩, .int .i64 0, .string ⟨#[]⟩, .int .u8 0, .string ⟨#[]⟩, .int .u8 0] 38)) (.cells #[.int .i64 8, .string ⟨#[]⟩, .int .i64 0, .string ⟨#[]⟩, .int .u8 0, .string ⟨#[]⟩, .int .u8 0] 38)
    rwa [show (w.alloc (.cells #[.int .i64 0, .string ⟨#[]⟩, .int .i64 0, .string ⟨#[]⟩, .int .u8 0, .string ⟨#[]⟩, .int .u8 0] 38)).heap.size = w.heap.size + 1 by simp] at this)
  clear h
  go_enter Tryd.func33, Tryd.ntmps33
  go_wp2_with fail
  refine (T.out _).mono ?_; rintro e w2 ⟨e0, e1, rfl, he, hb2⟩
  have P := Lib.hid (parseK_8 a _ e0 e1 rfl he)
  have hz0 : w.heap.size < ((w.alloc (.cells #[.int .i64 0, .string ⟨#[]⟩, .int .i64 0, .string ⟨#[]⟩, .int .u8 0, .string ⟨#[]⟩, .int .u8 0] 38)).alloc (.cells #[.int .i64 8, .string ⟨#[]⟩, .int .i64 0, .string ⟨#[]⟩, .int .u8 0, .string ⟨#[]⟩, .int .u8 0] 38)).heap.size := by simp; omega
  have hz1 : w.heap.size + 1 < ((w.alloc (.cells #[.int .i64 0, .string ⟨#[]⟩, .int .i64 0, .string ⟨#[]⟩, .int .u8 0, .string ⟨#[]⟩, .int .u8 0] 38)).alloc (.cells #[.int .i64 8, .string ⟨#[]⟩, .int .i64 0, .string ⟨#[]⟩, .int .u8 0, .string ⟨#[]⟩, .int .u8 0] 38)).heap.size := by simp
  have r0 := (hb2.block _ hz0).trans R0.out
  have r1 := (hb2.block _ hz1).trans R1.out
  obtain ⟨⟨a0, a1, a2, a3, a4, a5, a6⟩, ⟨f0, f1, f2, f3, f4, f5, f6⟩, hy0⟩ := row7 r0
  obtain ⟨⟨b0, b1, b2, b3, b4, b5, b6⟩, ⟨g0, g1, g2, g3, g4, g5, g6⟩, hy1⟩ := row7 r1
  have hbF := Lib.hid (hbl.out.trans (hb2.mono hs.out))
  clear r0 r1 he hb2 hz0 hz1 hb
  cases hv : [a].all It.tipOk
  all_goals
    rw [hv] at P
    clear hv
    go_wp2_with fail
    refine bodyPost_ret ?_ rfl (ReadGives.mk ⟨8, [], 0, e0, e1⟩ _ P.out.1 P.out.2 rfl ?_)
    · simp [results, Tryd.results33, go_sem, txt, *]
    · (repeat (refine Below.setCell ?_ (by first | exact Nat.le_refl _ | exact Nat.le_succ _) _)); exact hbF.out
set_option maxHeartbeats 4000000 in
set_option maxRecDepth 100000 in
theorem read_9 (bk o c : Nat) (x m a : List UInt8) (w : World) (h : Strs w (some ⟨bk, o, none⟩) [x, m, a]) (hcap : 3 ≤ c) (hm : m.length ≤ 1000000) (ha : a.length ≤ 1000000) :
    Calls Tryd.prog 33 #[.int .i64 9, .slice (some ⟨bk, o, none⟩) 3 c] w (ReadGives (It.parseK 9 [m, a]) w) := by
  have hb := (strs_at h 0 (by simp)).1
  obtain ⟨_, hc⟩ := strs_at h 1 (by simp)
  have hc1 : w.cell? ⟨bk, o + 1, none⟩ = some (.string (txt m)) := hc
  have hbl := Lib.hid (((Below.refl w.heap.size w).alloc (Nat.le_refl _) (.cells #[.int .i64 0, .string ⟨#[]⟩, .int .i64 0, .string ⟨#[]⟩, .int .u8 0, .string ⟨#[]⟩, .int .u8 0] 38)).alloc (by simp) (.cells #[.int .i64 9, .string (txt m), .int .i64 0, .string ⟨#[]⟩, .int .u8 0, .string ⟨#[]⟩, .int .u8 0] 38))
  have T := Lib.hid (fun c => tips_any bk (o + 2) c [a] ((w.alloc (.cells #[.int .i64 0, .string ⟨#[]⟩, .int .i64 0, .string ⟨#[]⟩, .int .u8 0, .string ⟨#[]⟩, .int .u8 0] 38)).alloc (.cells #[.int .i64 9, .string (txt m), .int .i64 0, .string ⟨#[]⟩, .int .u8 0, .string ⟨#[]⟩, .int .u8 0] 38)) ((strs_tail (strs_tail h)).below rfl hbl.out) (by simp) (by intro y hy; simp at hy; subst hy; assumption))
  have hs := Lib.hid (show w.heap.size ≤ ((w.alloc (.cells #[.int .i64 0, .string ⟨#[]⟩, .int .i64 0, .string ⟨#[]⟩, .int .u8 0, .string ⟨#[]⟩, .int .u8 0] 38)).alloc (.cells #[.int .i64 9, .string (txt m), .int .i64 0, .string ⟨#[]⟩, .int .u8 0, .string ⟨#[]⟩, .int .u8 0] 38)).heap.size by simp; omega)
  have R0 := Lib.hid (show ((w.alloc (.cells #[.int .i64 0, .string ⟨#[]⟩, .int .i64 0, .string ⟨#[]⟩, .int .u8 0, .string ⟨#[]⟩, .int .u8 0] 38)).alloc (.cells #[.int .i64 9, .string (txt m), .int .i64 0, .string ⟨#[]⟩, .int .u8 0, .string ⟨#[]⟩, .int .u8 0] 38)).heap[w.heap.size]? = some (.cells #[.int .i64 0, .string ⟨#[]⟩, .int .i64 0, .string ⟨#[]⟩, .int .u8 0, .string ⟨#[]⟩, .int .u8 0] 38 (0, 0)) from (row_alloc (by simp) _).trans (heap_alloc_new _ _))
  have R1 := Lib.hid (show ((w.alloc (.cells #[.int .i64 0, .string ⟨#[]⟩, .int .i64 0, .string ⟨#[]⟩, .int .u8 0, .string ⟨#[]⟩, .int .u8 0] 38)).alloc (.cells #[.int .i64 9, .string (txt m), .int .i64 0, .string ⟨#[]⟩, .int .u8 0, .string ⟨#[]⟩, .int .u8 0] 38)).heap[w.heap.size + 1]? = some (.cells #[.int .i64 9, .string (txt m), .int .i64 0, .string ⟨#[]⟩, .int .u8 0, .string ⟨#[]⟩, .int .u8 0] 38 (0, 0)) from by
    have := heap_alloc_new (w.alloc (.cells #[.int .i64 0, .string ⟨#[]⟩, .int .i64 0, .string ⟨#[]⟩, .int .u8 0, .string ⟨#[]⟩, .int .u8 0] 38)) (.cells #[.int .i64 9, .string (txt m), .int .i64 0, .string ⟨#[]⟩, .int .u8 0, .string ⟨#[]⟩, .int .u8 0] 38)
    rwa [show (w.alloc (.cells #[.int .i64 0, .string ⟨#[]⟩, .int .i64 0, .string ⟨#[]⟩, .int .u8 0, .string ⟨#[]⟩, .int .u8 0] 38)).heap.size = w.heap.size + 1 by simp] at this)
  cases hn : Fig.nameB m
  all_goals
    have N := Lib.hid (fun w => name_t m w hm _ hn)
    have HN := Lib.hid hn
    clear hn hc h
    go_enter Tryd.func33, Tryd.ntmps33
    go_wp2_with fail
    refine (T.out _).mono ?_; rintro e w2 ⟨e0, e1, rfl, he, hb2⟩
    have P := Lib.hid (parseK_9 m a _ _ e0 e1 rfl HN.out he)
    have hz0 : w.heap.size < ((w.alloc (.cells #[.int .i64 0, .string ⟨#[]⟩, .int .i64 0, .string ⟨#[]⟩, .int .u8 0, .string ⟨#[]⟩, .int .u8 0] 38)).alloc (.cells #[.int .i64 9, .string (txt m), .int .i64 0, .string ⟨#[]⟩, .int .u8 0, .string ⟨#[]⟩, .int .u8 0] 38)).heap.size := by simp; omega
    have hz1 : w.heap.size + 1 < ((w.alloc (.cells #[.int .i64 0, .string ⟨#[]⟩, .int .i64 0, .string ⟨#[]⟩, .int .u8 0, .string ⟨#[]⟩, .int .u8 0] 38)).alloc (.cells #[.int .i64 9, .string (txt m), .int .i64 0, .string ⟨#[]⟩, .int .u8 0, .string ⟨#[]⟩, .int .u8 0] 38)).heap.size := by simp
    have r0 := (hb2.block _ hz0).trans R0.out
    have r1 := (hb2.block _ hz1).trans R1.out
    obtain ⟨⟨a0, a1, a2, a3, a4, a5, a6⟩, ⟨f0, f1, f2, f3, f4, f5, f6⟩, hy0⟩ := row7 r0
    obtain ⟨⟨b0, b1, b2, b3, b4, b5, b6⟩, ⟨g0, g1, g2, g3, g4, g5, g6⟩, hy1⟩ := row7 r1
    have hbF := Lib.hid (hbl.out.trans (hb2.mono hs.out))
    clear r0 r1 he hb2 hz0 hz1 hc1 hb
    cases hv : [a].all It.tipOk
    · rw [hv] at P
      clear hv
      go_wp2_with fail
      refine bodyPost_ret ?_ rfl (ReadGives.mk ⟨9, m, 0, e0, e1⟩ _ P.out.1 P.out.2 rfl ?_)
      · simp [results, Tryd.results33, go_sem, txt, *]
      · (repeat (refine Below.setCell ?_ (by first | exact Nat.le_refl _ | exact Nat.le_succ _) _)); exact hbF.out
    · rw [hv] at P
      clear hv
      go_wp2_with fail
      refine (N.out _).mono ?_; rintro e w' ⟨rfl, rfl⟩
      go_wp2_with fail
      refine bodyPost_ret ?_ rfl (ReadGives.mk ⟨9, m, 0, e0, e1⟩ _ P.out.1 P.out.2 rfl ?_)
      · simp [results, Tryd.results33, go_sem, txt, *]
      · (repeat (refine Below.setCell ?_ (by first | exact Nat.le_refl _ | exact Nat.le_succ _) _)); exact hbF.out
end Go.Proofs.YtgagandecjljoaaDoor

