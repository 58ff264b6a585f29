/-
  Texts of this claim, merged: ItKit, ShSpec, ShMem, ShSame, ShParse, ShRParse, ShPrint, ShShort, RowMem.
-/
import Derived.Test.YtaheiolbeiofpaaGreatDoorMg01
import Derived.Test.YtaheiolbeiofpaaGreatDoorMg03
import Derived.Test.YtaheiolbeiofpaaGreatDoorMg08
import Derived.BigFrame
import Derived.Deep.AppendLies
import Derived.Deep.AppendSrc
import Derived.Deep.OwnRows
import Derived.Deep.Slices
import Derived.Lib.Hide
import Derived.OpenShut
import Derived.OwnWalk
/-
  What the laws of layer 3 want besides: a law's argument that is an item, opened; how long what is parsed may be; that a number is written as it was read.
-/
namespace Go.Proofs.YtaheiolbeiofpaaGreatDoor
open Go.ChangeShapes Go.WideShapes Go.ChangeAt Go.RowKit

theorem num_back : It.NumBack := fun d m h => by
  have hN : Fig.parseN d m = Fig.val d := by rw [Fig.parseN, if_pos h]
  rw [Fig.parseB, Bool.and_eq_true] at h
  have hd : d.all Fig.dig = true := by
    have := h.1
    rw [Fig.form, Bool.and_eq_true] at this
    exact this.2
  rw [hN]
  exact ⟨(Fig.val_bd d hd).1, form_back d h.1⟩
def ItemLe (B : Nat) (y : It.Itm) : Prop := y.name.length ≤ B ∧ y.n ≤ 1099511627776 ∧ y.e0.n.length ≤ B ∧ y.e1.n.length ≤ B
theorem tip_le {B : Nat} {a : List UInt8} (h : a.length ≤ B) : (It.tip a).n.length ≤ B := by
  unfold It.tip
  split
  · simp; omega
  · simp [It.Tp.zero]
theorem parseN_le {d : List UInt8} {m : Int} (h : Fig.parseB d m = true) : Fig.parseN d m ≤ m := by
  rw [Fig.parseN, if_pos h]
  rw [Fig.parseB, Bool.and_eq_true, decide_eq_true_iff] at h
  exact h.2
theorem most_le (k : Int) : It.most k ≤ 1099511627776 := by
  unfold It.most; repeat (split; · decide)
  decide
theorem parseK_le {B : Nat} {k : Int} {T : List (List UInt8)} {y : It.Itm} (hT : ∀ t ∈ T, t.length ≤ B) (h : It.parseK k T = some y) : ItemLe B y := by
  unfold It.parseK at h
  split at h
  · split at h
    · split at h
      · rename_i d hp
        cases h
        have := parseN_le hp
        have := most_le k
        exact ⟨by simp, by show Fig.parseN d (It.most k) ≤ _; omega, by simp [It.Tp.zero], by simp [It.Tp.zero]⟩
      · cases h
    · cases h
  · split at h
    · split at h
      · split at h
        · rename_i m d hp
          cases h
          simp only [Bool.and_eq_true] at hp
          exact ⟨hT m (by simp), parseN_le hp.1.2, by simp [It.Tp.zero], by simp [It.Tp.zero]⟩
        · cases h
      · cases h
    · split at h
      · split at h
        · split at h
          · rename_i a b hp
            cases h
            exact ⟨by simp, by simp, tip_le (hT a (by simp)), tip_le (hT b (by simp))⟩
          · cases h
        · cases h
      · split at h
        · split at h
          · split at h
            · rename_i a hp
              cases h
              exact ⟨by simp, by simp, tip_le (hT a (by simp)), by simp [It.Tp.zero]⟩
            · cases h
          · cases h
        · split at h
          · split at h
            · split at h
              · rename_i m a hp
                cases h
                exact ⟨hT m (by simp), by simp, tip_le (hT a (by simp)), by simp [It.Tp.zero]⟩
              · cases h
            · cases h
          · cases h
theorem parse_le {l : List UInt8} {y : It.Itm} (h : It.parse l = some y) : ItemLe l.length y := by
  unfold It.parse at h
  split at h
  · rename_i hw
    have hle := words_le l hw
    cases hW : Ln.words l with
    | nil => rw [hW] at h; cases h
    | cons x T =>
      rw [hW] at h hle
      exact parseK_le (fun t ht => hle t (by simp [ht])) h
  · cases h
theorem ofV_txt (y : It.Itm) : ofV y.k (txt y.name) y.n (txt y.e0.n) y.e0.c (txt y.e1.n) y.e1.c = y := by simp [ofV, txt_toList]

theorem cI3 : Tryz.prog.cellsOf 3 = 1 := by kernel_rfl
theorem cI9 : Tryz.prog.cellsOf 9 = 1 := by kernel_rfl
theorem cI5 : Tryz.prog.cellsOf 5 = 1 := by kernel_rfl
theorem cI24 : Tryz.prog.cellsOf 42 = 4 := by kernel_rfl
theorem cI26 : Tryz.prog.cellsOf 44 = 7 := by kernel_rfl
theorem u8_of {n : Int} (h : (Lit.int .u8 n).wf = true) : ∃ c : UInt8, n = c.toNat := by
  have := wf_u8 h
  exact ⟨UInt8.ofNat n.toNat, by rw [UInt8.toNat_ofNat']; omega⟩
theorem trod_tip {H : Type} {enc : TypeId × Value → H} {w : World} {base : Nat} {sp : Nat → Bool} {held : Bool} {fuel : Nat} {c0 c1 : Value} {x : DataW H × List MemPlace}
    (h : DataW.trod enc Tryz.prog w base sp held fuel 41 [c0, c1] = some x) : ∃ (a : ByteArray) (i : UInt8), c0 = .string a ∧ c1 = .int .u8 i.toNat ∧ a.size ≤ maxLen := by
  obtain ⟨xs, n, _, _, _, hlen, hg⟩ := DataW.trod_struct Tryz.underlying41 h
  match xs, hlen with
  | [y0, y1], _ =>
    have h0 := hg 0 _ rfl
    have h1 := hg 1 _ rfl
    simp [cI9, cI5] at h0 h1
    obtain ⟨a, ha, _, hs⟩ := DataW.trod_string Tryz.underlying9 h0
    obtain ⟨i, hi, _, hw⟩ := DataW.trod_int Tryz.underlying5 h1
    obtain ⟨c, rfl⟩ := u8_of hw
    exact ⟨a, c, by simpa using ha, by simpa using hi, hs⟩
set_option maxRecDepth 100000 in
/-- Cells that read as an item. -/
theorem trod_item {H : Type} {enc : TypeId × Value → H} {w : World} {base : Nat} {sp : Nat → Bool} {held : Bool} {fuel : Nat} {cs : List Value} {x : DataW H × List MemPlace}
    (hf : DataW.trod enc Tryz.prog w base sp held fuel 44 cs = some x) :
    ∃ (k : Int) (nm : ByteArray) (n : Int) (a : ByteArray) (ac : UInt8) (b : ByteArray) (bc : UInt8), cs = [.int .i64 k, .string nm, .int .i64 n, .string a, .int .u8 ac.toNat, .string b, .int .u8 bc.toNat] ∧
      n ≤ 9223372036854775807 ∧ nm.size ≤ maxLen ∧ a.size ≤ maxLen ∧ b.size ≤ maxLen := by
  obtain ⟨xs, n, _, _, hl, hlen, hg⟩ := DataW.trod_struct Tryz.underlying44 hf
  rw [cI26] at hl
  match cs, hl with
  | [c0, c1, c2, c3, c4, c5, c6], _ =>
    match xs, hlen with
    | [y0, y1, y2, y3], _ =>
      have h0 := hg 0 _ rfl
      have h1 := hg 1 _ rfl
      have h2 := hg 2 _ rfl
      have h3 := hg 3 _ rfl
      simp [cI3, cI9, cI24] at h0 h1 h2 h3
      obtain ⟨k, hk, _, _⟩ := DataW.trod_int Tryz.underlying3 h0
      obtain ⟨nm, hnm, _, hs⟩ := DataW.trod_string Tryz.underlying9 h1
      obtain ⟨m, hm, _, hw⟩ := DataW.trod_int Tryz.underlying3 h2
      obtain ⟨zs, f, _, _, _, hl, hi⟩ := DataW.trod_array Tryz.underlying42 h3
      match zs, hl with
      | [z0, z1], _ =>
        have e0 := hi 0 (by omega)
        have e1 := hi 1 (by omega)
        simp [ctip] at e0 e1
        obtain ⟨a, ac, ha, hac, hsa⟩ := trod_tip e0
        obtain ⟨b, bc, hb, hbc, hsb⟩ := trod_tip e1
        simp only [List.cons.injEq, and_true] at hk hnm hm
        subst hk hnm hm ha hac hb hbc
        exact ⟨k, nm, m, a, ac, b, bc, rfl, (wf_i64 hw).2, hs, hsa, hsb⟩
set_option maxRecDepth 100000 in
/-- An argument that is an item: its values, and their bounds. -/
theorem open_item {H : Type} {enc : TypeId × Value → H} {w : World} {base b0 : Nat} {r : Reach} {sp : Nat → Bool} {held : Bool} {v : Value} {d : DataW H} {p : List MemPlace}
    (hval : Value.okWide Tryz.prog w r b0 44 v) (hd : DataW.Trod enc Tryz.prog w base sp held 44 v d p) :
    ∃ (k : Int) (nm : ByteArray) (n : Int) (a : ByteArray) (ac : UInt8) (b : ByteArray) (bc : UInt8), v = .agg #[.int .i64 k, .string nm, .int .i64 n, .string a, .int .u8 ac.toNat, .string b, .int .u8 bc.toNat] ∧
      n ≤ 9223372036854775807 ∧ nm.size ≤ maxLen ∧ a.size ≤ maxLen ∧ b.size ≤ maxLen := by
  obtain ⟨cs, rfl, hsz⟩ := okWide_struct Tryz.underlying44 hval
  obtain ⟨fuel, hf⟩ := hd
  obtain ⟨k, nm, n, a, ac, b, bc, hcs, h1, h2, h3, h4⟩ := trod_item hf
  obtain ⟨l⟩ := cs
  have e : l = [.int .i64 k, .string nm, .int .i64 n, .string a, .int .u8 ac.toNat, .string b, .int .u8 bc.toNat] := hcs
  subst e
  exact ⟨k, nm, n, a, ac, b, bc, rfl, h1, h2, h3, h4⟩
end Go.Proofs.YtaheiolbeiofpaaGreatDoor
/-
  Plain mathematics of layer 4: the items of a text's lines, the first line that is of no form, and items as a text. No program is named here.
-/
namespace Go.Proofs.YtaheiolbeiofpaaGreatDoor.Sh
open Go

def okL (x : List UInt8) : Bool := (It.parse x).isSome
/-- Is line k of an item's form, with a line feed? -/
def good (wh : Bool) (L : List (List UInt8)) (k : Nat) : Bool := (L[k]?).any okL && (wh || decide (k + 1 < L.length))
def bad (wh : Bool) (L : List (List UInt8)) : Option Nat := (List.range L.length).find? fun k => !good wh L k
def items (L : List (List UInt8)) : List It.Itm := L.filterMap It.parse
def parse (l : List UInt8) : List It.Itm × Nat := match bad (Ln.whole l) (Ln.split l) with
  | some k => ([], k + 1)
  | none => (items (Ln.split l), 0)
def print (L : List It.Itm) : List UInt8 := Ln.text (L.map It.print)

theorem bad_at {wh : Bool} {L : List (List UInt8)} {k : Nat} (hk : k < L.length) (h0 : ∀ j < k, good wh L j = true) (h : good wh L k = false) : bad wh L = some k := by
  rw [bad, List.find?_range_eq_some]
  refine ⟨by simp [h], by simpa using hk, fun j hj => by simp [h0 j hj]⟩
theorem bad_no {wh : Bool} {L : List (List UInt8)} (h : ∀ j < L.length, good wh L j = true) : bad wh L = none := by
  rw [bad, List.find?_range_eq_none]
  intro j hj
  simp [h j hj]
theorem bad_some {wh : Bool} {L : List (List UInt8)} {k : Nat} (h : bad wh L = some k) : k < L.length ∧ (∀ j < k, good wh L j = true) ∧ good wh L k = false := by
  rw [bad, List.find?_range_eq_some] at h
  obtain ⟨h1, h2, h3⟩ := h
  exact ⟨by simpa using h2, fun j hj => by simpa using h3 j hj, by simpa using h1⟩
theorem bad_none {wh : Bool} {L : List (List UInt8)} (h : bad wh L = none) : ∀ j < L.length, good wh L j = true := by
  rw [bad, List.find?_range_eq_none] at h
  intro j hj
  simpa using h j hj
theorem parse_some {l : List UInt8} {k : Nat} (h : bad (Ln.whole l) (Ln.split l) = some k) : parse l = ([], k + 1) := by rw [parse, h]
theorem parse_none {l : List UInt8} (h : bad (Ln.whole l) (Ln.split l) = none) : parse l = (items (Ln.split l), 0) := by rw [parse, h]

theorem good_iff {wh : Bool} {L : List (List UInt8)} {k : Nat} (hk : k < L.length) : good wh L k = ((It.parse L[k]).isSome && (wh || decide (k + 1 < L.length))) := by
  rw [good, List.getElem?_eq_getElem hk]; rfl
theorem good_parse {wh : Bool} {L : List (List UInt8)} {k : Nat} (h : good wh L k = true) : ∃ y, ∃ hk : k < L.length, It.parse L[k] = some y := by
  by_cases hk : k < L.length
  · rw [good_iff hk, Bool.and_eq_true] at h
    obtain ⟨y, hy⟩ := Option.isSome_iff_exists.1 h.1
    exact ⟨y, hk, hy⟩
  · rw [good, List.getElem?_eq_none (by omega)] at h
    cases h
theorem good_whole {L : List (List UInt8)} {wh : Bool} (h : ∀ j < L.length, good wh L j = true) (hne : L ≠ []) : wh = true := by
  have hl : 0 < L.length := List.length_pos_iff.2 hne
  have := h (L.length - 1) (by omega)
  rw [good_iff (by omega), Bool.and_eq_true] at this
  have h2 := this.2
  rw [decide_eq_false (by omega), Bool.or_false] at h2
  exact h2
theorem items_snoc {L : List (List UInt8)} {k : Nat} (hk : k < L.length) {y : It.Itm} (h : It.parse L[k] = some y) : items (L.take (k + 1)) = items (L.take k) ++ [y] := by
  rw [List.take_succ_eq_append_getElem hk, items, List.filterMap_append]
  simp [items, h]
theorem items_len {wh : Bool} {L : List (List UInt8)} : ∀ {k : Nat}, (∀ j < k, good wh L j = true) → (items (L.take k)).length = k
  | 0, _ => by simp [items]
  | k + 1, h => by
    obtain ⟨y, hk, hy⟩ := good_parse (h k (by omega))
    rw [items_snoc hk hy, List.length_append, items_len fun j hj => h j (by omega)]
    rfl
theorem items_le (L : List (List UInt8)) : (items L).length ≤ L.length := List.length_filterMap_le _ _
theorem items_append (a b : List (List UInt8)) : items (a ++ b) = items a ++ items b := List.filterMap_append ..
theorem items_print (nb : It.NumBack) : ∀ {L : List (List UInt8)}, (∀ x ∈ L, (It.parse x).isSome = true) → (items L).map It.print = L
  | [], _ => rfl
  | x :: L, h => by
    obtain ⟨y, hy⟩ := Option.isSome_iff_exists.1 (h x (by simp))
    have ih := items_print nb (L := L) fun z hz => h z (by simp [hz])
    rw [items] at ih
    rw [items, List.filterMap_cons, hy]
    simp only [List.map_cons]
    rw [ih, (It.print_parse nb x y hy).1]
theorem good_all {wh : Bool} {L : List (List UInt8)} (h : ∀ j < L.length, good wh L j = true) : ∀ x ∈ L, (It.parse x).isSome = true := fun x hx => by
  obtain ⟨j, hj, rfl⟩ := List.getElem_of_mem hx
  have := h j hj
  rw [good_iff hj, Bool.and_eq_true] at this
  exact this.1

/-- What is parsed is written just so. -/
theorem print_parse (nb : It.NumBack) (l : List UInt8) (h : (parse l).2 = 0) : print (parse l).1 = l := by
  cases hb : bad (Ln.whole l) (Ln.split l) with
  | some k => rw [parse_some hb] at h; simp at h
  | none =>
    have hg := bad_none hb
    rw [parse_none hb, print, items_print nb (good_all hg)]
    have ht := Ln.text_split l
    suffices hw : Ln.whole l = true by rw [hw, decide_eq_true_iff] at ht; exact ht
    by_cases hne : Ln.split l = []
    · cases hw : Ln.whole l with
      | true => rfl
      | false =>
        rw [Ln.split, hw] at hne
        simp [Ln.cut] at hne
    · exact good_whole hg hne
theorem ws_no10 {l : List UInt8} (h : Ln.ws true l = true) : (10 : UInt8) ∉ l := fun hm => by
  rw [Ln.ws_eq, Bool.and_eq_true, List.all_eq_true] at h
  exact absurd (h.1 _ hm) (by decide)
theorem right_parse {x : It.Itm} (h : It.right x = true) : It.parse (It.print x) = some x := by
  rw [It.right, Bool.and_eq_true, decide_eq_true_iff, decide_eq_true_iff] at h
  exact h.2
theorem right_no10 {x : It.Itm} (h : It.right x = true) : (10 : UInt8) ∉ It.print x := by
  have hp := right_parse h
  rw [It.parse] at hp
  split at hp
  · rename_i hw; exact ws_no10 hw
  · cases hp
theorem items_right : ∀ {L : List It.Itm}, (∀ x ∈ L, It.right x = true) → items (L.map It.print) = L
  | [], _ => rfl
  | x :: L, h => by
    have ih := items_right (L := L) fun z hz => h z (by simp [hz])
    rw [items] at ih
    rw [items, List.map_cons, List.filterMap_cons, right_parse (h x (by simp))]
    simp only []
    rw [ih]
/-- Items that may be are parsed as they were. -/
theorem parse_print (L : List It.Itm) (h : ∀ x ∈ L, It.right x = true) : parse (print L) = (L, 0) := by
  have hs : Ln.split (print L) = L.map It.print := Ln.split_text _ fun x hx => by
    obtain ⟨y, hy, rfl⟩ := List.mem_map.1 hx
    exact right_no10 (h y hy)
  have hw : Ln.whole (print L) = true := Ln.whole_text _
  have hb : bad (Ln.whole (print L)) (Ln.split (print L)) = none := by
    refine bad_no fun j hj => ?_
    rw [good_iff hj, hw, Bool.true_or, Bool.and_true]
    have hm : (Ln.split (print L))[j] ∈ L.map It.print := by rw [← hs]; exact List.getElem_mem hj
    obtain ⟨y, hy, e⟩ := List.mem_map.1 hm
    rw [← e, right_parse (h y hy)]; rfl
  rw [parse_none hb, hs, items_right h]

/-- A text behind one that is parsed. -/
theorem good_left {wh : Bool} {a b : List (List UInt8)} {k : Nat} (hk : k < a.length) (h : good true a k = true) (hw : wh = true ∨ b ≠ []) : good wh (a ++ b) k = true := by
  rw [good_iff hk, Bool.and_eq_true] at h
  rw [good_iff (by simp; omega), List.getElem_append_left hk, h.1, Bool.true_and]
  rcases hw with rfl | hb
  · rfl
  · have : 0 < b.length := List.length_pos_iff.2 hb
    rw [decide_eq_true (by simp; omega), Bool.or_true]
theorem good_right {wh : Bool} {a b : List (List UInt8)} {k : Nat} (hk : a.length ≤ k) : good wh (a ++ b) k = good wh b (k - a.length) := by
  rw [good, good, List.getElem?_append_right hk]
  congr 2
  rw [Bool.eq_iff_iff, decide_eq_true_iff, decide_eq_true_iff, List.length_append]
  omega
theorem split_ne (b : List UInt8) (h : Ln.whole b = false) : Ln.split b ≠ [] := by
  rw [Ln.split, h]
  simp [Ln.cut]
theorem whole_of {a : List UInt8} (h : (parse a).2 = 0) : Ln.whole a = true := by
  cases hb : bad (Ln.whole a) (Ln.split a) with
  | some k => rw [parse_some hb] at h; simp at h
  | none =>
    cases hw : Ln.whole a with
    | true => rfl
    | false => rw [← hw]; exact good_whole (bad_none hb) (split_ne a hw)
theorem parse_append (a b : List UInt8) (h : (parse a).2 = 0) :
    parse (a ++ b) = if (parse b).2 = 0 then ((parse a).1 ++ (parse b).1, 0) else ([], (parse a).1.length + (parse b).2) := by
  have hw := whole_of h
  obtain ⟨hs, hwb⟩ := Ln.split_append a b hw
  cases hb : bad (Ln.whole a) (Ln.split a) with
  | some k => rw [parse_some hb] at h; simp at h
  | none =>
    have ga := bad_none hb
    rw [hw] at ga
    have hla : (items (Ln.split a)).length = (Ln.split a).length := by
      have := items_len (wh := true) (L := Ln.split a) (k := (Ln.split a).length) ga
      rwa [List.take_of_length_le (Nat.le_refl _)] at this
    have hor : Ln.whole b = true ∨ Ln.split b ≠ [] := by
      cases hwb' : Ln.whole b with
      | true => exact .inl rfl
      | false => exact .inr (split_ne b hwb')
    rw [parse_none hb]
    cases hb2 : bad (Ln.whole b) (Ln.split b) with
    | some k =>
      obtain ⟨h1, h2, h3⟩ := bad_some hb2
      have : bad (Ln.whole (a ++ b)) (Ln.split (a ++ b)) = some ((Ln.split a).length + k) := by
        rw [hs, hwb]
        refine bad_at (by simp; omega) (fun j hj => ?_) ?_
        · by_cases hja : j < (Ln.split a).length
          · exact good_left hja (ga j hja) hor
          · rw [good_right (by omega)]; exact h2 _ (by omega)
        · rw [good_right (by omega), Nat.add_sub_cancel_left]; exact h3
      rw [parse_some this, parse_some hb2, if_neg (by simp), hla]
      rfl
    | none =>
      have g2 := bad_none hb2
      have : bad (Ln.whole (a ++ b)) (Ln.split (a ++ b)) = none := by
        rw [hs, hwb]
        refine bad_no fun j hj => ?_
        by_cases hja : j < (Ln.split a).length
        · exact good_left hja (ga j hja) hor
        · rw [good_right (by omega)]; exact g2 _ (by simp at hj; omega)
      rw [parse_none this, parse_none hb2, if_pos rfl, hs, items_append]

theorem mem_flat : ∀ (D : List (List UInt8)) (r x : List UInt8), x ∈ D ++ [r] → x.length ≤ ((D.map (· ++ [10])).flatten ++ r).length
  | [], r, x, h => by simp at h; subst h; simp
  | d :: D, r, x, h => by
    rcases List.mem_cons.1 (by simpa using h : x ∈ d :: (D ++ [r])) with rfl | h2
    · simp <;> omega
    · have := mem_flat D r x h2
      simp only [List.map_cons, List.flatten_cons, List.length_append] at this ⊢; omega
/-- No line is longer than the text, nor are there more of them. -/
theorem split_le (l : List UInt8) : (∀ x ∈ Ln.split l, x.length ≤ l.length) ∧ (Ln.split l).length ≤ l.length + 1 := by
  have hj := Ln.st_join 10 l
  have hl := Ln.st_len 10 l
  have hm := mem_flat (Ln.st 10 l).1 (Ln.st 10 l).2
  rw [hj] at hm
  rw [Ln.split]
  split
  · exact ⟨fun x hx => hm x (by simp [hx]), by omega⟩
  · exact ⟨fun x hx => hm x hx, by simp [Ln.cut]; omega⟩
theorem text_le (B : Nat) : ∀ (L : List (List UInt8)), (∀ x ∈ L, x.length ≤ B) → (Ln.text L).length ≤ L.length * (B + 1)
  | [], _ => by simp [Ln.text]
  | x :: L, h => by
    have ih := text_le B L fun y hy => h y (by simp [hy])
    have hx := h x (by simp)
    have : (Ln.text (x :: L)).length = x.length + 1 + (Ln.text L).length := by simp [Ln.text]; omega
    rw [this, List.length_cons, Nat.succ_mul]
    omega
end Go.Proofs.YtaheiolbeiofpaaGreatDoor.Sh
/-
  Slices of items in memory: which items their cells hold, seven cells an item; kept where nothing below the heap's end changes.
-/
namespace Go.Proofs.YtaheiolbeiofpaaGreatDoor
open Go.RowKit

def cells7 (y : It.Itm) : List Value := [.int .i64 y.k, .string (txt y.name), .int .i64 y.n, .string (txt y.e0.n), .int .u8 y.e0.c.toNat, .string (txt y.e1.n), .int .u8 y.e1.c.toNat]
def cellsL (L : List It.Itm) : List Value := L.flatMap cells7
theorem cellsL_nil : cellsL [] = [] := rfl
theorem cellsL_append (a b : List It.Itm) : cellsL (a ++ b) = cellsL a ++ cellsL b := by simp [cellsL]
theorem cellsL_one (y : It.Itm) : cellsL [y] = cells7 y := by simp [cellsL]
theorem cellsL_cons (y : It.Itm) (L : List It.Itm) : cellsL (y :: L) = cells7 y ++ cellsL L := by simp [cellsL]
theorem cells7_length (y : It.Itm) : (cells7 y).length = 7 := rfl
theorem cellsL_length : ∀ L : List It.Itm, (cellsL L).length = L.length * 7
  | [] => rfl
  | y :: L => by rw [cellsL_cons, List.length_append, cellsL_length L, cells7_length, List.length_cons]; omega
theorem cellsL_at : ∀ (L : List It.Itm) (k j : Nat) (y : It.Itm), L[k]? = some y → j < 7 → (cellsL L)[k * 7 + j]? = (cells7 y)[j]?
  | [], _, _, _, h, _ => by simp at h
  | x :: L, 0, j, y, h, hj => by
    obtain rfl : x = y := by simpa using h
    rw [cellsL_cons, List.getElem?_append_left (by rw [cells7_length]; omega)]
    congr 1; omega
  | x :: L, k + 1, j, y, h, hj => by
    rw [cellsL_cons, List.getElem?_append_right (by rw [cells7_length]; omega), cells7_length]
    rw [show (k + 1) * 7 + j - 7 = k * 7 + j by omega]
    exact cellsL_at L k j y (by simpa using h) hj
theorem cells7_one (y : It.Itm) : ∀ u ∈ cells7 y, u.oneCell' = true := fun u hu => by
  simp [cells7] at hu
  rcases hu with rfl | rfl | rfl | rfl | rfl | rfl | rfl <;> rfl
theorem cellsL_one' (L : List It.Itm) : ∀ u ∈ cellsL L, u.oneCell' = true := fun u hu => by
  obtain ⟨y, _, h⟩ := List.mem_flatMap.1 hu
  exact cells7_one y u h

/-- Seven cells that hold an item. -/
def It7 (w : World) (b o : Nat) (y : It.Itm) : Prop := ∀ j v, (cells7 y)[j]? = some v → w.cell? ⟨b, o + j, none⟩ = some v
theorem It7.cells {w : World} {b o : Nat} {y : It.Itm} (h : It7 w b o y) :
    w.cell? ⟨b, o, none⟩ = some (.int .i64 y.k) ∧ w.cell? ⟨b, o + 1, none⟩ = some (.string (txt y.name)) ∧ w.cell? ⟨b, o + 2, none⟩ = some (.int .i64 y.n) ∧ w.cell? ⟨b, o + 3, none⟩ = some (.string (txt y.e0.n)) ∧ w.cell? ⟨b, o + 4, none⟩ = some (.int .u8 y.e0.c.toNat) ∧
      w.cell? ⟨b, o + 5, none⟩ = some (.string (txt y.e1.n)) ∧ w.cell? ⟨b, o + 6, none⟩ = some (.int .u8 y.e1.c.toNat) :=
  ⟨h 0 _ rfl, h 1 _ rfl, h 2 _ rfl, h 3 _ rfl, h 4 _ rfl, h 5 _ rfl, h 6 _ rfl⟩
/-- The cells from A on hold these items. -/
def Its (w : World) (A : Option Addr) (L : List It.Itm) : Prop :=
  L = [] ∨ ∃ b o, A = some ⟨b, o, none⟩ ∧ b < w.heap.size ∧ ∀ k y, L[k]? = some y → It7 w b (o + k * 7) y
theorem Its.nil (w : World) (A : Option Addr) : Its w A [] := .inl rfl
theorem Its.below {w w' : World} {A : Option Addr} {L : List It.Itm} {B : Nat} (h : Its w A L) (hB : B = w.heap.size) (hb : Below B w w') : Its w' A L := by
  subst hB
  rcases h with h | ⟨b, o, hA, hlt, h⟩
  · exact .inl h
  · have := hb.size
    exact .inr ⟨b, o, hA, by omega, fun k y hk j v hv => by rw [hb.cell (show (⟨b, o + k * 7 + j, none⟩ : Addr).block < w.heap.size from hlt)]; exact h k y hk j v hv⟩
theorem Its.at {w : World} {A : Option Addr} {L : List It.Itm} (h : Its w A L) {k : Nat} (hk : k < L.length) : ∃ b o, A = some ⟨b, o, none⟩ ∧ b < w.heap.size ∧ It7 w b (o + k * 7) L[k] := by
  rcases h with rfl | ⟨b, o, hA, hlt, h⟩
  · simp at hk
  · exact ⟨b, o, hA, hlt, h k _ (List.getElem?_eq_getElem hk)⟩
theorem Its.of_own {w : World} {base : Nat} {e : TypeId} {v : Value} {n : Nat} {L : List It.Itm} (h : w.ownsRow base e 7 v n (cellsL L)) :
    n = L.length ∧ ∃ A c, v = .slice A n c ∧ n ≤ c ∧ Its w A L := by
  have hl : L.length = n := by have := h.1; rw [cellsL_length] at this; omega
  refine ⟨hl.symm, ?_⟩
  rcases h.2 with ⟨rfl, rfl⟩ | ⟨g, cap, cur, rfl, _, hh, hc, _⟩
  · exact ⟨none, 0, rfl, Nat.le_refl _, .inl (List.eq_nil_of_length_eq_zero hl)⟩
  · refine ⟨some ⟨g, 0, none⟩, cap, rfl, hc, .inr ⟨g, 0, rfl, (Array.getElem?_eq_some_iff.1 hh).1, fun k y hk j u hu => ?_⟩⟩
    have hj : j < 7 := by
      have := (List.getElem?_eq_some_iff.1 hu).1
      rwa [cells7_length] at this
    have := h.cells (g := g) rfl (k * 7 + j) u (by rw [cellsL_at L k j y hk hj]; exact hu)
    rw [Go.WideShapes.add_plain] at this
    rw [show 0 + k * 7 + j = 0 + (k * 7 + j) by omega]
    exact this
theorem Its.news {w : World} {b o : Nat} {L : List It.Itm} (h : ∀ k y, L[k]? = some y → It7 w b (o + k * 7) y) : ∀ j u, (cellsL L)[j]? = some u → w.cell? ((⟨b, o, none⟩ : Addr).add j) = some u := fun j u hu => by
  have hl := (List.getElem?_eq_some_iff.1 hu).1
  rw [cellsL_length] at hl
  have hk : j / 7 < L.length := by omega
  have e := cellsL_at L (j / 7) (j % 7) _ (List.getElem?_eq_getElem hk) (Nat.mod_lt _ (by omega))
  rw [show j / 7 * 7 + j % 7 = j by omega, hu] at e
  rw [Go.WideShapes.add_plain]
  have := h (j / 7) _ (List.getElem?_eq_getElem hk) (j % 7) u e.symm
  rwa [show o + j / 7 * 7 + j % 7 = o + j by omega] at this

/-- An item's value. -/
abbrev itemV (y : It.Itm) : Value := .agg #[.int .i64 y.k, .string (txt y.name), .int .i64 y.n, .string (txt y.e0.n), .int .u8 y.e0.c.toNat, .string (txt y.e1.n), .int .u8 y.e1.c.toNat]
theorem infoItem : (Tryz.prog.info? 44).map (fun i => (i.zero, i.size, i.bytes)) = some (some (.agg #[.int .i64 0, .string ⟨#[]⟩, .int .i64 0, .string ⟨#[]⟩, .int .u8 0, .string ⟨#[]⟩, .int .u8 0]), 7, 80) := by kernel_rfl
/-- A fault: the error of a form, and the line; or none. -/
def faultV (n : Nat) : Value := if n = 0 then .agg #[.int .i64 0, .int .i64 0] else .agg #[.int .i64 2, .int .i64 n]
/-- What Parse leaves. -/
def SheetGives (p : List It.Itm × Nat) (w : World) (e : Ending) (w' : World) : Prop :=
  ∃ A c, p.1.length ≤ c ∧ e = .returned (.tuple #[.slice A p.1.length c, faultV p.2]) ∧ Its w' A p.1 ∧ Below w.heap.size w w'
theorem SheetGives.bad {p : List It.Itm × Nat} {w w' : World} {e : Ending} (k : Nat) (hp : p = ([], k + 1)) (he : e = .returned (.tuple #[.slice none 0 0, .agg #[.int .i64 2, .int .i64 ((k : Int) + 1)]])) (hb : Below w.heap.size w w') : SheetGives p w e w' := by
  subst hp; exact ⟨none, 0, Nat.le_refl _, by rw [he, faultV, if_neg (by omega)]; simp, .inl rfl, hb⟩
theorem SheetGives.good {p : List It.Itm × Nat} {w w' : World} {e : Ending} {A : Option Addr} {n c : Nat} {L : List It.Itm} (hp : p = (L, 0)) (hn : n = L.length) (hc : n ≤ c) (he : e = .returned (.tuple #[.slice A n c, .agg #[.int .i64 0, .int .i64 0]])) (hs : Its w' A L) (hb : Below w.heap.size w w') : SheetGives p w e w' := by
  subst hp hn; exact ⟨A, c, hc, by rw [he]; rfl, hs, hb⟩
theorem eql_fault (W : World) (a b c d : Int) : Sem.run Tryz.prog (Op.equalIn 10000 31 (.agg #[.int .i64 a, .int .i64 b]) (.agg #[.int .i64 c, .int .i64 d])) W = .ok (a == c && b == d) W := by
  cases h1 : a == c <;> cases h2 : b == d <;> go_simp
theorem bin_fault (W : World) (a b c d : Int) : Sem.run Tryz.prog (binOp .eql 31 (.agg #[.int .i64 a, .int .i64 b]) (.agg #[.int .i64 c, .int .i64 d])) W = .ok (.bool (a == c && b == d)) W := by
  rw [run_eql_struct, eql_fault]; rfl
end Go.Proofs.YtaheiolbeiofpaaGreatDoor
/-
  The walk of layer 4's Same: are two slices of items the same?
-/
namespace Go.Proofs.YtaheiolbeiofpaaGreatDoor
open Go.RowKit

theorem ne_items (W : World) (y z : It.Itm) : Sem.run Tryz.prog (binOp .neq 44 (itemV y) (itemV z)) W = .ok (.bool (!decide (y = z))) W := by
  rw [run_neq_struct, eql_items]; rfl
set_option maxHeartbeats 2000000 in
set_option maxRecDepth 100000 in
theorem isame_any (A B : Option Addr) (c d : Nat) (L M : List It.Itm) (w : World) (hA : Its w A L) (hB : Its w B M) (hl : L.length ≤ 1000000) (hm : M.length ≤ 1000000) :
    Calls Tryz.prog 19 #[.slice A L.length c, .slice B M.length d] w fun e w' => e = .returned (.bool (decide (L = M))) ∧ Below w.heap.size w w' := by
  by_cases hlm : L.length = M.length
  · have h1 : ((L.length : Int) != M.length) = false := by simpa using by omega
    have H := Lib.hid hlm
    have hle : M.length ≤ L.length := by omega
    have hge : L.length ≤ M.length := by omega
    clear hlm
    go_enter Tryz.func19, Tryz.ntmps19
    go_wp2
    go_loopw [5] (fun i wr => ∃ k : Nat, k ≤ L.length ∧ i = .int .i64 k ∧ L.take k = M.take k ∧ Below w.heap.size w wr) (fun i _ => L.length - (intOf i).toNat)
    case atStart => exact ⟨0, Nat.zero_le _, rfl, by simp, Below.refl _ _⟩
    case round =>
      obtain ⟨k, hk, rfl, ht, hbel⟩ := hrel
      have HT := Lib.hid ht
      clear ht
      by_cases hlt : k < L.length
      · obtain ⟨b, o, rfl, hb, i7⟩ := (hA.below rfl hbel).at hlt
        obtain ⟨b', o', rfl, hb', i7'⟩ := (hB.below rfl hbel).at (k := k) (by omega)
        obtain ⟨a0, a1, a2, a3, a4, a5, a6⟩ := i7.cells
        obtain ⟨b0, b1, b2, b3, b4, b5, b6⟩ := i7'.cells
        clear i7 i7'
        by_cases he : L[k] = M[k]'(by omega)
        · have hn : (!decide (L[k] = M[k]'(by omega))) = false := by rw [he]; simp
          have HE := Lib.hid he
          clear he
          have Q := fun W => (ne_items W L[k] (M[k]'(by omega))).trans (by rw [hn])
          go_wp2
          go_region
          go_wp2
          go_roundw
          case rel => exact ⟨k + 1, by omega, by go_num, by rw [List.take_succ_eq_append_getElem hlt, List.take_succ_eq_append_getElem (by omega), HT.out, HE.out], hbel.drew⟩
          case measure => simp [intOf]; omega
        · have hn : (!decide (L[k] = M[k]'(by omega))) = true := by simpa using he
          have HE := Lib.hid he
          clear he
          have Q := fun W => (ne_items W L[k] (M[k]'(by omega))).trans (by rw [hn])
          go_wp2
          go_region
          go_wp2
          go_ret
          exact ⟨retB (dec_f (fun e => HE.out (by subst e; rfl))).symm, hbel.drew⟩
      · go_wp2
        go_ret
        refine ⟨retB ?_, hbel⟩
        have := HT.out
        rw [List.take_of_length_le (by omega), List.take_of_length_le (by omega)] at this
        exact (dec_t this).symm
  · have h1 : ((L.length : Int) != M.length) = true := by simpa using by omega
    go_enter Tryz.func19, Tryz.ntmps19
    go_wp2
    go_ret
    exact ⟨retB (dec_f (fun e => hlm (by rw [e]))).symm, Below.refl _ _⟩
end Go.Proofs.YtaheiolbeiofpaaGreatDoor
/-
  The walk of layer 4's Parse.
-/
namespace Go.Proofs.YtaheiolbeiofpaaGreatDoor
open Go.RowKit

theorem row2f {w : World} {g : Nat} {a b : Value} {t : TypeId} (h : w.heap[g]? = some (.cells #[a, b] t (0, 0))) :
    (w.cell? ⟨g, 0, none⟩ = some a ∧ w.cell? ⟨g, 1, none⟩ = some b) ∧ (w.frozen? ⟨g, 0, none⟩ = false ∧ w.frozen? ⟨g, 1, none⟩ = false) ∧ g < w.heap.size :=
  ⟨⟨cell_of_row w g 0 _ t _ h, cell_of_row w g 1 _ t _ h⟩, ⟨frozen_of_row w g 0 _ t h, frozen_of_row w g 1 _ t h⟩, (Array.getElem?_eq_some_iff.1 h).1⟩
theorem good_t {wh : Bool} {L : List (List UInt8)} {k : Nat} (hk : k < L.length) {y : It.Itm} (hy : It.parse L[k] = some y) (h : wh = true ∨ k + 1 < L.length) : Sh.good wh L k = true := by
  rw [Sh.good_iff hk, hy]
  rcases h with rfl | h
  · rfl
  · rw [decide_eq_true h]; simp
theorem good_n {wh : Bool} {L : List (List UInt8)} {k : Nat} (hk : k < L.length) (hy : It.parse L[k] = none) : Sh.good wh L k = false := by
  rw [Sh.good_iff hk, hy]; rfl
theorem good_l {L : List (List UInt8)} {k : Nat} (hk : k < L.length) (h : ¬ k + 1 < L.length) : Sh.good false L k = false := by
  rw [Sh.good_iff hk, decide_eq_false h]; simp
theorem good_next {wh : Bool} {L : List (List UInt8)} {k : Nat} (h0 : ∀ j < k, Sh.good wh L j = true) (h : Sh.good wh L k = true) : ∀ j < k + 1, Sh.good wh L j = true := fun j hj => by
  rcases Nat.lt_or_ge j k with h1 | h1
  · exact h0 j h1
  · obtain rfl : j = k := by omega
    exact h
end Go.Proofs.YtaheiolbeiofpaaGreatDoor
/-
  The walk of the document's answer to layer 4's Parse.
-/
namespace Go.Proofs.YtaheiolbeiofpaaGreatDoor
open Go.RowKit

set_option maxHeartbeats 4000000 in
set_option maxRecDepth 100000 in
theorem rsparse_any (s : ByteArray) (w : World) (hs : s.size ≤ 1000000) :
    Calls Tryz.prog 22 #[.string s] w (SheetGives (Sh.parse s.data.toList) w) := by
  obtain ⟨i0, hi, hz0, hz1, hz2⟩ := info_parts infoItem
  have hb0 := Lib.hid ((Below.refl w.heap.size w).alloc (Nat.le_refl _) (.cells #[.int .i64 0, .int .i64 0] 31))
  have W := rsplit_any s (w.alloc (.cells #[.int .i64 0, .int .i64 0] 31)) hs
  have R0 := Lib.hid (show (w.alloc (.cells #[.int .i64 0, .int .i64 0] 31)).heap[w.heap.size]? = some (.cells #[.int .i64 0, .int .i64 0] 31 (0, 0)) from heap_alloc_new _ _)
  have hsz : s.data.toList.length = s.size := by simp
  obtain ⟨hle, hln⟩ := Sh.split_le s.data.toList
  have PS := Lib.hid (fun k => @Sh.parse_some s.data.toList k)
  have PN := Lib.hid (@Sh.parse_none s.data.toList)
  obtain ⟨L, hL⟩ : ∃ L, Ln.split s.data.toList = L := ⟨_, rfl⟩
  obtain ⟨wh, hwh⟩ : ∃ wh, Ln.whole s.data.toList = wh := ⟨_, rfl⟩
  rw [hL, hwh] at W PS PN
  rw [hL] at hle hln
  have hlen : L.length ≤ 1000001 := by omega
  have LE := Lib.hid (fun x hx => Nat.le_trans (hle x hx) (show s.data.toList.length ≤ 1000000 by omega))
  have C := Lib.hid W
  clear W hsz hle hln hL hwh
  go_enter Tryz.func22, Tryz.ntmps22
  go_wp2_with fail
  refine C.out.mono ?_; rintro e w1 ⟨a, c, hc, rfl, hs1, hb1⟩
  have r1 := (hb1.block _ (show w.heap.size < (w.alloc (.cells #[.int .i64 0, .int .i64 0] 31)).heap.size by simp)).trans R0.out
  have R1 := Lib.hid r1
  have hz1' := (row2f r1).2.2
  have hbW := Lib.hid (hb0.out.trans (hb1.mono (by simp)))
  clear r1 hb1
  go_wp2
  go_loopw [6, 7] (fun v i wr => ∃ k : Nat, k ≤ L.length ∧ i = .int .i64 k ∧ (∀ j < k, Sh.good wh L j = true) ∧ wr.ownsRow w1.heap.size 44 7 v k (cellsL (Sh.items (L.take k))) ∧ Below w1.heap.size w1 wr) (fun _ i _ => L.length - (intOf i).toNat)
  case atStart => exact ⟨0, Nat.zero_le _, rfl, fun j hj => absurd hj (by omega), World.ownsRow_nil _ _ _ _, Below.refl _ _⟩
  case round =>
    obtain ⟨k, hk, rfl, hg, hown, hbel⟩ := hrel
    have HG := Lib.hid hg
    clear hg
    have hz := hbel.size
    have RR := Lib.hid (stay_row R1.out hbel)
    by_cases hlt : k < L.length
    · obtain ⟨a', rfl, hb, hcell⟩ := (hs1.below rfl hbel).cell hlt
      rw [str] at hcell
      have PC := Lib.hid (riparse_any (txt L[k]) wr (by rw [txt_size]; exact LE.out _ (List.getElem_mem hlt)))
      rw [txt_toList] at PC
      have OW := Lib.hid hown
      clear hown
      go_wp2_with fail
      refine PC.out.mono ?_; rintro e w2 ⟨y, rfl, hyy, hb2⟩
      have r2 := stay_row RR.out hb2
      obtain ⟨⟨a0, a1⟩, ⟨f0, f1⟩, hgz⟩ := row2f r2
      have n0 := World.new_ne _ _ a0
      have hbX := Lib.hid (hbW.out.trans ((hbel.mono hbW.out.size).trans (hb2.mono (Nat.le_trans hbW.out.size hz))))
      clear r2
      cases hpk : It.parse L[k] with
      | none =>
        have P := Lib.hid (PS.out _ (Sh.bad_at hlt HG.out (good_n hlt hpk)))
        clear hpk hyy
        rw [Option.isSome_none]
        go_wp2_with fail
        refine bodyPost_ret ?_ rfl (SheetGives.bad k P.out rfl ?_)
        · simp [results, Tryz.results22, go_sem, *]
        · refine Below.alloc ?_ (by simpa using hbX.out.size) _; (repeat (with_reducible refine Below.setCell ?_ (by first | exact Nat.le_refl _ | exact Nat.le_succ _) _)); exact hbX.out
      | some z =>
        obtain rfl : y = z := by rw [hpk] at hyy; exact hyy
        clear hyy
        rw [Option.isSome_some]
        by_cases hend : wh = true ∨ k + 1 < L.length
        · have HN := Lib.hid (good_next HG.out (good_t hlt hpk hend))
          have IT := Lib.hid (Sh.items_snoc hlt hpk)
          have OW2 := Lib.hid (((ownsRow_below OW.out hb2).alloc (.cells (cells7 y).toArray 44)).alloc (.cells (cells7 y).toArray 44))
          have NW := Lib.hid (show ∀ j u, (cells7 y)[j]? = some u → ((w2.alloc (.cells (cells7 y).toArray 44)).alloc (.cells (cells7 y).toArray 44)).cell? ((⟨w2.heap.size + 1, 0, none⟩ : Addr).add j) = some u from
            fun j u hu => World.news_of_block (B := w2.heap.size + 1) (cs := (cells7 y).toArray) (t := 44) (fr := (0, 0)) (by have := heap_alloc_new (w2.alloc (.cells (cells7 y).toArray 44)) (.cells (cells7 y).toArray 44); simpa using this) j u (by simpa using hu))
          clear hpk
          have hbz := hb2.size
          have hbE := Lib.hid ((hbel.trans (hb2.mono hz)).alloc (by omega) (.cells (cells7 y).toArray 44) |>.alloc (by simp; omega) (.cells (cells7 y).toArray 44))
          by_cases hl : k + 1 < L.length
          · have h1 : ((k : Int) == (L.length : Int) - 1) = false := by rw [beq_eq_false_iff_ne]; omega
            clear hend hl
            go_wp2_with (at_builtin; refine wpList_append_own _ rfl (.tmp 45) (.tmp 47) 22 rfl w1.heap.size 44 i0 _ 7 80 Tryz.underlying22 hi hz0 hz1 hz2 rfl (by decide) _ _ _ rfl OW2.out ⟨w2.heap.size + 1, 0, none⟩ 1 1 (cells7 y) rfl rfl NW.out (cells7_one y) (by unfold maxLen; omega) (by omega) (by simp; omega) ?_; intro v1 w3 hown1 hg1 _)
            have hB3 := Lib.hid (hbE.out.grown hg1 (by simp; omega) (fun g hg => (OW2.out.lt g hg).1))
            have O3 := Lib.hid hown1
            clear hown1 hg1
            go_wp2
            go_roundw
            case rel => exact ⟨k + 1, by omega, by go_num, HN.out, by rw [IT.out, cellsL_append, cellsL_one]; exact O3.out, hB3.out⟩
            case measure => simp [intOf]; omega
          · have h1 : ((k : Int) == (L.length : Int) - 1) = true := by rw [beq_iff_eq]; omega
            obtain rfl : wh = true := by rcases hend with h | h; exact h; exact absurd h hl
            clear hend hl
            go_wp2_with (at_builtin; refine wpList_append_own _ rfl (.tmp 45) (.tmp 47) 22 rfl w1.heap.size 44 i0 _ 7 80 Tryz.underlying22 hi hz0 hz1 hz2 rfl (by decide) _ _ _ rfl OW2.out ⟨w2.heap.size + 1, 0, none⟩ 1 1 (cells7 y) rfl rfl NW.out (cells7_one y) (by unfold maxLen; omega) (by omega) (by simp; omega) ?_; intro v1 w3 hown1 hg1 _)
            have hB3 := Lib.hid (hbE.out.grown hg1 (by simp; omega) (fun g hg => (OW2.out.lt g hg).1))
            have O3 := Lib.hid hown1
            clear hown1 hg1
            go_wp2
            go_roundw
            case rel => exact ⟨k + 1, by omega, by go_num, HN.out, by rw [IT.out, cellsL_append, cellsL_one]; exact O3.out, hB3.out⟩
            case measure => simp [intOf]; omega
        · obtain ⟨hw, hl⟩ : wh = false ∧ ¬ k + 1 < L.length := ⟨by cases wh <;> simp_all, fun h => hend (.inr h)⟩
          subst hw
          have P := Lib.hid (PS.out _ (Sh.bad_at hlt HG.out (good_l hlt hl)))
          have h1 : ((k : Int) == (L.length : Int) - 1) = true := by rw [beq_iff_eq]; omega
          clear hpk hend hl
          go_wp2_with fail
          refine bodyPost_ret ?_ rfl (SheetGives.bad k P.out rfl ?_)
          · simp [results, Tryz.results22, go_sem, *]
          · refine Below.alloc ?_ (by simpa using hbX.out.size) _; (repeat (with_reducible refine Below.setCell ?_ (by first | exact Nat.le_refl _ | exact Nat.le_succ _) _)); exact hbX.out
    · have H0 := Lib.hid (PN.out (Sh.bad_no fun j hj => HG.out j (by omega)))
      have RR2 := RR.out
      obtain ⟨⟨a0, a1⟩, ⟨f0, f1⟩, hgz⟩ := row2f RR2
      obtain rfl : k = L.length := by omega
      have e0 : L.take L.length = L := List.take_of_length_le (Nat.le_refl _)
      rw [e0] at hown
      obtain ⟨hn, A, c', rfl, hcap, hits⟩ := Its.of_own (ownsRow_setCell_below (ownsRow_setCell_below hown (a := ⟨w.heap.size, 0, none⟩) hz1' (.int .i64 0)) (a := ⟨w.heap.size, 1, none⟩) hz1' (.int .i64 0))
      have HN := Lib.hid hn
      clear e0 hown hn RR2
      go_wp2_with fail
      refine bodyPost_ret ?_ rfl (SheetGives.good (A := A) H0.out HN.out hcap rfl hits ?_)
      · simp [results, Tryz.results22, go_sem, *]
      · (repeat (with_reducible refine Below.setCell ?_ (by first | exact Nat.le_refl _ | exact Nat.le_succ _) _)); exact hbW.out.trans (hbel.mono hbW.out.size)
end Go.Proofs.YtaheiolbeiofpaaGreatDoor
/-
  The walks of layer 4's Print, and of the document's answer to it.
-/
namespace Go.Proofs.YtaheiolbeiofpaaGreatDoor
open Go.RowKit

/-- Items that may be written: numbers from 0 on, names of whatever moderate length. -/
def FitsP (y : It.Itm) : Prop := 0 ≤ y.n ∧ y.n ≤ 9223372036854775807 ∧ y.name.length ≤ 1000 ∧ y.e0.n.length ≤ 1000 ∧ y.e1.n.length ≤ 1000
theorem iprint_y (y : It.Itm) (w : World) (h : FitsP y) (hE : Env w) :
    Calls Tryz.prog 77 #[itemV y] w fun e w' => e = .returned (.string (txt (It.print y))) ∧ Below w.heap.size w w' := by
  have := iprint_any y.k (txt y.name) y.n (txt y.e0.n) y.e0.c (txt y.e1.n) y.e1.c w h.1 h.2.1 (by rw [txt_size]; exact h.2.2.1) (by rw [txt_size]; exact h.2.2.2.1) (by rw [txt_size]; exact h.2.2.2.2) hE
  rwa [ofV_txt] at this
theorem riprint_y (y : It.Itm) (w : World) (h : FitsP y) :
    Calls Tryz.prog 40 #[itemV y] w fun e w' => e = .returned (.string (txt (It.print y))) ∧ Below w.heap.size w w' := by
  have := riprint_any y.k (txt y.name) y.n (txt y.e0.n) y.e0.c (txt y.e1.n) y.e1.c w h.1 h.2.1 (by rw [txt_size]; exact h.2.2.1) (by rw [txt_size]; exact h.2.2.2.1) (by rw [txt_size]; exact h.2.2.2.2)
  rwa [ofV_txt] at this
/-- The first k lines, and as many empty ones as are left. -/
def lines0 (L : List It.Itm) (k : Nat) : List (List UInt8) := (L.take k).map It.print ++ List.replicate (L.length - k) []
theorem lines0_len (L : List It.Itm) (k : Nat) (h : k ≤ L.length) : (lines0 L k).length = L.length := by simp [lines0]; omega
theorem lines0_set (L : List It.Itm) (k : Nat) (h : k < L.length) : ((lines0 L k).map str).set k (str (It.print L[k])) = (lines0 L (k + 1)).map str := by
  have e : L.length - k = (L.length - (k + 1)) + 1 := by omega
  rw [lines0, lines0, e, List.replicate_succ, List.take_succ_eq_append_getElem h]
  simp only [List.map_append, List.map_cons, List.map_nil]
  rw [List.set_append_right _ _ (by simp; omega)]
  rw [show k - ((L.take k).map It.print |>.map str).length = 0 by simp; omega]
  simp
set_option maxHeartbeats 4000000 in
set_option maxRecDepth 100000 in
theorem rsprint_any (A : Option Addr) (c : Nat) (L : List It.Itm) (w : World) (h : Its w A L) (hl : L.length ≤ 100000) (hf : ∀ y ∈ L, FitsP y) (hx : (Sh.print L).length ≤ 10000000) :
    Calls Tryz.prog 23 #[.slice A L.length c] w fun e w' => e = .returned (.string (txt (Sh.print L))) ∧ Below w.heap.size w w' := by
  obtain ⟨i0, hi, hz0, hz1, hz2⟩ := info_parts infoStr
  have HF := Lib.hid hf
  have HX := Lib.hid hx
  clear hf hx
  go_enter Tryz.func23, Tryz.ntmps23
  go_wp2_with fail
  go_loopw [3, 4] (fun v i wr => ∃ k : Nat, k ≤ L.length ∧ i = .int .i64 k ∧ wr.ownsRow w.heap.size 9 1 v k (((L.take k).map It.print).map str) ∧ Below w.heap.size w wr) (fun _ i _ => L.length - (intOf i).toNat)
  case atStart => exact ⟨0, Nat.zero_le _, rfl, World.ownsRow_nil _ _ _ _, Below.refl _ _⟩
  case round =>
    obtain ⟨k, hk, rfl, hown, hbel⟩ := hrel
    have hz := hbel.size
    by_cases hlt : k < L.length
    · obtain ⟨b, o, rfl, hb, i7⟩ := (h.below rfl hbel).at hlt
      obtain ⟨a0, a1, a2, a3, a4, a5, a6⟩ := i7.cells
      clear i7
      have PC := Lib.hid (riprint_y L[k] wr (HF.out _ (List.getElem_mem hlt)))
      have OW := Lib.hid hown
      clear hown
      go_wp2_with fail
      refine PC.out.mono ?_; rintro e w2 ⟨rfl, hb2⟩
      have hz2' := hb2.size
      have O2 := ownsRow_below OW.out hb2
      have hbX := hbel.trans (hb2.mono hz)
      have E := Lib.hid (show ((L.take (k + 1)).map It.print).map str = ((L.take k).map It.print).map str ++ [.string (txt (It.print L[k]))] by rw [List.take_succ_eq_append_getElem hlt, List.map_append, List.map_append]; rfl)
      go_wp2_with (at_builtin; refine wpList_append_own _ rfl (.tmp 11) (.tmp 17) 79 rfl w.heap.size 9 i0 (.string ByteArray.empty) 1 16 Tryz.underlying79 hi hz0 hz1 hz2 rfl (by decide) _ _ _ rfl (O2.alloc _) ⟨w2.heap.size, 0, none⟩ 1 1 [.string (txt (It.print L[k]))] rfl rfl (cell_one_new _ _ _) (fun x hx => by simp at hx; subst hx; rfl) (by unfold maxLen; omega) (by omega) (by simp; omega) ?_; intro v1 w1 hown1 hg1 _)
      have hbel1 : Below w.heap.size w w1 := (hbX.alloc (by omega) _).grown hg1 (by simp; omega) (fun g hg => (O2.lt g hg).1)
      have O1 := Lib.hid hown1
      clear hown1 hg1 O2
      go_wp2
      go_roundw
      case rel => exact ⟨k + 1, by omega, by go_num, by rw [E.out]; exact O1.out, hbel1⟩
      case measure => simp [intOf]; omega
    · obtain rfl : k = L.length := by omega
      obtain ⟨hn, A', c', rfl, hcap, hstr⟩ := Strs.of_own hown
      have e1 : L.take L.length = L := List.take_of_length_le (Nat.le_refl _)
      rw [e1] at hstr
      have T := rtext_any A' c' (L.map It.print) wr hstr (by simp; omega) HX.out
      rw [List.length_map] at T
      have TC := Lib.hid T
      clear T hn hcap hstr hown e1
      go_wp2_with fail
      refine TC.out.mono ?_; rintro e w2 ⟨rfl, rfl⟩
      go_wp2
      go_ret
      exact ⟨rfl, hbel⟩
end Go.Proofs.YtaheiolbeiofpaaGreatDoor
/-
  The walk of layer 4's short: are items few, of short names, of numbers from 0 on?
-/
namespace Go.Proofs.YtaheiolbeiofpaaGreatDoor
open Go.RowKit

def shortY (y : It.Itm) : Bool := decide (0 ≤ y.n) && (decide (y.name.length ≤ 50) && (decide (y.e0.n.length ≤ 50) && decide (y.e1.n.length ≤ 50)))
def shortL (L : List It.Itm) : Bool := decide (L.length ≤ 40) && L.all shortY
theorem shortY_no {L : List It.Itm} {k : Nat} (hk : k < L.length) (h : shortY L[k] = false) : shortL L = false := by
  rw [shortL, Bool.and_eq_false_iff]
  exact .inr (List.all_eq_false.2 ⟨_, List.getElem_mem hk, by rw [h]; simp⟩)
theorem shortL_fits {L : List It.Itm} (h : shortL L = true) (hN : ∀ y ∈ L, y.n ≤ 9223372036854775807) : L.length ≤ 40 ∧ ∀ y ∈ L, FitsP y := by
  rw [shortL, Bool.and_eq_true, decide_eq_true_iff, List.all_eq_true] at h
  refine ⟨h.1, fun y hy => ?_⟩
  have := h.2 y hy
  simp only [shortY, Bool.and_eq_true, decide_eq_true_iff] at this
  exact ⟨this.1, hN y hy, by omega, by omega, by omega⟩
end Go.Proofs.YtaheiolbeiofpaaGreatDoor
/-
  Slices of structs in memory, whatever the struct: which values their cells hold, so many cells an element; kept where nothing below the heap's end changes. No function of the program is named here.
-/
namespace Go.Proofs.YtaheiolbeiofpaaGreatDoor
open Go.RowKit

/-- How a thing of ours lies in memory: so many cells, each a value of one cell. -/
structure Lies (α : Type) where
  m : Nat
  pos : 0 < m
  enc : α → List Value
  len : ∀ y, (enc y).length = m
  one : ∀ y, ∀ u ∈ enc y, u.oneCell' = true
section
variable {α : Type} (E : Lies α)
def Lies.all (L : List α) : List Value := L.flatMap E.enc
theorem Lies.all_append (a b : List α) : E.all (a ++ b) = E.all a ++ E.all b := by simp [Lies.all]
theorem Lies.all_one (y : α) : E.all [y] = E.enc y := by simp [Lies.all]
theorem Lies.all_cons (y : α) (L : List α) : E.all (y :: L) = E.enc y ++ E.all L := by simp [Lies.all]
theorem Lies.all_len : ∀ L : List α, (E.all L).length = L.length * E.m
  | [] => by simp [Lies.all]
  | y :: L => by rw [E.all_cons, List.length_append, Lies.all_len L, E.len, List.length_cons, Nat.succ_mul]; omega
theorem Lies.all_at : ∀ (L : List α) (k j : Nat) (y : α), L[k]? = some y → j < E.m → (E.all L)[k * E.m + j]? = (E.enc y)[j]?
  | [], _, _, _, h, _ => by simp at h
  | x :: L, 0, j, y, h, hj => by
    obtain rfl : x = y := by simpa using h
    rw [E.all_cons, List.getElem?_append_left (by rw [E.len]; omega)]
    congr 1; omega
  | x :: L, k + 1, j, y, h, hj => by
    rw [E.all_cons, List.getElem?_append_right (by rw [E.len, Nat.succ_mul]; omega), E.len]
    rw [show (k + 1) * E.m + j - E.m = k * E.m + j by rw [Nat.succ_mul]; omega]
    exact Lies.all_at L k j y (by simpa using h) hj
theorem Lies.all_single (L : List α) : ∀ u ∈ E.all L, u.oneCell' = true := fun u hu => by
  obtain ⟨y, _, h⟩ := List.mem_flatMap.1 hu
  exact E.one y u h
/-- Cells that hold a thing. -/
def Lies.On (w : World) (b o : Nat) (y : α) : Prop := ∀ j v, (E.enc y)[j]? = some v → w.cell? ⟨b, o + j, none⟩ = some v
/-- The cells from A on hold these. -/
def Lies.Row (w : World) (A : Option Addr) (L : List α) : Prop := L = [] ∨ ∃ b o, A = some ⟨b, o, none⟩ ∧ b < w.heap.size ∧ ∀ k y, L[k]? = some y → E.On w b (o + k * E.m) y
theorem Lies.Row.nil (w : World) (A : Option Addr) : E.Row w A [] := .inl rfl
variable {E}
theorem Lies.On.below {w w' : World} {b o : Nat} {y : α} {B : Nat} (h : E.On w b o y) (hlt : b < B) (hb : Below B w w') : E.On w' b o y := fun j v hv => by
  rw [hb.cell (show (⟨b, o + j, none⟩ : Addr).block < B from hlt)]; exact h j v hv
theorem Lies.Row.below {w w' : World} {A : Option Addr} {L : List α} {B : Nat} (h : E.Row w A L) (hB : B = w.heap.size) (hb : Below B w w') : E.Row w' A L := by
  subst hB
  rcases h with h | ⟨b, o, hA, hlt, h⟩
  · exact .inl h
  · have := hb.size
    exact .inr ⟨b, o, hA, by omega, fun k y hk => (h k y hk).below hlt hb⟩
theorem Lies.Row.at {w : World} {A : Option Addr} {L : List α} (h : E.Row w A L) {k : Nat} (hk : k < L.length) : ∃ b o, A = some ⟨b, o, none⟩ ∧ b < w.heap.size ∧ E.On w b (o + k * E.m) L[k] := by
  rcases h with rfl | ⟨b, o, hA, hlt, h⟩
  · simp at hk
  · exact ⟨b, o, hA, hlt, h k _ (List.getElem?_eq_getElem hk)⟩
theorem Lies.Row.of_own {w : World} {base : Nat} {e : TypeId} {v : Value} {n : Nat} {L : List α} (h : w.ownsRow base e E.m v n (E.all L)) :
    n = L.length ∧ ∃ A c, v = .slice A n c ∧ n ≤ c ∧ E.Row w A L := by
  have hl : L.length = n := by
    have := h.1
    rw [E.all_len] at this
    exact Nat.eq_of_mul_eq_mul_right E.pos this
  refine ⟨hl.symm, ?_⟩
  rcases h.2 with ⟨rfl, rfl⟩ | ⟨g, cap, cur, rfl, _, hh, hc, _⟩
  · exact ⟨none, 0, rfl, Nat.le_refl _, .inl (List.eq_nil_of_length_eq_zero hl)⟩
  · refine ⟨some ⟨g, 0, none⟩, cap, rfl, hc, .inr ⟨g, 0, rfl, (Array.getElem?_eq_some_iff.1 hh).1, fun k y hk j u hu => ?_⟩⟩
    have hj : j < E.m := by
      have := (List.getElem?_eq_some_iff.1 hu).1
      rwa [E.len] at this
    have := h.cells (g := g) rfl (k * E.m + j) u (by rw [E.all_at L k j y hk hj]; exact hu)
    rw [Go.WideShapes.add_plain] at this
    rw [show 0 + k * E.m + j = 0 + (k * E.m + j) by omega]
    exact this
/-- A thing in a row of the call's own. -/
theorem Lies.own_on {w : World} {base : Nat} {e : TypeId} {g cap n : Nat} {L : List α} (h : w.ownsRow base e E.m (.slice (some ⟨g, 0, none⟩) n cap) n (E.all L)) {k : Nat} {y : α} (hk : L[k]? = some y) : E.On w g (k * E.m) y := by
  intro j u hu
  have hj : j < E.m := by
    have := (List.getElem?_eq_some_iff.1 hu).1
    rwa [E.len] at this
  have := h.cells (g := g) rfl (k * E.m + j) u (by rw [E.all_at L k j y hk hj]; exact hu)
  rw [Go.WideShapes.add_plain] at this
  rwa [Nat.zero_add] at this
theorem Lies.news {w : World} {b o : Nat} {L : List α} (h : ∀ k y, L[k]? = some y → E.On w b (o + k * E.m) y) : ∀ j u, (E.all L)[j]? = some u → w.cell? ((⟨b, o, none⟩ : Addr).add j) = some u := fun j u hu => by
  have hl := (List.getElem?_eq_some_iff.1 hu).1
  rw [E.all_len] at hl
  have hp := E.pos
  have hk : j / E.m < L.length := (Nat.div_lt_iff_lt_mul hp).2 hl
  have e := E.all_at L (j / E.m) (j % E.m) _ (List.getElem?_eq_getElem hk) (Nat.mod_lt _ hp)
  have hj : j / E.m * E.m + j % E.m = j := by rw [Nat.mul_comm]; exact Nat.div_add_mod j E.m
  rw [hj, hu] at e
  rw [Go.WideShapes.add_plain]
  have := h (j / E.m) _ (List.getElem?_eq_getElem hk) (j % E.m) u e.symm
  rwa [show o + j / E.m * E.m + j % E.m = o + j by omega] at this
/-- A block of these that was laid just now. -/
theorem Lies.Row.fresh (w : World) (L : List α) (t : TypeId) : E.Row (w.alloc (.cells (E.all L).toArray t)) (some ⟨w.heap.size, 0, none⟩) L := by
  refine .inr ⟨w.heap.size, 0, rfl, by simp, fun k y hk j v hv => ?_⟩
  have hj : j < E.m := by
    have := (List.getElem?_eq_some_iff.1 hv).1
    rwa [E.len] at this
  rw [cell_of_row _ _ _ _ _ _ (heap_alloc_new w _), List.getElem?_toArray, Nat.zero_add, E.all_at L k j y hk hj]
  exact hv
/-- One cell of one element is another one: the element is. -/
theorem Lies.set_cell (L : List α) (k j : Nat) (x y : α) (hx : L[k]? = some x) (hj : j < E.m) (u : Value) (hu : (E.enc x).set j u = E.enc y) : (E.all L).set (k * E.m + j) u = E.all (L.set k y) := by
  apply List.ext_getElem?
  intro i
  have hkl := (List.getElem?_eq_some_iff.1 hx).1
  have hlen : (E.all (L.set k y)).length = (E.all L).length := by rw [E.all_len, E.all_len, List.length_set]
  by_cases hi : i < L.length * E.m
  · have hp := E.pos
    have hk' : i / E.m < L.length := (Nat.div_lt_iff_lt_mul hp).2 hi
    have hi' : i / E.m * E.m + i % E.m = i := by rw [Nat.mul_comm]; exact Nat.div_add_mod i E.m
    have hmod := Nat.mod_lt i hp
    by_cases hik : i / E.m = k
    · have hik' : k * E.m + i % E.m = i := by rw [← hik]; exact hi'
      have r : (E.all (L.set k y))[i]? = (E.enc y)[i % E.m]? := by
        have := E.all_at (L.set k y) k (i % E.m) y (by rw [List.getElem?_set_self hkl]) hmod
        rwa [hik'] at this
      rw [r, ← hu]
      by_cases hij : i % E.m = j
      · rw [hij, List.getElem?_set_self (by rw [E.len]; exact hj)]
        rw [show k * E.m + j = i by rw [← hij]; exact hik']
        rw [List.getElem?_set_self (by rw [E.all_len]; exact hi)]
      · rw [List.getElem?_set_ne (by omega), List.getElem?_set_ne (by omega)]
        have := E.all_at L k (i % E.m) x hx hmod
        rwa [hik'] at this
    · rw [List.getElem?_set_ne (fun e => hik (by rw [← e, Nat.mul_comm, Nat.mul_add_div hp, Nat.div_eq_of_lt hj, Nat.add_zero]))]
      have a := E.all_at L (i / E.m) (i % E.m) _ (List.getElem?_eq_getElem hk') hmod
      have b := E.all_at (L.set k y) (i / E.m) (i % E.m) L[i / E.m] (by rw [List.getElem?_set_ne (Ne.symm hik)]; exact List.getElem?_eq_getElem hk') hmod
      rw [hi'] at a b
      rw [a, b]
  · rw [List.getElem?_eq_none (by rw [List.length_set, E.all_len]; omega), List.getElem?_eq_none (by rw [hlen, E.all_len]; omega)]
end
/-- The library's law on append, of things that lie anywhere (none, too), onto a slice of the call's own. -/
theorem wpList_append_row {α : Type} (E : Lies α) {P : Program} (w : World) {ops : Array Oper} {rest : List Oper} {o : Oper} {a : Act} {Q : Exit → Act → World → Prop} (hw : Region.wanted o (yielded ops a.tmps) = true) (s x : Operand) (t : TypeId)
    (ho : o.op = .call { callee := .builtin .append, args := #[s, x], argTypes := #[t, t] })
    (base : Nat) (e : TypeId) (i : TypeInfo) (z : Value) (bytes : Nat) (ht : P.underlying t = some (.slice e)) (hi : P.info? e = some i) (hz : i.zero = some z)
    (hsize : i.size = E.m) (hby : i.bytes = bytes) (hzs : z.cells.size = E.m)
    (v : Value) (n : Nat) (xs : List Value) (hs : a.eval s = v) (hown : w.ownsRow base e E.m v n xs)
    (A : Option Addr) (c m : Nat) (L : List α) (hm : L.length = m) (h0 : 0 < m) (hx : a.eval x = .slice A m c) (hI : E.Row w A L) (hn : n + m ≤ 1000000000) (hbytes : (n + m) * bytes ≤ 140737488355328) (hbase : base ≤ w.heap.size)
    (h : ∀ g' cap' w', w'.ownsRow base e E.m (.slice (some ⟨g', 0, none⟩) (n + m) cap') (n + m) (xs ++ E.all L) → w.grownBy w' v.ownBlock → (v.ownBlock = some g' ∨ g' = w.heap.size) → wpList P ops Q rest (a.put o.dst (.slice (some ⟨g', 0, none⟩) (n + m) cap')) w') : wpList P ops Q (o :: rest) a w := by
  subst hm
  rcases hI with hI | ⟨b, off, rfl, _, hI⟩
  · subst hI; simp at h0
  exact BigFrame.wpList_want hw fun _ hK => wp_append_lies w s x t ho base e i z E.m bytes ht hi hz hsize hby hzs E.pos _ n xs hs hown ⟨b, off, none⟩ L.length c (E.all L) hx (E.all_len L) (Lies.news hI) (E.all_single L) h0 (by unfold maxLen; omega) hbytes hbase _ rfl
    fun g' cap' w' h2 h3 h4 _ => hK _ _ (h g' cap' w' h2 h3 h4)
end Go.Proofs.YtaheiolbeiofpaaGreatDoor
