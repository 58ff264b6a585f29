/-
  The walks of layer 2's four functions, over the library's contracts of strings.Split, strings.Join and strings.Builder.
-/
import Derived.Test.YtgagandecjljoaaDoorLnSmall
namespace Go.Proofs.YtgagandecjljoaaDoor
open Go.RowKit

/-- strings.Split at one byte. -/
theorem split_lib (c : UInt8) (s : ByteArray) (w : World) (hM : MaxOk w) (hs : s.size ≤ 1000000) (d : List (List UInt8)) (r : List UInt8) (hst : Ln.st c s.data.toList = (d, r)) :
    Calls Tryd.prog 29 #[.string s, .string ⟨#[c]⟩] w fun e w' => ∃ a, e = .returned (.slice (some a) (d.length + 1) (d.length + 1)) ∧ Strs w' (some a) (d ++ [r]) ∧ Below w.heap.size w w' := by
  obtain ⟨m, hm⟩ := hM
  refine (Tryd.strings_Split s ⟨#[c]⟩ m w (by omega) hm (Nat.le_refl 1)).mono ?_
  rintro e w' ⟨rfl, rfl⟩
  have hl := Ln.cut_length c s
  have hp := Ln.splitB_cut c s
  have hcut : Ln.cut c s.data.toList = d ++ [r] := by rw [Ln.cut, hst]
  rw [hcut] at hl hp
  rw [List.length_append, List.length_singleton] at hl
  refine ⟨_, by rw [← hl], ?_, (Below.refl _ _).alloc (Nat.le_refl _) _⟩
  have : (Lib.splitB ⟨#[c]⟩ 0 (Lib.countB s ⟨#[c]⟩) s).map Value.string = (d ++ [r]).map str := by
    rw [← hp, List.map_map]
    apply List.map_congr_left
    intro x _
    simp [str_of]
  rw [this]
  exact Strs.fresh w _ _

theorem isE_t {r : List UInt8} (h : r = []) : (txt r).toList.isEmpty = true := by
  rw [ByteArray.toList_eq, txt_toList]; simpa using h
theorem isE_f {r : List UInt8} (h : r ≠ []) : (txt r).toList.isEmpty = false := by
  rw [ByteArray.toList_eq, txt_toList]; simpa using h

/-- The same, where the slice is known not to be nil. -/
def GivesSome (L : List (List UInt8)) (b : Bool) (w : World) (e : Ending) (w' : World) : Prop :=
  ∃ a c, L.length ≤ c ∧ e = .returned (.tuple #[.slice (some a) L.length c, .bool b]) ∧ Strs w' (some a) L ∧ Below w.heap.size w w'
theorem GivesSome.mk {L : List (List UInt8)} {b : Bool} {w w' : World} {e : Ending} {a : Addr} {n c : Nat} (hc : n ≤ c) (hn : n = L.length) (he : e = .returned (.tuple #[.slice (some a) n c, .bool b])) (hs : Strs w' (some a) L) (hb : Below w.heap.size w w') :
    GivesSome L b w e w' := by subst hn; exact ⟨a, c, hc, he, hs, hb⟩
set_option maxHeartbeats 1000000 in
theorem split_some (s : ByteArray) (w : World) (hM : MaxOk w) (hs : s.size ≤ 1000000) :
    Calls Tryd.prog 17 #[.string s] w (GivesSome (Ln.split s.data.toList) (Ln.whole s.data.toList) w) := by
  obtain ⟨d, r, hst⟩ : ∃ d r, Ln.st 10 s.data.toList = (d, r) := ⟨_, _, rfl⟩
  have hd : d.length ≤ 1000000 := by
    have := Ln.st_len 10 s.data.toList
    rw [hst] at this
    simp at this; omega
  have C := Lib.hid (split_lib 10 s w hM hs d r hst)
  have HST := Lib.hid hst
  clear hst
  by_cases hr : r = []
  · have h1 := isE_t hr
    have HR := Lib.hid hr
    clear hr
    go_enter Tryd.func17, Tryd.ntmps17
    go_wp2_with fail
    refine C.out.mono ?_; rintro e w1 ⟨a, rfl, hs1, hb1⟩
    obtain ⟨a', ha, hlt, hc⟩ := hs1 d.length r (by simp)
    cases ha
    rw [str] at hc
    go_wp2
    go_ret2
    have e1 : Ln.whole s.data.toList = true := by rw [Ln.whole, HST.out, HR.out]; rfl
    have e2 : Ln.split s.data.toList = d := by rw [Ln.split, e1, HST.out]; rfl
    rw [e1, e2]
    refine GivesSome.mk (n := d.length) (c := d.length + 1) (by omega) rfl rfl ?_ hb1
    have := hs1.take d.length
    simpa using this
  · have h1 := isE_f hr
    have HR := Lib.hid hr
    clear hr
    go_enter Tryd.func17, Tryd.ntmps17
    go_wp2_with fail
    refine C.out.mono ?_; rintro e w1 ⟨a, rfl, hs1, hb1⟩
    obtain ⟨a', ha, hlt, hc⟩ := hs1 d.length r (by simp)
    cases ha
    rw [str] at hc
    go_wp2
    go_ret2
    have e1 : Ln.whole s.data.toList = false := by rw [Ln.whole, HST.out]; simpa using HR.out
    have e2 : Ln.split s.data.toList = d ++ [r] := by rw [Ln.split, e1, Ln.cut, HST.out]; rfl
    rw [e1, e2]
    exact GivesSome.mk (n := d.length + 1) (c := d.length + 1) (by omega) (by simp) rfl hs1 hb1

theorem split_any (s : ByteArray) (w : World) (hM : MaxOk w) (hs : s.size ≤ 1000000) :
    Calls Tryd.prog 17 #[.string s] w (GivesList (Ln.split s.data.toList) (Ln.whole s.data.toList) w) :=
  (split_some s w hM hs).mono fun _ _ ⟨a, c, h⟩ => ⟨some a, c, h⟩

set_option maxHeartbeats 1000000 in
theorem words_any (s : ByteArray) (w : World) (hM : MaxOk w) (hs : s.size ≤ 1000000) :
    Calls Tryd.prog 30 #[.string s] w (GivesList (Ln.words s.data.toList) (Ln.ws true s.data.toList) w) := by
  obtain ⟨d, r, hst⟩ : ∃ d r, Ln.st 32 s.data.toList = (d, r) := ⟨_, _, rfl⟩
  have W := Lib.hid (worded_any s w (by unfold maxLen; omega))
  have C := Lib.hid (fun w' hM => split_lib 32 s w' hM hs d r hst)
  have HST := Lib.hid hst
  have HM := Lib.hid hM
  clear hst hM
  cases hb : Ln.ws true s.data.toList
  · have HB := Lib.hid hb
    rw [hb] at W
    clear hb
    go_enter Tryd.func30, Tryd.ntmps30
    go_wp2_with fail
    refine W.out.mono ?_; rintro e w1 ⟨rfl, hb1⟩
    go_wp2
    go_ret2
    rw [Ln.words, HB.out]
    exact GivesList.mk (n := 0) (c := 0) (by omega) rfl rfl (Strs.nil _ _) hb1
  · have HB := Lib.hid hb
    rw [hb] at W
    clear hb
    go_enter Tryd.func30, Tryd.ntmps30
    go_wp2_with fail
    refine W.out.mono ?_; rintro e w1 ⟨rfl, hb1⟩
    have HM1 := Lib.hid (HM.out.below rfl hb1)
    have hz := hb1.size
    go_wp2_with fail
    refine (C.out _ HM1.out).mono ?_; rintro e w2 ⟨a, rfl, hs2, hb2⟩
    go_wp2
    go_ret2
    have e2 : Ln.words s.data.toList = d ++ [r] := by rw [Ln.words, HB.out, if_pos rfl, Ln.cut, HST.out]
    rw [e2]
    exact GivesList.mk (n := d.length + 1) (c := d.length + 1) (by omega) (by simp) rfl hs2 (hb1.trans (hb2.mono hz))

/-- The builder's WriteString at this translation. -/
theorem write_k (b : Nat) (l : List UInt8) (s : ByteArray) (w : World) (h : Lib.IsBuilderF 64 5 b b (Lib.byteCells l) w) (hlen : l.length + s.size ≤ 140737488355328) (hBw : b ≤ w.heap.size) :
    Calls Tryd.prog 37 #[.pointer (some ⟨b, 0, none⟩), .string s] w fun e w' => e = .returned (.tuple #[.int .i64 s.size, .nilIface]) ∧ Lib.IsBuilderF 64 5 b b (Lib.byteCells (l ++ s.data.toList)) w' ∧ Below b w w' :=
  (Any.Builder_WriteString_k (P := Tryd.prog) (ρ := Tryd.lays156_ren) { Tryd.lays156 with } Tryd.Builder_Extra_156 b b (Lib.byteCells l) s w h (by rw [Lib.byteCells_length]; exact hlen) hBw).mono fun _ _ ⟨h1, h2, h3, h4⟩ => ⟨h1, by
    rw [Lib.byteCells_append]; exact Or.inr h2, h3⟩

theorem text_take (L : List (List UInt8)) (k : Nat) (h : k < L.length) : Ln.text (L.take (k + 1)) = Ln.text (L.take k) ++ L[k] ++ [10] := by
  rw [List.take_succ_eq_append_getElem h]
  simp only [Ln.text, List.map_append, List.flatten_append, List.map_cons, List.map_nil, List.flatten_cons, List.flatten_nil, List.append_nil, List.append_assoc]
theorem text_take_le (L : List (List UInt8)) (k : Nat) : (Ln.text (L.take k)).length ≤ (Ln.text L).length := by
  have : Ln.text L = Ln.text (L.take k) ++ Ln.text (L.drop k) := by
    conv => lhs; rw [← List.take_append_drop k L]
    simp only [Ln.text, List.map_append, List.flatten_append]
  rw [this, List.length_append]; omega
set_option maxHeartbeats 1000000 in
theorem text_any (A : Option Addr) (c : Nat) (L : List (List UInt8)) (w : World) (h : Strs w A L) (hl : L.length ≤ 1000000) (hx : (Ln.text L).length ≤ 10000000) :
    Calls Tryd.prog 20 #[.slice A L.length c] w fun e w' => e = .returned (.string (txt (Ln.text L))) ∧ Below w.heap.size w w' := by
  go_enter Tryd.func20, Tryd.ntmps20
  go_wp2
  go_loopw [8] (fun i wr => ∃ k : Nat, k ≤ L.length ∧ i = .int .i64 k ∧ Lib.IsBuilderF 64 5 w.heap.size w.heap.size (Lib.byteCells (Ln.text (L.take k))) wr ∧ Below w.heap.size w wr) (fun i _ => L.length - (intOf i).toNat)
  case atStart => exact ⟨0, Nat.zero_le _, rfl, Lib.IsBuilderF.of (Lib.fresh_isBuilder _ _ w), (Below.refl _ _).alloc (Nat.le_refl _) _⟩
  case round =>
    obtain ⟨k, hk, rfl, hI, hbel⟩ := hrel
    have hz := hbel.size
    by_cases hlt : k < L.length
    · have ht := text_take L k hlt
      have hle := text_take_le L (k + 1)
      rw [ht] at hle
      simp only [List.length_append, List.length_singleton] at hle
      obtain ⟨a, rfl, hb, hc⟩ := (h.below rfl hbel).cell hlt
      rw [str] at hc
      have hq := txt_size L[k]
      have HT := Lib.hid ht
      clear ht
      have C1 := Lib.hid (write_k w.heap.size _ (txt L[k]) wr hI (by omega) hz)
      clear hI
      go_wp2_with fail
      refine C1.out.mono ?_; rintro e w1 ⟨rfl, hI1, hb1⟩
      rw [txt_toList] at hI1
      have hz1 := hb1.size
      have C2 := Lib.hid (write_k w.heap.size _ ⟨#[10]⟩ w1 hI1 (by simp [ByteArray.size]; omega) (by omega))
      clear hI1
      go_wp2_with fail
      refine C2.out.mono ?_; rintro e w2 ⟨rfl, hI2, hb2⟩
      have HI2 := Lib.hid hI2
      clear hI2
      go_wp2
      go_roundw
      case rel => exact ⟨k + 1, by omega, by go_num, by rw [HT.out]; exact HI2.out, (hbel.trans hb1).trans hb2⟩
      case measure => simp [intOf]; omega
    · have hI2 : Lib.IsBuilderF 64 5 w.heap.size w.heap.size (Lib.byteCells (Ln.text L)) wr := by
        rw [List.take_of_length_le (by omega)] at hI; exact hI
      clear hI
      have C := Lib.hid (Tryd.Builder_String_any_k w.heap.size w.heap.size (Ln.text L) wr hI2 hz)
      clear hI2
      go_wp2_with fail
      refine C.out.mono ?_; rintro e w1 ⟨rfl, _, hb1, _⟩
      go_wp2
      go_ret
      exact ⟨rfl, hbel.trans hb1⟩

theorem txt_map (L : List (List UInt8)) : (L.map txt).map (·.data.toList) = L := by
  rw [List.map_map]
  conv => rhs; rw [← List.map_id L]
  apply List.map_congr_left
  intro x _
  simp [txt_toList]
set_option maxHeartbeats 1000000 in
theorem line_any (A : Option Addr) (c : Nat) (L : List (List UInt8)) (w : World) (h : Strs w A L) (hl : L.length ≤ c) (hl2 : L.length ≤ 1000000) (hx : (Ln.line L).length ≤ 10000000) :
    Calls Tryd.prog 51 #[.slice A L.length c] w fun e w' => e = .returned (.string (txt (Ln.line L))) ∧ Below w.heap.size w w' := by
  have C : Calls Tryd.prog 62 #[.slice A L.length c, .string ⟨#[32]⟩] w fun e w' => e = .returned (.string (txt (Ln.line L))) ∧ Below w.heap.size w w' := by
    cases L with
    | nil => exact (Tryd.strings_Join_none A c ⟨#[32]⟩ w).mono fun e w' ⟨h1, h2⟩ => by subst h2; exact ⟨h1, Below.refl _ _⟩
    | cons x t =>
      obtain ⟨a, rfl, hb, hc⟩ := h 0 x rfl
      obtain ⟨bk, o, sp⟩ := a
      obtain rfl : sp = none := by simpa [Addr.add] using World.cell?_spot hc
      have e1 : ((x :: t).map txt).length = (x :: t).length := by simp
      have := Tryd.strings_Join bk o c ((x :: t).map txt) ⟨#[32]⟩ w (fun j y hy => by
        rw [List.getElem?_map] at hy
        cases hj : (x :: t)[j]? with
        | none => rw [hj] at hy; cases hy
        | some z =>
          rw [hj] at hy
          obtain ⟨a', ha, _, hc'⟩ := h j z hj
          cases ha
          cases hy
          rw [← Go.WideShapes.add_plain]; exact hc') hb (by rw [e1]; omega) (by rw [e1]; exact hl) (by rw [txt_map]; unfold Ln.line at hx; simp only [] ; omega)
      rw [e1, txt_map] at this
      exact this
  have H := Lib.hid C
  clear C
  go_enter Tryd.func51, Tryd.ntmps51
  go_wp2_with fail
  refine H.out.mono ?_; rintro e w1 ⟨rfl, hb1⟩
  go_wp2
  go_ret
  exact ⟨rfl, hb1⟩
end Go.Proofs.YtgagandecjljoaaDoor

