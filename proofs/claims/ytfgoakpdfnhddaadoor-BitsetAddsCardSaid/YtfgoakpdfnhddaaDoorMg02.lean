/-
  Texts of this claim, merged: BsMem.
-/
import Derived.Test.YtfgoakpdfnhddaaDoorMg01
import Derived.Laws.BitsAllLaws
/-
  Sets in memory: words of 32 bits; rows of numbers and of words that are a call's own. No function of the program is named here.
-/
namespace Go.Proofs.YtfgoakpdfnhddaaDoor
open Go.RowKit

def OneIs (v : Value) (w : World) (e : Ending) (w' : World) : Prop := e = .returned v ∧ Below w.heap.size w w'
/-- Words in memory. -/
def LWd : Lies Nat := ⟨1, by decide, fun x => [.int .u32 (x : Int)], fun _ => rfl, fun y u hu => by
  simp at hu
  subst hu; rfl⟩
theorem wd_on {w : World} {b o : Nat} {x : Nat} (h : LWd.On w b o x) : w.cell? ⟨b, o, none⟩ = some (.int .u32 (x : Int)) := h 0 _ rfl
theorem infoWd : (Tryd.prog.info? 37).map (fun i => (i.zero, i.size, i.bytes)) = some (some (.int .u32 0), 1, 4) := by kernel_rfl
theorem ownwd_empty (w : World) {g base : Nat} (hg : w.heap.size = g) (hb : base ≤ g := by simp) : (w.alloc (.cells #[] 37)).ownsRow base 37 LWd.m (.slice (some ⟨g, 0, none⟩) 0 0) 0 [] := by
  subst hg
  exact ⟨rfl, .inr ⟨w.heap.size, 0, #[], rfl, hb, heap_alloc_new _ _, Nat.le_refl _, by unfold maxLen; omega, rfl, rfl⟩⟩
/-- A set that a call leaves, in memory of its own. -/
def SetOwn (L : List Nat) (w : World) (e : Ending) (w' : World) : Prop := ∃ v, e = .returned v ∧ w'.ownsRow w.heap.size 37 LWd.m v L.length (LWd.all L) ∧ Below w.heap.size w w'
/-- A set that a call leaves. -/
def SetYes (L : List Nat) (w : World) (e : Ending) (w' : World) : Prop := ∃ B d, e = .returned (.slice B L.length d) ∧ LWd.Row w' B L ∧ L.length ≤ d ∧ Below w.heap.size w w'
theorem SetOwn.yes {L : List Nat} {w : World} {e : Ending} {w' : World} (h : SetOwn L w e w') : SetYes L w e w' := by
  obtain ⟨v, rfl, ho, hb⟩ := h
  obtain ⟨-, B, d, rfl, hc, hR⟩ := Lies.Row.of_own (E := LWd) ho
  exact ⟨B, d, rfl, hR, hc, hb⟩
/-- Its length and what it holds, told in other words. -/
def SetIs (n : Nat) (L : List Nat) (w : World) (e : Ending) (w' : World) : Prop := ∃ B d, e = .returned (.slice B n d) ∧ LWd.Row w' B L ∧ n ≤ d ∧ Below w.heap.size w w'
theorem SetIs.of {n : Nat} {L M : List Nat} {w : World} {f : FuncId} {xs : Array Value} (h : M = L) (hn : L.length = n) (hc : Calls Tryd.prog f xs w (SetYes M w)) : Calls Tryd.prog f xs w (SetIs n L w) :=
  hc.mono fun e w' ⟨B, d, he, hr, hd, hb⟩ => by
    subst h hn
    exact ⟨B, d, he, hr, hd, hb⟩
/-- A set that is none, or lies somewhere. -/
theorem own_cases {w : World} {base : Nat} {v : Value} {L : List Nat} (h : w.ownsRow base 37 LWd.m v L.length (LWd.all L)) : (v = .slice none 0 0 ∧ L = []) ∨ ∃ g cap, v = .slice (some ⟨g, 0, none⟩) L.length cap ∧ base ≤ g ∧ g < w.heap.size := by
  rcases h.2 with ⟨h1, h2⟩ | ⟨g, cap, cur, h1, h2, h3, -⟩
  · exact .inl ⟨h1, List.eq_nil_of_length_eq_zero h2⟩
  · exact .inr ⟨g, cap, h1, h2, (Array.getElem?_eq_some_iff.1 h3).1⟩
theorem own_at {w : World} {base g cap : Nat} {L : List Nat} (h : w.ownsRow base 37 LWd.m (.slice (some ⟨g, 0, none⟩) L.length cap) L.length (LWd.all L)) {k : Nat} (hk : k < L.length) :
    w.cell? ⟨g, k, none⟩ = some (.int .u32 (L.getD k 0 : Nat)) ∧ w.frozen? ⟨g, k, none⟩ = false := by
  constructor
  · have := wd_on (Lies.own_on (E := LWd) h (k := k) (List.getElem?_eq_getElem hk))
    rw [show k * LWd.m = k from Nat.mul_one k] at this
    rw [this, List.getD_eq_getElem?_getD, List.getElem?_eq_getElem hk]
    rfl
  · rcases h.2 with ⟨h1, -⟩ | ⟨g', cap', cur, h1, -, h3, -⟩
    · cases h1
    · cases h1
      exact frozen_of_row w g k _ _ h3
/-- One word of it is another one. -/
theorem own_set {w : World} {base g cap : Nat} {L : List Nat} (h : w.ownsRow base 37 LWd.m (.slice (some ⟨g, 0, none⟩) L.length cap) L.length (LWd.all L)) (k : Nat) (x : Nat) :
    (w.setCell ⟨g, k, none⟩ (.int .u32 (x : Int))).ownsRow base 37 LWd.m (.slice (some ⟨g, 0, none⟩) L.length cap) (L.set k x).length (LWd.all (L.set k x)) := by
  rcases h.2 with ⟨h1, -⟩ | ⟨g', cap', cur, h1, h2, h3, h4, h5, h6, h7⟩
  · cases h1
  · cases h1
    rw [List.length_set]
    refine ⟨by rw [LWd.all_len, List.length_set], .inr ⟨g, cap, cur.setIfInBounds k (.int .u32 (x : Int)), rfl, h2, heap_setCell_same _ _ _ _ _ _ h3, h4, h5, by rw [Array.size_setIfInBounds]; exact h6, ?_⟩⟩
    rw [Array.toList_setIfInBounds, List.take_set, h7]
    have hm : LWd.m = 1 := rfl
    by_cases hk : k < L.length
    · have := LWd.set_cell L k 0 L[k] x (List.getElem?_eq_getElem hk) (by decide) (.int .u32 (x : Int)) rfl
      rw [hm, Nat.mul_one, Nat.add_zero] at this
      exact this
    · rw [List.set_eq_of_length_le (by rw [LWd.all_len, hm]; omega), List.set_eq_of_length_le (by omega)]
theorem wd_at {w : World} {A : Option Addr} {L : List Nat} (h : LWd.Row w A L) {k : Nat} (hk : k < L.length) : ∃ b o, A = some ⟨b, o, none⟩ ∧ b < w.heap.size ∧ w.cell? ⟨b, o + k, none⟩ = some (.int .u32 (L.getD k 0 : Nat)) := by
  obtain ⟨b, o, h1, h2, h3⟩ := h.at hk
  refine ⟨b, o, h1, h2, ?_⟩
  have := wd_on h3
  rw [show k * LWd.m = k from Nat.mul_one k] at this
  rw [this, List.getD_eq_getElem?_getD, List.getElem?_eq_getElem hk]
  rfl
/-- Bytes in memory. -/
def LBt : Lies Nat := ⟨1, by decide, fun x => [.int .u8 (x : Int)], fun _ => rfl, fun y u hu => by
  simp at hu
  subst hu; rfl⟩
theorem bt_on {w : World} {b o : Nat} {x : Nat} (h : LBt.On w b o x) : w.cell? ⟨b, o, none⟩ = some (.int .u8 (x : Int)) := h 0 _ rfl
namespace Bs
theorem shl_mod (j : Nat) (h : j < 32) : (2 : Int) ^ j % 4294967296 = ((2 ^ j : Nat) : Int) := by
  have h2 : (2 : Nat) ^ j < 2 ^ 32 := Nat.pow_lt_pow_right (by decide) h
  have e : ((2 : Int) ^ j) = ((2 ^ j : Nat) : Int) := by simp
  rw [e]
  generalize (2 : Nat) ^ j = b at h2 ⊢
  omega
theorem and_one (v : Nat) (h : v < 4294967296) (j : Nat) : bits .and .u32 ((v / 2 ^ j : Nat) : Int) 1 = if v.testBit j then 1 else 0 := by
  have := u32_and_nat (v / 2 ^ j) 1 (Nat.lt_of_le_of_lt (Nat.div_le_self _ _) h) (by decide)
  rw [show ((1 : Nat) : Int) = 1 from rfl] at this
  rw [this, nat_mask1, Nat.testBit_eq_decide_div_mod_eq]
  rcases Nat.mod_two_eq_zero_or_one (v / 2 ^ j) with e | e <;> rw [e] <;> rfl
theorem and_one_is (v : Nat) (h : v < 4294967296) (j : Nat) : (bits .and .u32 ((v : Int) / 2 ^ j) 1 == 1) = v.testBit j := by
  have e : ((v : Int) / 2 ^ j) = ((v / 2 ^ j : Nat) : Int) := by simp
  rw [e, and_one v h j]
  cases v.testBit j <;> rfl
theorem and_bit (v : Nat) (h : v < 4294967296) (j : Nat) (hj : j < 32) : (bits .and .u32 (v : Int) ((2 ^ j : Nat) : Int) != 0) = v.testBit j := by
  have h2 : (2 : Nat) ^ j < 2 ^ 32 := Nat.pow_lt_pow_right (by decide) hj
  rw [u32_and_nat v _ h h2, nat_bit, Nat.testBit_eq_decide_div_mod_eq]
  have hp := Nat.two_pow_pos j
  rcases Nat.mod_two_eq_zero_or_one (v / 2 ^ j) with e | e <;> rw [e]
  · simp
  · rw [Nat.one_mul, decide_eq_true rfl, bne_iff_ne]
    omega
end Bs
end Go.Proofs.YtfgoakpdfnhddaaDoor
