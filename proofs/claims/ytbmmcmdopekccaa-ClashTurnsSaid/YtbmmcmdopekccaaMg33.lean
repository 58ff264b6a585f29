/-
  Texts of this claim, merged: BsMem, ClMem.
-/
import Derived.Test.YtbmmcmdopekccaaMg05
import Derived.Test.YtbmmcmdopekccaaMg11
import Derived.Test.YtbmmcmdopekccaaMg17
import Derived.Test.YtbmmcmdopekccaaMg20
import Derived.Test.YtbmmcmdopekccaaMg24
import Derived.Test.YtbmmcmdopekccaaMg31
import Derived.Test.YtbmmcmdopekccaaMg32
import Derived.Laws.BitsAllLaws
/-
  Sets in memory: words of 32 bits; rows of numbers and of words that are a call's own. No function of the program is named here.
-/
namespace Go.Proofs.Ytbmmcmdopekccaa
open Go.RowKit

/-- Words in memory. -/
def LWd : Lies Nat := ⟨1, by decide, fun x => [.int .u32 (x : Int)], fun _ => rfl, fun y u hu => by
  simp at hu
  subst hu; rfl⟩
theorem wd_on {w : World} {b o : Nat} {x : Nat} (h : LWd.On w b o x) : w.cell? ⟨b, o, none⟩ = some (.int .u32 (x : Int)) := h 0 _ rfl
theorem infoWd : (Try.prog.info? 53).map (fun i => (i.zero, i.size, i.bytes)) = some (some (.int .u32 0), 1, 4) := by kernel_rfl
/-- A set that a call leaves, in memory of its own. -/
def SetOwn (L : List Nat) (w : World) (e : Ending) (w' : World) : Prop := ∃ v, e = .returned v ∧ w'.ownsRow w.heap.size 53 LWd.m v L.length (LWd.all L) ∧ Below w.heap.size w w'
/-- A set that a call leaves. -/
def SetYes (L : List Nat) (w : World) (e : Ending) (w' : World) : Prop := ∃ B d, e = .returned (.slice B L.length d) ∧ LWd.Row w' B L ∧ L.length ≤ d ∧ Below w.heap.size w w'
theorem SetOwn.yes {L : List Nat} {w : World} {e : Ending} {w' : World} (h : SetOwn L w e w') : SetYes L w e w' := by
  obtain ⟨v, rfl, ho, hb⟩ := h
  obtain ⟨-, B, d, rfl, hc, hR⟩ := Lies.Row.of_own (E := LWd) ho
  exact ⟨B, d, rfl, hR, hc, hb⟩
/-- Its length and what it holds, told in other words. -/
def SetIs (n : Nat) (L : List Nat) (w : World) (e : Ending) (w' : World) : Prop := ∃ B d, e = .returned (.slice B n d) ∧ LWd.Row w' B L ∧ n ≤ d ∧ Below w.heap.size w w'
theorem SetIs.of {n : Nat} {L M : List Nat} {w : World} {f : FuncId} {xs : Array Value} (h : M = L) (hn : L.length = n) (hc : Calls Try.prog f xs w (SetYes M w)) : Calls Try.prog f xs w (SetIs n L w) :=
  hc.mono fun e w' ⟨B, d, he, hr, hd, hb⟩ => by
    subst h hn
    exact ⟨B, d, he, hr, hd, hb⟩
/-- A set that is none, or lies somewhere. -/
theorem own_cases {w : World} {base : Nat} {v : Value} {L : List Nat} (h : w.ownsRow base 53 LWd.m v L.length (LWd.all L)) : (v = .slice none 0 0 ∧ L = []) ∨ ∃ g cap, v = .slice (some ⟨g, 0, none⟩) L.length cap ∧ base ≤ g ∧ g < w.heap.size := by
  rcases h.2 with ⟨h1, h2⟩ | ⟨g, cap, cur, h1, h2, h3, -⟩
  · exact .inl ⟨h1, List.eq_nil_of_length_eq_zero h2⟩
  · exact .inr ⟨g, cap, h1, h2, (Array.getElem?_eq_some_iff.1 h3).1⟩
theorem own_at {w : World} {base g cap : Nat} {L : List Nat} (h : w.ownsRow base 53 LWd.m (.slice (some ⟨g, 0, none⟩) L.length cap) L.length (LWd.all L)) {k : Nat} (hk : k < L.length) :
    w.cell? ⟨g, k, none⟩ = some (.int .u32 (L.getD k 0 : Nat)) ∧ w.frozen? ⟨g, k, none⟩ = false := by
  constructor
  · have := wd_on (Lies.own_on (E := LWd) h (k := k) (List.getElem?_eq_getElem hk))
    rw [show k * LWd.m = k from Nat.mul_one k] at this
    rw [this, List.getD_eq_getElem?_getD, List.getElem?_eq_getElem hk]
    rfl
  · rcases h.2 with ⟨h1, -⟩ | ⟨g', cap', cur, h1, -, h3, -⟩
    · cases h1
    · cases h1
      exact frozen_of_row w g k _ _ h3
/-- One word of it is another one. -/
theorem own_set {w : World} {base g cap : Nat} {L : List Nat} (h : w.ownsRow base 53 LWd.m (.slice (some ⟨g, 0, none⟩) L.length cap) L.length (LWd.all L)) (k : Nat) (x : Nat) :
    (w.setCell ⟨g, k, none⟩ (.int .u32 (x : Int))).ownsRow base 53 LWd.m (.slice (some ⟨g, 0, none⟩) L.length cap) (L.set k x).length (LWd.all (L.set k x)) := by
  rcases h.2 with ⟨h1, -⟩ | ⟨g', cap', cur, h1, h2, h3, h4, h5, h6, h7⟩
  · cases h1
  · cases h1
    rw [List.length_set]
    refine ⟨by rw [LWd.all_len, List.length_set], .inr ⟨g, cap, cur.setIfInBounds k (.int .u32 (x : Int)), rfl, h2, heap_setCell_same _ _ _ _ _ _ h3, h4, h5, by rw [Array.size_setIfInBounds]; exact h6, ?_⟩⟩
    rw [Array.toList_setIfInBounds, List.take_set, h7]
    have hm : LWd.m = 1 := rfl
    by_cases hk : k < L.length
    · have := LWd.set_cell L k 0 L[k] x (List.getElem?_eq_getElem hk) (by decide) (.int .u32 (x : Int)) rfl
      rw [hm, Nat.mul_one, Nat.add_zero] at this
      exact this
    · rw [List.set_eq_of_length_le (by rw [LWd.all_len, hm]; omega), List.set_eq_of_length_le (by omega)]
theorem wd_at {w : World} {A : Option Addr} {L : List Nat} (h : LWd.Row w A L) {k : Nat} (hk : k < L.length) : ∃ b o, A = some ⟨b, o, none⟩ ∧ b < w.heap.size ∧ w.cell? ⟨b, o + k, none⟩ = some (.int .u32 (L.getD k 0 : Nat)) := by
  obtain ⟨b, o, h1, h2, h3⟩ := h.at hk
  refine ⟨b, o, h1, h2, ?_⟩
  have := wd_on h3
  rw [show k * LWd.m = k from Nat.mul_one k] at this
  rw [this, List.getD_eq_getElem?_getD, List.getElem?_eq_getElem hk]
  rfl
namespace Bs
theorem shl_mod (j : Nat) (h : j < 32) : (2 : Int) ^ j % 4294967296 = ((2 ^ j : Nat) : Int) := by
  have h2 : (2 : Nat) ^ j < 2 ^ 32 := Nat.pow_lt_pow_right (by decide) h
  have e : ((2 : Int) ^ j) = ((2 ^ j : Nat) : Int) := by simp
  rw [e]
  generalize (2 : Nat) ^ j = b at h2 ⊢
  omega
theorem and_one (v : Nat) (h : v < 4294967296) (j : Nat) : bits .and .u32 ((v / 2 ^ j : Nat) : Int) 1 = if v.testBit j then 1 else 0 := by
  have := u32_and_nat (v / 2 ^ j) 1 (Nat.lt_of_le_of_lt (Nat.div_le_self _ _) h) (by decide)
  rw [show ((1 : Nat) : Int) = 1 from rfl] at this
  rw [this, nat_mask1, Nat.testBit_eq_decide_div_mod_eq]
  rcases Nat.mod_two_eq_zero_or_one (v / 2 ^ j) with e | e <;> rw [e] <;> rfl
theorem and_one_is (v : Nat) (h : v < 4294967296) (j : Nat) : (bits .and .u32 ((v : Int) / 2 ^ j) 1 == 1) = v.testBit j := by
  have e : ((v : Int) / 2 ^ j) = ((v / 2 ^ j : Nat) : Int) := by simp
  rw [e, and_one v h j]
  cases v.testBit j <;> rfl
end Bs
end Go.Proofs.Ytbmmcmdopekccaa
/-
  Sets in a row: slices of words in memory. No function of the program is named here.
-/
namespace Go.Proofs.Ytbmmcmdopekccaa
open Go.RowKit

/-- A set in memory: where its words lie. -/
structure SetM where
  A : Option Addr
  c : Nat
  L : List Nat
def LSet : Lies SetM := ⟨1, by decide, fun m => [.slice m.A m.L.length m.c], fun _ => rfl, fun y u hu => by
  simp at hu
  subst hu; rfl⟩
theorem set_on {w : World} {b o : Nat} {m : SetM} (h : LSet.On w b o m) : w.cell? ⟨b, o, none⟩ = some (.slice m.A m.L.length m.c) := h 0 _ rfl
theorem infoSet : (Try.prog.info? 29).map (fun i => (i.zero, i.size, i.bytes)) = some (some (.slice none 0 0), 1, 24) := by kernel_rfl
/-- Sets lie there. -/
def SetsIn (w : World) (A : Option Addr) (R : List (List Nat)) : Prop := ∃ M : List SetM, M.map SetM.L = R ∧ LSet.Row w A M ∧ ∀ m ∈ M, LWd.Row w m.A m.L
theorem SetsIn.below {w w' : World} {A : Option Addr} {R : List (List Nat)} (h : SetsIn w A R) (hb : Below w.heap.size w w') : SetsIn w' A R := by
  obtain ⟨M, h1, h2, h3⟩ := h
  exact ⟨M, h1, h2.below rfl hb, fun m hm => (h3 m hm).below rfl hb⟩
/-- A set of those. -/
theorem SetsIn.at {w : World} {A : Option Addr} {R : List (List Nat)} (h : SetsIn w A R) {k : Nat} {y : List Nat} (hk : R[k]? = some y) : ∃ (b o : Nat) (B : Option Addr) (c : Nat), A = some ⟨b, o, none⟩ ∧ b < w.heap.size ∧ w.cell? ⟨b, o + k, none⟩ = some (.slice B y.length c) ∧ LWd.Row w B y := by
  obtain ⟨M, rfl, h2, h3⟩ := h
  rw [List.getElem?_map] at hk
  cases hm : M[k]? with
  | none => rw [hm] at hk; cases hk
  | some m =>
    rw [hm] at hk
    obtain ⟨hlt, hmk⟩ := List.getElem?_eq_some_iff.1 hm
    obtain ⟨b, o, hA, hb, on⟩ := h2.at hlt
    rw [hmk] at on
    obtain rfl : m.L = y := Option.some.inj hk
    have c0 := set_on on
    rw [show k * LSet.m = k from Nat.mul_one k] at c0
    exact ⟨b, o, m.A, m.c, hA, hb, c0, h3 m (List.mem_of_getElem? hm)⟩
/-- Sets that a call leaves. -/
def SetsYes (R : List (List Nat)) (w : World) (e : Ending) (w' : World) : Prop := ∃ A c, e = .returned (.slice A R.length c) ∧ SetsIn w' A R ∧ Below w.heap.size w w'
/-- The cells of a row that is made ahead: sets that are there, and none. -/
def setVals (M : List SetM) (n : Nat) : List Value := M.map (fun m => Value.slice m.A m.L.length m.c) ++ List.replicate n (.slice none 0 0)
theorem setVals_put (M : List SetM) (n : Nat) (m : SetM) : (setVals M (n + 1)).set M.length (.slice m.A m.L.length m.c) = setVals (M ++ [m]) n := by
  unfold setVals
  rw [List.set_append_right _ _ (by rw [List.length_map]; exact Nat.le_refl _), List.length_map, Nat.sub_self, List.replicate_succ, List.set_cons_zero, List.map_append, List.append_assoc]
  rfl
/-- Sets that a call lays one by one into a row of its own. -/
structure SetsUp (w : World) (g : Nat) (R : List (List Nat)) (n : Nat) : Prop where
  ex : ∃ M : List SetM, M.map SetM.L = R ∧ w.heap[g]? = some (.cells (setVals M n).toArray 29) ∧ ∀ m ∈ M, ApartR LWd w (some g) m.A m.L
theorem SetsUp.below {w w' : World} {g : Nat} {R : List (List Nat)} {n : Nat} (h : SetsUp w g R n) (hb : Below w.heap.size w w') : SetsUp w' g R n := by
  obtain ⟨M, h1, h2, h3⟩ := h
  exact ⟨M, h1, (hb.block _ (Array.getElem?_eq_some_iff.1 h2).1).trans h2, fun m hm => (h3 m hm).below hb⟩
theorem SetsUp.lt {w : World} {g : Nat} {R : List (List Nat)} {n : Nat} (h : SetsUp w g R n) : g < w.heap.size := by
  obtain ⟨M, -, h2, -⟩ := h
  exact (Array.getElem?_eq_some_iff.1 h2).1
theorem setVals_at (M : List SetM) (n : Nat) : (setVals M (n + 1)).toArray[M.length]? = some (.slice none 0 0) := by
  unfold setVals
  rw [List.getElem?_toArray, List.getElem?_append_right (by rw [List.length_map]; exact Nat.le_refl _), List.length_map, Nat.sub_self]
  rfl
theorem SetsUp.cell {w : World} {g : Nat} {R : List (List Nat)} {n : Nat} (h : SetsUp w g R (n + 1)) : w.cell? ⟨g, R.length, none⟩ = some (.slice none 0 0) ∧ w.frozen? ⟨g, R.length, none⟩ = false := by
  obtain ⟨M, rfl, h2, -⟩ := h
  refine ⟨(cell_of_row w g _ _ _ _ h2).trans ?_, frozen_of_row w g _ _ _ h2⟩
  rw [List.length_map]
  exact setVals_at M n
/-- One set more, that lies apart. -/
theorem SetsUp.put {w : World} {g : Nat} {R : List (List Nat)} {n : Nat} (h : SetsUp w g R (n + 1)) {A : Option Addr} {c : Nat} {L : List Nat} (hA : ApartR LWd w (some g) A L) : SetsUp (w.setCell ⟨g, R.length, none⟩ (.slice A L.length c)) g (R ++ [L]) n := by
  obtain ⟨M, rfl, h2, h3⟩ := h
  have keep : ∀ {B : Option Addr} {K : List Nat}, ApartR LWd w (some g) B K → ApartR LWd (w.setCell ⟨g, (M.map SetM.L).length, none⟩ (.slice A L.length c)) (some g) B K := fun {B K} h => by
    have hs : (w.setCell ⟨g, (M.map SetM.L).length, none⟩ (.slice A L.length c)).heap.size = w.heap.size := by simp
    refine ⟨row_sameR h.1 (by rw [hs]; exact Nat.le_refl _) fun hz a ha => heap_setCell_other _ _ _ _ fun e => (h.2 hz a ha).1 (congrArg some e.symm), fun hz a ha => ⟨(h.2 hz a ha).1, by rw [hs]; exact (h.2 hz a ha).2⟩⟩
  refine ⟨M ++ [⟨A, c, L⟩], by rw [List.map_append]; rfl, ?_, fun m hm => ?_⟩
  · rw [heap_setCell_same w g _ _ _ _ h2, List.length_map]
    have e := setVals_put M n ⟨A, c, L⟩
    simp only at e
    rw [← e]
    simp
  · rcases List.mem_append.1 hm with hm | hm
    · exact keep (h3 m hm)
    · rw [List.mem_singleton.1 hm]
      exact keep hA
/-- A row of sets that is made, none there yet. -/
theorem SetsUp.made (w : World) (n : Nat) : SetsUp (w.alloc (.cells (LSet.all (List.replicate n ⟨none, 0, []⟩)).toArray 29)) w.heap.size [] n := by
  refine ⟨[], rfl, ?_, fun m hm => (by cases hm)⟩
  rw [heap_alloc_new]
  congr 3
  unfold setVals
  rw [List.map_nil, List.nil_append]
  induction n with
  | zero => rfl
  | succ n ih => rw [List.replicate_succ, List.replicate_succ, ← ih]; rfl
/-- All of them are there. -/
theorem SetsUp.done {w : World} {g : Nat} {R : List (List Nat)} (h : SetsUp w g R 0) : SetsIn w (some ⟨g, 0, none⟩) R := by
  obtain ⟨M, rfl, h2, h3⟩ := h
  refine ⟨M, rfl, .inr ⟨g, 0, rfl, (Array.getElem?_eq_some_iff.1 h2).1, fun k y hy j v hv => ?_⟩, fun m hm => (h3 m hm).1⟩
  have hj : j = 0 ∧ v = .slice y.A y.L.length y.c := by
    cases j with
    | zero => exact ⟨rfl, (Option.some.inj hv).symm⟩
    | succ j => cases hv
  obtain ⟨rfl, rfl⟩ := hj
  rw [show 0 + k * LSet.m + 0 = k from by rw [show LSet.m = 1 from rfl]; omega]
  refine (cell_of_row w g _ _ _ _ h2).trans ?_
  unfold setVals
  rw [List.replicate_zero, List.append_nil, List.getElem?_toArray, List.getElem?_map, hy]
  rfl
end Go.Proofs.Ytbmmcmdopekccaa
