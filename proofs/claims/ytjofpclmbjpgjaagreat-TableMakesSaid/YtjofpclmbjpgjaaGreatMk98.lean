/- Lemmas of the core, by short names. -/
namespace Go.Proofs.YtjofpclmbjpgjaaGreat
theorem ArL {α : Type} {xs : Array α} {i : Nat} {b : α} (h : xs[i]? = some b) : ∃ h : i < xs.size, xs[i] = b := Array.getElem?_eq_some_iff.1 h
theorem ArM {α : Type} {l : List α} {i : Nat} {a : α} (h : l[i]? = some a) : ∃ h : i < l.length, l[i] = a := List.getElem?_eq_some_iff.1 h
theorem ArN {α : Type} {l : List α} {i : Nat} (h : i < l.length) : l[i]? = some l[i] := List.getElem?_eq_getElem h
theorem ArO {α : Type} (l : List α) (i : Nat) (a : α) : l.toArray.setIfInBounds i a = (l.set i a).toArray := _root_.List.setIfInBounds_toArray l i a
theorem ArP {α : Type} {x : α} {xs : List α} {a : α} : (x :: xs).set 0 a = a :: xs := rfl
theorem ArQ {α : Type} {x : α} {xs : List α} {i : Nat} {a : α} : (x :: xs).set (i + 1) a = x :: xs.set i a := rfl
theorem ArR (n : Nat) : n ≤ n := Nat.le_refl n
theorem ArS {n m k : Nat} (h : n ≤ m) (h' : m ≤ k) : n ≤ k := Nat.le_trans h h'
theorem ArT (n : Nat) : (0 : Int) ≤ (n : Int) := Int.natCast_nonneg n
theorem ArU {α : Type} [BEq α] [LawfulBEq α] {a b : α} : (a == b) = false ↔ a ≠ b := _root_.beq_eq_false_iff_ne
theorem ArV {α : Type} {a b : List α} : (a ++ b).length = a.length + b.length := _root_.List.length_append
theorem ArW {α : Type} {a : α} {s t : List α} : a ∈ s ++ t ↔ a ∈ s ∨ a ∈ t := _root_.List.mem_append
theorem ArX {α : Type} {l : List α} {i : Nat} {a : α} (h : l[i]? = some a) : a ∈ l := _root_.List.mem_of_getElem? h
theorem ArY {c : Prop} {h : Decidable c} (k : ¬c) {α : Type} {t e : α} : (if c then t else e) = e := _root_.if_neg k
theorem ArZ {c : Prop} {h : Decidable c} (k : c) {α : Type} {t e : α} : (if c then t else e) = t := _root_.if_pos k
theorem AsC {p : Prop} [Decidable p] : decide p = true ↔ p := _root_.decide_eq_true_iff
theorem AsD (n : Nat) : 0 ≤ n := _root_.Nat.zero_le n
theorem AsE {n m k : Nat} (h : n < m) (h' : m ≤ k) : n < k := _root_.Nat.lt_of_lt_of_le h h'
theorem AsF (a b : Bool) : ((a && b) = true) = (a = true ∧ b = true) := _root_.Bool.and_eq_true a b
theorem AsG {a b : Prop} (h : a) (k : b) : a ∧ b := ⟨h, k⟩
theorem AsH {α β : Type} {xs : List α} (f : α → β) : (xs.map f).length = xs.length := _root_.List.length_map f
theorem AsJ {α : Type} {a : α} {xs : List α} : (a :: xs).length = xs.length + 1 := rfl
theorem AsK {α : Type} {i : Nat} {l : List α} (h : i < l.length) : l.take (i + 1) = l.take i ++ [l[i]] := _root_.List.take_succ_eq_append_getElem h
theorem AsM {α : Type} (xs : List α) : xs ++ [] = xs := _root_.List.append_nil xs
theorem AsN {α : Type} {b : α} {l : List α} {a : α} : a ∈ b :: l ↔ a = b ∨ a ∈ l := _root_.List.mem_cons
theorem AsO {α : Type} {a b : α} (h : some a = some b) : a = b := _root_.Option.some.inj h
theorem AsP (n : Nat) : (n : Int).toNat = n := _root_.Int.toNat_natCast n
theorem AsR {α : Type} {l : List α} (h : l.length = 0) : l = [] := _root_.List.eq_nil_of_length_eq_zero h
theorem AsS {α : Type} {a b : α} : a ∈ [b] ↔ a = b := _root_.List.mem_singleton
theorem AsT {α : Type} {i : Nat} {l : List α} (h : l.length ≤ i) : l.take i = l := _root_.List.take_of_length_le h
theorem AsU {α : Type} {i : Nat} {l : List α} : (l.take i).length = min i l.length := _root_.List.length_take
theorem AsV {α : Type} [BEq α] [LawfulBEq α] {a b : α} : (a != b) = true ↔ a ≠ b := _root_.bne_iff_ne
theorem ArK {j n : Nat} (h : j < n) : decide ((j : Int) < (n : Int)) = true ∧ (0 : Int) ≤ (j : Int) ∧ (j : Int) < (n : Int) := ⟨_root_.decide_eq_true (by omega), by omega, by omega⟩
end Go.Proofs.YtjofpclmbjpgjaaGreat
