/-
  Two ends, and two items, held against each other by ==.
-/
import Derived.Test.YtgagandecjljoaaDoorItRParseA
import Derived.ChangeKeysEq
namespace Go.Proofs.YtgagandecjljoaaDoor
open Go.RowKit

theorem eq_tip_in (W : World) (d : Nat) (a b : ByteArray) (i j : Int) :
    Sem.run Tryd.prog (Op.equalIn (d + 2) 35 (.agg #[.string a, .int .u8 i]) (.agg #[.string b, .int .u8 j])) W = .ok (a.toList == b.toList && i == j) W := by
  cases h1 : a.toList == b.toList <;> cases h2 : i == j <;> go_simp
theorem ctip : Tryd.prog.cellsOf 35 = 2 := by kernel_rfl
theorem part_tip0 (W : World) (x y z u : Value) : Sem.run Tryd.prog (part 35 #[x, y, z, u] 0) W = .ok (.agg #[x, y]) W := by
  simp [part, isAgg, run_underlying Tryd.underlying35]
theorem part_tip2 (W : World) (x y z u : Value) : Sem.run Tryd.prog (part 35 #[x, y, z, u] 2) W = .ok (.agg #[z, u]) W := by
  simp [part, isAgg, run_underlying Tryd.underlying35]
/-- Two ends of one item and two of another. -/
def endsB (a b a' b' : ByteArray) (i j i' j' : Int) : Bool := (a.toList == b.toList && i == j) && (a'.toList == b'.toList && i' == j')
theorem eq_ends_in (W : World) (d : Nat) (a b a' b' : ByteArray) (i j i' j' : Int) :
    Sem.run Tryd.prog (Op.equalIn (d + 3) 36 (.agg #[.string a, .int .u8 i, .string a', .int .u8 i']) (.agg #[.string b, .int .u8 j, .string b', .int .u8 j'])) W = .ok (endsB a b a' b' i j i' j') W := by
  obtain ⟨inf, hi⟩ := info_of_underlying (P := Tryd.prog) Tryd.underlying35
  rw [run_equalIn_array W (d + 2) _ _ Tryd.underlying36 hi, ctip]
  have T1 := eq_tip_in W d a b i j
  have T2 := eq_tip_in W d a' b' i' j'
  unfold endsB
  generalize (a.toList == b.toList && i == j) = p at T1 ⊢
  generalize (a'.toList == b'.toList && i' == j') = q at T2 ⊢
  cases p <;> cases q <;> simp [Op.eqItems, List.range, List.range.loop, part_tip0, part_tip2, T1, T2]
def itemB (k k' : Int) (nm nm' : ByteArray) (n n' : Int) (e : Bool) : Bool := k == k' && (nm.toList == nm'.toList && (n == n' && e))
theorem eq_item_in (W : World) (d : Nat) (k k' : Int) (nm nm' : ByteArray) (n n' : Int) (a b a' b' : ByteArray) (i j i' j' : Int) :
    Sem.run Tryd.prog (Op.equalIn (d + 4) 38 (.agg #[.int .i64 k, .string nm, .int .i64 n, .string a, .int .u8 i, .string a', .int .u8 i']) (.agg #[.int .i64 k', .string nm', .int .i64 n', .string b, .int .u8 j, .string b', .int .u8 j'])) W = .ok (itemB k k' nm nm' n n' (endsB a b a' b' i j i' j')) W := by
  have E := eq_ends_in W d a b a' b' i j i' j'
  generalize endsB a b a' b' i j i' j' = p at E ⊢
  unfold itemB
  cases h1 : k == k' <;> cases h2 : nm.toList == nm'.toList <;> cases h3 : n == n' <;> cases p <;> go_simp
theorem eq_item (W : World) (k k' : Int) (nm nm' : ByteArray) (n n' : Int) (a b a' b' : ByteArray) (i j i' j' : Int) :
    Sem.run Tryd.prog (Op.equalIn 10000 38 (.agg #[.int .i64 k, .string nm, .int .i64 n, .string a, .int .u8 i, .string a', .int .u8 i']) (.agg #[.int .i64 k', .string nm', .int .i64 n', .string b, .int .u8 j, .string b', .int .u8 j'])) W = .ok (itemB k k' nm nm' n n' (endsB a b a' b' i j i' j')) W :=
  eq_item_in W 9996 k k' nm nm' n n' a b a' b' i j i' j'
theorem itemB_eq (y z : It.Itm) : itemB y.k z.k (txt y.name) (txt z.name) y.n z.n (endsB (txt y.e0.n) (txt z.e0.n) (txt y.e1.n) (txt z.e1.n) y.e0.c.toNat z.e0.c.toNat y.e1.c.toNat z.e1.c.toNat) = decide (y = z) := by
  rw [Bool.eq_iff_iff]
  obtain ⟨k, nm, n, ⟨a, ac⟩, ⟨b, bc⟩⟩ := y
  obtain ⟨k', nm', n', ⟨a', ac'⟩, ⟨b', bc'⟩⟩ := z
  have e : ∀ x y : UInt8, ((x.toNat : Int) = y.toNat ↔ x = y) := fun x y => ⟨fun h => UInt8.toNat_inj.mp (by omega), fun h => by rw [h]⟩
  simp [itemB, endsB, toList_txt, e, and_assoc]
/-- Two items' values are one value just if they are one item. -/
theorem eql_item (W : World) (y : It.Itm) (k : Int) (nm : ByteArray) (n : Int) (a : ByteArray) (ac : UInt8) (b : ByteArray) (bc : UInt8) :
    Sem.run Tryd.prog (Op.equalIn 10000 38 (.agg #[.int .i64 y.k, .string (txt y.name), .int .i64 y.n, .string (txt y.e0.n), .int .u8 y.e0.c.toNat, .string (txt y.e1.n), .int .u8 y.e1.c.toNat]) (.agg #[.int .i64 k, .string nm, .int .i64 n, .string a, .int .u8 ac.toNat, .string b, .int .u8 bc.toNat])) W = .ok (decide (y = ofV k nm n a ac b bc)) W := by
  rw [eq_item]
  have := itemB_eq y (ofV k nm n a ac b bc)
  simp only [ofV, txt_of] at this
  exact congrArg (fun b => Result.ok b W) this
theorem eql_items (W : World) (y z : It.Itm) :
    Sem.run Tryd.prog (Op.equalIn 10000 38 (.agg #[.int .i64 y.k, .string (txt y.name), .int .i64 y.n, .string (txt y.e0.n), .int .u8 y.e0.c.toNat, .string (txt y.e1.n), .int .u8 y.e1.c.toNat]) (.agg #[.int .i64 z.k, .string (txt z.name), .int .i64 z.n, .string (txt z.e0.n), .int .u8 z.e0.c.toNat, .string (txt z.e1.n), .int .u8 z.e1.c.toNat])) W = .ok (decide (y = z)) W := by
  rw [eq_item, itemB_eq]
/-- The operation ==, as a walk meets it. -/
theorem bin_item (W : World) (y : It.Itm) (k : Int) (nm : ByteArray) (n : Int) (a : ByteArray) (ac : UInt8) (b : ByteArray) (bc : UInt8) :
    Sem.run Tryd.prog (binOp .eql 38 (.agg #[.int .i64 y.k, .string (txt y.name), .int .i64 y.n, .string (txt y.e0.n), .int .u8 y.e0.c.toNat, .string (txt y.e1.n), .int .u8 y.e1.c.toNat]) (.agg #[.int .i64 k, .string nm, .int .i64 n, .string a, .int .u8 ac.toNat, .string b, .int .u8 bc.toNat])) W = .ok (.bool (decide (y = ofV k nm n a ac b bc))) W := by
  rw [run_eql_struct, eql_item]; rfl
theorem dec_comm (x y : It.Itm) : decide (x = y) = decide (y = x) := by
  rw [Bool.eq_iff_iff, decide_eq_true_iff, decide_eq_true_iff]
  exact ⟨Eq.symm, Eq.symm⟩
theorem bin_item' (W : World) (y : It.Itm) (k : Int) (nm : ByteArray) (n : Int) (a : ByteArray) (ac : UInt8) (b : ByteArray) (bc : UInt8) :
    Sem.run Tryd.prog (binOp .eql 38 (.agg #[.int .i64 k, .string nm, .int .i64 n, .string a, .int .u8 ac.toNat, .string b, .int .u8 bc.toNat]) (.agg #[.int .i64 y.k, .string (txt y.name), .int .i64 y.n, .string (txt y.e0.n), .int .u8 y.e0.c.toNat, .string (txt y.e1.n), .int .u8 y.e1.c.toNat])) W = .ok (.bool (decide (y = ofV k nm n a ac b bc))) W := by
  have h := eq_item W k y.k nm (txt y.name) n y.n a (txt y.e0.n) b (txt y.e1.n) ac.toNat y.e0.c.toNat bc.toNat y.e1.c.toNat
  have e := itemB_eq (ofV k nm n a ac b bc) y
  simp only [ofV, txt_of] at e
  rw [run_eql_struct, h, e, Result.andThen_ok]
  exact congrArg (fun b => Result.ok (Value.bool b) W) (dec_comm _ _)
theorem bin_items (W : World) (y z : It.Itm) :
    Sem.run Tryd.prog (binOp .eql 38 (.agg #[.int .i64 y.k, .string (txt y.name), .int .i64 y.n, .string (txt y.e0.n), .int .u8 y.e0.c.toNat, .string (txt y.e1.n), .int .u8 y.e1.c.toNat]) (.agg #[.int .i64 z.k, .string (txt z.name), .int .i64 z.n, .string (txt z.e0.n), .int .u8 z.e0.c.toNat, .string (txt z.e1.n), .int .u8 z.e1.c.toNat])) W = .ok (.bool (decide (y = z))) W := by
  rw [run_eql_struct, eql_items]; rfl
end Go.Proofs.YtgagandecjljoaaDoor

