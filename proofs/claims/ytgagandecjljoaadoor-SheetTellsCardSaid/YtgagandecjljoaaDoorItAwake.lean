/-
  The walk of layer 3's awake: the document's examples come out as they should.
-/
import Derived.Test.YtgagandecjljoaaDoorItRight
namespace Go.Proofs.YtgagandecjljoaaDoor
open Go.RowKit

theorem keep_row {w w' : World} {o : Obj} {b : Nat} {r : Obj} (h : w.heap[b]? = some r) (hb : Below (w.alloc o).heap.size (w.alloc o) w') : w'.heap[b]? = some r := by
  have hl : b < w.heap.size := (Array.getElem?_eq_some_iff.1 h).1
  rw [hb.block b (by simp; omega), row_alloc hl, h]
theorem fresh_row {w w' : World} {o : Obj} (hb : Below (w.alloc o).heap.size (w.alloc o) w') : w'.heap[w.heap.size]? = some o := by
  rw [hb.block _ (by simp)]; exact heap_alloc_new _ _
theorem stay_row {w w' : World} {b : Nat} {r : Obj} (h : w.heap[b]? = some r) (hb : Below w.heap.size w w') : w'.heap[b]? = some r := by
  rw [hb.block b (Array.getElem?_eq_some_iff.1 h).1, h]
theorem row2 {w : World} {g : Nat} {a b : Value} {t : TypeId} (h : w.heap[g]? = some (.cells #[a, b] t (0, 0))) : (w.cell? ⟨g, 0, none⟩ = some a ∧ w.cell? ⟨g, 1, none⟩ = some b) ∧ g < w.heap.size :=
  ⟨⟨cell_of_row w g 0 _ t _ h, cell_of_row w g 1 _ t _ h⟩, (Array.getElem?_eq_some_iff.1 h).1⟩
theorem parse_c {s : ByteArray} (y : It.Itm) (hs : s.size ≤ 1000000) (h : It.parse s.data.toList = some y) (w : World) (hE : Env w) :
    Calls Tryd.prog 18 #[.string s] w fun e w' => e = .returned (.tuple #[.agg #[.int .i64 y.k, .string (txt y.name), .int .i64 y.n, .string (txt y.e0.n), .int .u8 y.e0.c.toNat, .string (txt y.e1.n), .int .u8 y.e1.c.toNat], .bool true]) ∧ Below w.heap.size w w' :=
  (iparse_any s w hE hs).mono fun e w' ⟨z, he, hz, hb⟩ => by
    rw [h] at hz he
    obtain rfl : z = y := hz
    exact ⟨he, hb⟩
theorem parse_cn {s : ByteArray} (hs : s.size ≤ 1000000) (h : It.parse s.data.toList = none) (w : World) (hE : Env w) :
    Calls Tryd.prog 18 #[.string s] w fun e w' => e = .returned (.tuple #[.agg #[.int .i64 0, .string ⟨#[]⟩, .int .i64 0, .string ⟨#[]⟩, .int .u8 0, .string ⟨#[]⟩, .int .u8 0], .bool false]) ∧ Below w.heap.size w w' :=
  (iparse_any s w hE hs).mono fun e w' ⟨z, he, hz, hb⟩ => by
    rw [h] at hz he
    obtain rfl : z = It.Itm.zero := hz
    exact ⟨he, hb⟩
theorem aw1 (w : World) (hE : Env w) :
    Calls Tryd.prog 18 #[.string ⟨#[112, 111, 105, 110, 116, 32, 80, 49, 32, 56, 48, 48, 48]⟩] w fun e w' => e = .returned (.tuple #[.agg #[.int .i64 6, .string ⟨#[80, 49]⟩, .int .i64 8000, .string ⟨#[]⟩, .int .u8 0, .string ⟨#[]⟩, .int .u8 0], .bool true]) ∧ Below w.heap.size w w' :=
  parse_c ⟨6, [80, 49], 8000, ⟨[], 0⟩, ⟨[], 0⟩⟩ (by decide) (by decide +kernel) w hE
theorem aw2 (w : World) (hE : Env w) :
    Calls Tryd.prog 18 #[.string ⟨#[106, 111, 105, 110, 32, 87, 46, 98, 32, 80, 49, 46, 116]⟩] w fun e w' => e = .returned (.tuple #[.agg #[.int .i64 7, .string ⟨#[]⟩, .int .i64 0, .string ⟨#[87]⟩, .int .u8 98, .string ⟨#[80, 49]⟩, .int .u8 116], .bool true]) ∧ Below w.heap.size w w' :=
  parse_c ⟨7, [], 0, ⟨[87], 98⟩, ⟨[80, 49], 116⟩⟩ (by decide) (by decide +kernel) w hE
theorem aw3 (w : World) (hE : Env w) :
    Calls Tryd.prog 18 #[.string ⟨#[115, 101, 99, 116, 105, 111, 110, 32, 87, 32, 48]⟩] w fun e w' => e = .returned (.tuple #[.agg #[.int .i64 0, .string ⟨#[]⟩, .int .i64 0, .string ⟨#[]⟩, .int .u8 0, .string ⟨#[]⟩, .int .u8 0], .bool false]) ∧ Below w.heap.size w w' :=
  parse_cn (by decide) (by decide +kernel) w hE
theorem aw4 (w : World) (hE : Env w) :
    Calls Tryd.prog 18 #[.string ⟨#[106, 111, 105, 110, 32, 87, 46, 98]⟩] w fun e w' => e = .returned (.tuple #[.agg #[.int .i64 0, .string ⟨#[]⟩, .int .i64 0, .string ⟨#[]⟩, .int .u8 0, .string ⟨#[]⟩, .int .u8 0], .bool false]) ∧ Below w.heap.size w w' :=
  parse_cn (by decide) (by decide +kernel) w hE
theorem aw5 (w : World) (hE : Env w) :
    Calls Tryd.prog 18 #[.string ⟨#[115, 105, 103, 110, 97, 108, 32, 65, 32, 87, 46, 120]⟩] w fun e w' => e = .returned (.tuple #[.agg #[.int .i64 0, .string ⟨#[]⟩, .int .i64 0, .string ⟨#[]⟩, .int .u8 0, .string ⟨#[]⟩, .int .u8 0], .bool false]) ∧ Below w.heap.size w w' :=
  parse_cn (by decide) (by decide +kernel) w hE
theorem aw6 (w : World) (hE : Env w) :
    Calls Tryd.prog 18 #[.string ⟨#[115, 101, 116, 116, 108, 101, 32, 53]⟩] w fun e w' => e = .returned (.tuple #[.agg #[.int .i64 3, .string ⟨#[]⟩, .int .i64 5, .string ⟨#[]⟩, .int .u8 0, .string ⟨#[]⟩, .int .u8 0], .bool true]) ∧ Below w.heap.size w w' :=
  parse_c ⟨3, [], 5, ⟨[], 0⟩, ⟨[], 0⟩⟩ (by decide) (by decide +kernel) w hE
theorem aw7 (w : World) : Calls Tryd.prog 61 #[.string ⟨#[80, 49, 46, 110]⟩] w fun e w' => e = .returned (.tuple #[.agg #[.string ⟨#[80, 49]⟩, .int .u8 110], .bool true]) ∧ Below w.heap.size w w' := by
  have := tip_any ⟨#[80, 49, 46, 110]⟩ w (by decide)
  exact this
theorem aw8 (w : World) (hE : Env w) : Calls Tryd.prog 19 #[.agg #[.int .i64 7, .string ⟨#[]⟩, .int .i64 0, .string ⟨#[87]⟩, .int .u8 98, .string ⟨#[80, 49]⟩, .int .u8 116]] w fun e w' => e = .returned (.string ⟨#[106, 111, 105, 110, 32, 87, 46, 98, 32, 80, 49, 46, 116]⟩) ∧ Below w.heap.size w w' :=
  iprint_any 7 ⟨#[]⟩ 0 ⟨#[87]⟩ 98 ⟨#[80, 49]⟩ 116 w (by decide) (by decide) (by decide) (by decide) (by decide) hE
theorem aw9 (w : World) : Calls Tryd.prog 47 #[.int .i64 4] w fun e w' => e = .returned (.string ⟨#[104, 111, 108, 100]⟩) ∧ w = w' := word_any 4 w
theorem aw10 (w : World) : Calls Tryd.prog 47 #[.int .i64 0] w fun e w' => e = .returned (.string ⟨#[]⟩) ∧ w = w' := word_any 0 w
theorem aw11 (w : World) : Calls Tryd.prog 31 #[.string ⟨#[115, 105, 103, 110, 97, 108]⟩] w fun e w' => e = .returned (.int .i64 9) ∧ w = w' := kind_any ⟨#[115, 105, 103, 110, 97, 108]⟩ w (by decide)
theorem aw12 (w : World) : Calls Tryd.prog 31 #[.string ⟨#[]⟩] w fun e w' => e = .returned (.int .i64 0) ∧ w = w' := kind_any ⟨#[]⟩ w (by decide)
theorem aw_eq (W : World) : Sem.run Tryd.prog (binOp .eql 38 (.agg #[.int .i64 6, .string ⟨#[80, 49]⟩, .int .i64 8000, .string ⟨#[]⟩, .int .u8 0, .string ⟨#[]⟩, .int .u8 0]) (.agg #[.int .i64 6, .string ⟨#[80, 49]⟩, .int .i64 8000, .string ⟨#[]⟩, .int .u8 0, .string ⟨#[]⟩, .int .u8 0])) W = .ok (.bool true) W := by
  have := bin_item W ⟨6, [80, 49], 8000, ⟨[], 0⟩, ⟨[], 0⟩⟩ 6 ⟨#[80, 49]⟩ 8000 ⟨#[]⟩ 0 ⟨#[]⟩ 0
  rwa [show decide ((⟨6, [80, 49], 8000, ⟨[], 0⟩, ⟨[], 0⟩⟩ : It.Itm) = ofV 6 ⟨#[80, 49]⟩ 8000 ⟨#[]⟩ 0 ⟨#[]⟩ 0) = true by decide +kernel] at this
end Go.Proofs.YtgagandecjljoaaDoor

