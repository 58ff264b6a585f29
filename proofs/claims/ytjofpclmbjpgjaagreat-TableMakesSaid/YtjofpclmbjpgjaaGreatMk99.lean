/- Lemmas on worlds, by short names. -/
import Derived.Laws.Rows
import Derived.Below
namespace Go.Proofs.YtjofpclmbjpgjaaGreat
open Go.RowKit
theorem AsW (w : World) (o : Obj) : (w.alloc o).heap[w.heap.size]? = some o := heap_alloc_new w o
theorem AsX (w : World) (a : Addr) (k : Nat) (v : Value) (h : k ≠ a.block) : (w.setCell a v).heap[k]? = w.heap[k]? := heap_setCell_other w a k v h
theorem AsY (w : World) (g j : Nat) (cs : Array Value) (t : TypeId) (fr : Nat × Nat) (h : w.heap[g]? = some (.cells cs t fr)) : w.cell? ⟨g, j, none⟩ = cs[j]? := cell_of_row w g j cs t fr h
theorem AsZ (w : World) (g j : Nat) (cs : Array Value) (t : TypeId) (h : w.heap[g]? = some (.cells cs t)) : w.frozen? ⟨g, j, none⟩ = false := frozen_of_row w g j cs t h
theorem AtA (w : World) (g i : Nat) (cs : Array Value) (t : TypeId) (v : Value) (h : w.heap[g]? = some (.cells cs t)) : (w.setCell ⟨g, i, none⟩ v).heap[g]? = some (.cells (cs.setIfInBounds i v) t) := heap_setCell_same w g i cs t v h
theorem AtB (w : World) : Below w.heap.size w w := Below.refl _ _
end Go.Proofs.YtjofpclmbjpgjaaGreat
