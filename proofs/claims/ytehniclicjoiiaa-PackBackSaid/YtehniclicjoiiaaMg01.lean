/-
  Texts of this claim, merged: LawKit, LnSpec, LnMem, RowMem, RowMake, SmSpec, SmMem, AppRow.
-/
import Derived.Test.YtehniclicjoiiaaRows
import Derived.BigFrame
import Derived.BigQuiet
import Derived.Carry
import Derived.Deep.AppendLies
import Derived.Deep.AppendSrc
import Derived.Deep.DeepHandedRow
import Derived.Deep.OwnRows
import Derived.Deep.QuietTactic
import Derived.Deep.RegionLaw
import Derived.Deep.RegionWith
import Derived.Deep.Slices
import Derived.Laws.BitsAllLaws
import Derived.Laws.CopyRow
import Derived.Laws.IdiomStrings
import Derived.Laws.OwnMore
import Derived.Laws.Shifts
import Derived.Lib.Hide
import Derived.Lib.Join
import Derived.Lib.LaidTab
import Derived.Lib.Split
import Derived.Lib.SplitLaws
import Derived.OpenShut
import Derived.Outline
import Derived.OwnWalk
import Derived.ProofKit
import Derived.Shelf.Bytes.SlEqualAll
import Derived.Stop.LaidErr
import Derived.WalkKit
import Derived.WalkLawsBesides
import Derived.WalkSpells
/-
  What a law's row asks behind the call, for any law of this project: it returned true, and memory that there was is as it was. No function of the project is named here.
-/
namespace Go.Proofs.Ytehniclicjoiiaa
open Go.ChangeShapes Go.WideShapes Go.ChangeAt Go.RowKit

theorem ownKnobNone : ownKnob Try.prog.godebug = none := by kernel_rfl
theorem laidOut : laidOutB Try.prog = true := by kernel_rfl

theorem trodAll_kept {H : Type} {enc : TypeId × Value → H} {P : Program} (hl : laidOutB P = true) {W W' : World} {sp : Nat → Bool} (hb : Below W.heap.size W W') :
    ∀ {ts : List TypeId} {vs : List Value} {ds : List (DataW H)} {ps : List MemPlace}, (ts.all fun t => P.readableRec t && decide (t < P.types.size)) = true →
      DataW.TrodAll enc P W 0 (fun _ => true) true ts vs ds ps → (∀ x ∈ ps, x.block < W.heap.size) → (∀ x ∈ ps, sp x.block = true) → DataW.TrodAll enc P W' 0 sp true ts vs ds ps
  | [], [], [], _, _, h, _, _ => h
  | t :: ts, v :: vs, d :: ds, ps, hr, h, hlt, hs => by
    obtain ⟨p, q, h1, h2, rfl⟩ := h
    simp only [List.all_cons, Bool.and_eq_true, decide_eq_true_eq] at hr
    exact ⟨p, q, Go.WideElems.Trod_stays hl hr.1.1 hr.1.2 h1 (fun x hx => hb.same (hlt x (List.mem_append_left _ hx))) (fun x hx => hs x (List.mem_append_left _ hx)),
      trodAll_kept hl hb (by simpa using hr.2) h2 (fun x hx => hlt x (List.mem_append_right _ hx)) (fun x hx => hs x (List.mem_append_right _ hx)), rfl⟩
  | [], _ :: _, _, _, _, h, _, _ => h.elim
  | _ :: _, [], _, _, _, h, _, _ => h.elim
  | [], [], _ :: _, _, _, h, _, _ => h.elim
  | _ :: _, _ :: _, [], _, _, h, _, _ => h.elim

/-- Behind a law that returned true: all that its row asks. -/
theorem post_law {H : Type} {enc : TypeId × Value → H} {P : Program} {f : Func} {s : ChangeSpec} {W W' : World} {args : Array Value} {ds gs : List (DataW H)} {before : List MemPlace} {tb : TypeId}
    (hl : laidOutB P = true) (hv : s.vars = []) (hr : f.resultTypes = #[tb]) (ht : P.underlying tb = some .bool)
    (hp : (f.params.toList.all fun t => P.readableRec t && decide (t < P.types.size)) = true)
    (hfn : s.fn H (ds ++ gs) = { results := [.lit (.bool true)], args := ds })
    (hW : DataW.Whole enc P f.params.toList s.vars false W args.toList ds gs before) (hb : Below W.heap.size W W') :
    s.post enc P f false true false false W args (.bool true) W' := by
  have hlt : ∀ p ∈ before, p.block < W.heap.size := fun p hp => hW.lt p hp
  have hW2 := hW
  obtain ⟨p, q, hA, hV, rfl, _, _⟩ := hW
  rw [hv] at hV
  obtain ⟨rfl, rfl⟩ := trodVars_none hV
  simp only [List.append_nil] at hlt hW2
  refine ⟨ds, [], p, [], p, [], hW2, ?_, ?_, ?_, ?_, fun h => by cases h⟩
  · rw [hfn, hr]
    exact trodAll_cons_mk (shut_bool ht _) trodAll_mk0
  · rw [hfn]
    exact trodAll_kept hl hb hp hA hlt (fun x hx => by simpa using hlt x hx)
  · rw [hfn, hv]; rfl
  · exact World.keptBut_mono (fun x hx => ⟨hx, Or.inr (Or.inl hx)⟩) (hb.frame (· ∈ p))

/-- The cells that a laid table's datum tells. -/
def tableCells : DataW Unit → Array Value
  | .agg l => (l.map fun | .lit (.int k n) => .int k n | _ => undef).toArray
  | _ => #[]
/-- A world in which block g holds these cells. -/
def setTable (h : Array Obj) (g : Nat) (cs : Array Value) : Array Obj := h.modify g fun
  | .cells _ t frozen => .cells cs t frozen
  | o => o

theorem wf_i64 {n : Int} (h : (Lit.int .i64 n).wf = true) : -9223372036854775808 ≤ n ∧ n ≤ 9223372036854775807 := by
  simpa [Lit.wf, IntKind.min, IntKind.max, IntKind.bits, IntKind.signed] using h
theorem wf_u64 {n : Int} (h : (Lit.int .u64 n).wf = true) : 0 ≤ n ∧ n ≤ 18446744073709551615 := by
  simpa [Lit.wf, IntKind.min, IntKind.max, IntKind.bits, IntKind.signed] using h
theorem wf_u32 {n : Int} (h : (Lit.int .u32 n).wf = true) : 0 ≤ n ∧ n ≤ 4294967295 := by
  simpa [Lit.wf, IntKind.min, IntKind.max, IntKind.bits, IntKind.signed] using h
theorem wf_u16 {n : Int} (h : (Lit.int .u16 n).wf = true) : 0 ≤ n ∧ n ≤ 65535 := by
  simpa [Lit.wf, IntKind.min, IntKind.max, IntKind.bits, IntKind.signed] using h
theorem wf_u8 {n : Int} (h : (Lit.int .u8 n).wf = true) : 0 ≤ n ∧ n ≤ 255 := by
  simpa [Lit.wf, IntKind.min, IntKind.max, IntKind.bits, IntKind.signed] using h
end Go.Proofs.Ytehniclicjoiiaa
/-
  Plain mathematics of lines and words: a text cut at a byte, put together, and what may stand in a word. No program is named here.
-/
namespace Go.Proofs.Ytehniclicjoiiaa.Ln
open Go

def step (c : UInt8) (p : List (List UInt8) × List UInt8) (x : UInt8) : List (List UInt8) × List UInt8 := if x = c then (p.1 ++ [p.2], []) else (p.1, p.2 ++ [x])
def st (c : UInt8) (l : List UInt8) : List (List UInt8) × List UInt8 := l.foldl (step c) ([], [])
def cut (c : UInt8) (l : List UInt8) : List (List UInt8) := (st c l).1 ++ [(st c l).2]
def text (L : List (List UInt8)) : List UInt8 := (L.map (· ++ [10])).flatten
def whole (l : List UInt8) : Bool := (st 10 l).2.isEmpty
def split (l : List UInt8) : List (List UInt8) := if whole l then (st 10 l).1 else cut 10 l
/-! ### lines -/
/-! ### words -/
end Go.Proofs.Ytehniclicjoiiaa.Ln
/-
  Slices of texts in memory: which texts their cells hold; kept where nothing below the heap's end changes. And the small words that the walks of layer 2 use.
-/
namespace Go.Proofs.Ytehniclicjoiiaa
open Go.RowKit

theorem dec_f {p : Prop} [Decidable p] (h : ¬ p) : decide p = false := decide_eq_false h
theorem dec_t {p : Prop} [Decidable p] (h : p) : decide p = true := decide_eq_true h
theorem below_drewN {B : Nat} {a w : World} (h : Below B a w) (n : Nat) : Below B a (w.drewN n) := ⟨h.os, h.tape, h.output, h.size, h.block⟩
def txt (x : List UInt8) : ByteArray := ⟨x.toArray⟩
def str (x : List UInt8) : Value := .string (txt x)
theorem txt_toList (x : List UInt8) : (txt x).data.toList = x := by simp [txt]
theorem txt_of (s : ByteArray) : txt s.data.toList = s := by simp [txt]
theorem str_of (s : ByteArray) : str s.data.toList = .string s := by rw [str, txt_of]
/-- The cells from A on hold these texts. -/
def Strs (w : World) (A : Option Addr) (L : List (List UInt8)) : Prop :=
  ∀ k x, L[k]? = some x → ∃ a, A = some a ∧ a.block < w.heap.size ∧ w.cell? (a.add k) = some (str x)
theorem add_block (a : Addr) (k : Nat) : (a.add k).block = a.block := by unfold Addr.add; split <;> rfl
theorem Strs.nil (w : World) (A : Option Addr) : Strs w A [] := fun k x h => by simp at h
theorem Strs.below {w w' : World} {A : Option Addr} {L : List (List UInt8)} {B : Nat} (h : Strs w A L) (hB : B = w.heap.size) (hb : Below B w w') : Strs w' A L := fun k x hx => by
  subst hB
  obtain ⟨a, rfl, h1, h2⟩ := h k x hx
  have := hb.size
  exact ⟨a, rfl, by omega, by rw [hb.cell (by rw [add_block]; exact h1)]; exact h2⟩
theorem Strs.take {w : World} {A : Option Addr} {L : List (List UInt8)} (h : Strs w A L) (n : Nat) : Strs w A (L.take n) := fun k x hx => h k x (by
  rw [List.getElem?_take] at hx
  split at hx
  · exact hx
  · cases hx)
theorem Strs.cell {w : World} {A : Option Addr} {L : List (List UInt8)} (h : Strs w A L) {k : Nat} (hk : k < L.length) : ∃ a, A = some a ∧ a.block < w.heap.size ∧ w.cell? (a.add k) = some (str L[k]) := h k _ (List.getElem?_eq_getElem hk)
theorem Strs.of_own {w : World} {base : Nat} {e : TypeId} {v : Value} {n : Nat} {L : List (List UInt8)} (h : w.ownsRow base e 1 v n (L.map str)) :
    n = L.length ∧ ∃ A c, v = .slice A n c ∧ n ≤ c ∧ Strs w A L := by
  have hl : L.length = n := by simpa using h.1
  refine ⟨hl.symm, ?_⟩
  rcases h.2 with ⟨rfl, rfl⟩ | ⟨g, cap, cur, rfl, _, hh, hc, _⟩
  · exact ⟨none, 0, rfl, Nat.le_refl _, by rw [List.eq_nil_of_length_eq_zero hl]; exact Strs.nil _ _⟩
  · refine ⟨some ⟨g, 0, none⟩, cap, rfl, hc, fun k x hx => ⟨_, rfl, ?_, ?_⟩⟩
    · exact (Array.getElem?_eq_some_iff.1 hh).1
    · exact h.cells (g := g) rfl k _ (by rw [List.getElem?_map, hx]; rfl)
/-- A block of these texts that was laid just now. -/
theorem Strs.fresh (w : World) (L : List (List UInt8)) (t : TypeId) : Strs (w.alloc (.cells (L.map str).toArray t)) (some ⟨w.heap.size, 0, none⟩) L := fun k x hx => by
  refine ⟨_, rfl, by simp, ?_⟩
  rw [Go.WideShapes.add_plain, Nat.zero_add, cell_of_row _ _ _ _ _ _ (heap_alloc_new w _)]
  simp [hx]

end Go.Proofs.Ytehniclicjoiiaa
/-
  Slices of structs in memory, whatever the struct: which values their cells hold, so many cells an element; kept where nothing below the heap's end changes. No function of the program is named here.
-/
namespace Go.Proofs.Ytehniclicjoiiaa
open Go.RowKit

/-- How a thing of ours lies in memory: so many cells, each a value of one cell. -/
structure Lies (α : Type) where
  m : Nat
  pos : 0 < m
  enc : α → List Value
  len : ∀ y, (enc y).length = m
  one : ∀ y, ∀ u ∈ enc y, u.oneCell' = true
section
variable {α : Type} (E : Lies α)
def Lies.all (L : List α) : List Value := L.flatMap E.enc
theorem Lies.all_append (a b : List α) : E.all (a ++ b) = E.all a ++ E.all b := by simp [Lies.all]
theorem Lies.all_cons (y : α) (L : List α) : E.all (y :: L) = E.enc y ++ E.all L := by simp [Lies.all]
theorem Lies.all_len : ∀ L : List α, (E.all L).length = L.length * E.m
  | [] => by simp [Lies.all]
  | y :: L => by rw [E.all_cons, List.length_append, Lies.all_len L, E.len, List.length_cons, Nat.succ_mul]; omega
theorem Lies.all_at : ∀ (L : List α) (k j : Nat) (y : α), L[k]? = some y → j < E.m → (E.all L)[k * E.m + j]? = (E.enc y)[j]?
  | [], _, _, _, h, _ => by simp at h
  | x :: L, 0, j, y, h, hj => by
    obtain rfl : x = y := by simpa using h
    rw [E.all_cons, List.getElem?_append_left (by rw [E.len]; omega)]
    congr 1; omega
  | x :: L, k + 1, j, y, h, hj => by
    rw [E.all_cons, List.getElem?_append_right (by rw [E.len, Nat.succ_mul]; omega), E.len]
    rw [show (k + 1) * E.m + j - E.m = k * E.m + j by rw [Nat.succ_mul]; omega]
    exact Lies.all_at L k j y (by simpa using h) hj
theorem Lies.all_single (L : List α) : ∀ u ∈ E.all L, u.oneCell' = true := fun u hu => by
  obtain ⟨y, _, h⟩ := List.mem_flatMap.1 hu
  exact E.one y u h
/-- Cells that hold a thing. -/
def Lies.On (w : World) (b o : Nat) (y : α) : Prop := ∀ j v, (E.enc y)[j]? = some v → w.cell? ⟨b, o + j, none⟩ = some v
/-- The cells from A on hold these. -/
def Lies.Row (w : World) (A : Option Addr) (L : List α) : Prop := L = [] ∨ ∃ b o, A = some ⟨b, o, none⟩ ∧ b < w.heap.size ∧ ∀ k y, L[k]? = some y → E.On w b (o + k * E.m) y
theorem Lies.Row.nil (w : World) (A : Option Addr) : E.Row w A [] := .inl rfl
variable {E}
theorem Lies.On.below {w w' : World} {b o : Nat} {y : α} {B : Nat} (h : E.On w b o y) (hlt : b < B) (hb : Below B w w') : E.On w' b o y := fun j v hv => by
  rw [hb.cell (show (⟨b, o + j, none⟩ : Addr).block < B from hlt)]; exact h j v hv
theorem Lies.Row.below {w w' : World} {A : Option Addr} {L : List α} {B : Nat} (h : E.Row w A L) (hB : B = w.heap.size) (hb : Below B w w') : E.Row w' A L := by
  subst hB
  rcases h with h | ⟨b, o, hA, hlt, h⟩
  · exact .inl h
  · have := hb.size
    exact .inr ⟨b, o, hA, by omega, fun k y hk => (h k y hk).below hlt hb⟩
theorem Lies.Row.at {w : World} {A : Option Addr} {L : List α} (h : E.Row w A L) {k : Nat} (hk : k < L.length) : ∃ b o, A = some ⟨b, o, none⟩ ∧ b < w.heap.size ∧ E.On w b (o + k * E.m) L[k] := by
  rcases h with rfl | ⟨b, o, hA, hlt, h⟩
  · simp at hk
  · exact ⟨b, o, hA, hlt, h k _ (List.getElem?_eq_getElem hk)⟩
theorem Lies.Row.of_own {w : World} {base : Nat} {e : TypeId} {v : Value} {n : Nat} {L : List α} (h : w.ownsRow base e E.m v n (E.all L)) :
    n = L.length ∧ ∃ A c, v = .slice A n c ∧ n ≤ c ∧ E.Row w A L := by
  have hl : L.length = n := by
    have := h.1
    rw [E.all_len] at this
    exact Nat.eq_of_mul_eq_mul_right E.pos this
  refine ⟨hl.symm, ?_⟩
  rcases h.2 with ⟨rfl, rfl⟩ | ⟨g, cap, cur, rfl, _, hh, hc, _⟩
  · exact ⟨none, 0, rfl, Nat.le_refl _, .inl (List.eq_nil_of_length_eq_zero hl)⟩
  · refine ⟨some ⟨g, 0, none⟩, cap, rfl, hc, .inr ⟨g, 0, rfl, (Array.getElem?_eq_some_iff.1 hh).1, fun k y hk j u hu => ?_⟩⟩
    have hj : j < E.m := by
      have := (List.getElem?_eq_some_iff.1 hu).1
      rwa [E.len] at this
    have := h.cells (g := g) rfl (k * E.m + j) u (by rw [E.all_at L k j y hk hj]; exact hu)
    rw [Go.WideShapes.add_plain] at this
    rw [show 0 + k * E.m + j = 0 + (k * E.m + j) by omega]
    exact this
theorem Lies.news {w : World} {b o : Nat} {L : List α} (h : ∀ k y, L[k]? = some y → E.On w b (o + k * E.m) y) : ∀ j u, (E.all L)[j]? = some u → w.cell? ((⟨b, o, none⟩ : Addr).add j) = some u := fun j u hu => by
  have hl := (List.getElem?_eq_some_iff.1 hu).1
  rw [E.all_len] at hl
  have hp := E.pos
  have hk : j / E.m < L.length := (Nat.div_lt_iff_lt_mul hp).2 hl
  have e := E.all_at L (j / E.m) (j % E.m) _ (List.getElem?_eq_getElem hk) (Nat.mod_lt _ hp)
  have hj : j / E.m * E.m + j % E.m = j := by rw [Nat.mul_comm]; exact Nat.div_add_mod j E.m
  rw [hj, hu] at e
  rw [Go.WideShapes.add_plain]
  have := h (j / E.m) _ (List.getElem?_eq_getElem hk) (j % E.m) u e.symm
  rwa [show o + j / E.m * E.m + j % E.m = o + j by omega] at this
/-- A block of these that was laid just now. -/
theorem Lies.Row.fresh (w : World) (L : List α) (t : TypeId) : E.Row (w.alloc (.cells (E.all L).toArray t)) (some ⟨w.heap.size, 0, none⟩) L := by
  refine .inr ⟨w.heap.size, 0, rfl, by simp, fun k y hk j v hv => ?_⟩
  have hj : j < E.m := by
    have := (List.getElem?_eq_some_iff.1 hv).1
    rwa [E.len] at this
  rw [cell_of_row _ _ _ _ _ _ (heap_alloc_new w _), List.getElem?_toArray, Nat.zero_add, E.all_at L k j y hk hj]
  exact hv
/-- One cell of one element is another one: the element is. -/
theorem Lies.set_cell (L : List α) (k j : Nat) (x y : α) (hx : L[k]? = some x) (hj : j < E.m) (u : Value) (hu : (E.enc x).set j u = E.enc y) : (E.all L).set (k * E.m + j) u = E.all (L.set k y) := by
  apply List.ext_getElem?
  intro i
  have hkl := (List.getElem?_eq_some_iff.1 hx).1
  have hlen : (E.all (L.set k y)).length = (E.all L).length := by rw [E.all_len, E.all_len, List.length_set]
  by_cases hi : i < L.length * E.m
  · have hp := E.pos
    have hk' : i / E.m < L.length := (Nat.div_lt_iff_lt_mul hp).2 hi
    have hi' : i / E.m * E.m + i % E.m = i := by rw [Nat.mul_comm]; exact Nat.div_add_mod i E.m
    have hmod := Nat.mod_lt i hp
    by_cases hik : i / E.m = k
    · have hik' : k * E.m + i % E.m = i := by rw [← hik]; exact hi'
      have r : (E.all (L.set k y))[i]? = (E.enc y)[i % E.m]? := by
        have := E.all_at (L.set k y) k (i % E.m) y (by rw [List.getElem?_set_self hkl]) hmod
        rwa [hik'] at this
      rw [r, ← hu]
      by_cases hij : i % E.m = j
      · rw [hij, List.getElem?_set_self (by rw [E.len]; exact hj)]
        rw [show k * E.m + j = i by rw [← hij]; exact hik']
        rw [List.getElem?_set_self (by rw [E.all_len]; exact hi)]
      · rw [List.getElem?_set_ne (by omega), List.getElem?_set_ne (by omega)]
        have := E.all_at L k (i % E.m) x hx hmod
        rwa [hik'] at this
    · rw [List.getElem?_set_ne (fun e => hik (by rw [← e, Nat.mul_comm, Nat.mul_add_div hp, Nat.div_eq_of_lt hj, Nat.add_zero]))]
      have a := E.all_at L (i / E.m) (i % E.m) _ (List.getElem?_eq_getElem hk') hmod
      have b := E.all_at (L.set k y) (i / E.m) (i % E.m) L[i / E.m] (by rw [List.getElem?_set_ne (Ne.symm hik)]; exact List.getElem?_eq_getElem hk') hmod
      rw [hi'] at a b
      rw [a, b]
  · rw [List.getElem?_eq_none (by rw [List.length_set, E.all_len]; omega), List.getElem?_eq_none (by rw [hlen, E.all_len]; omega)]
end
/-- The library's law on append, of things that lie anywhere (none, too), onto a slice of the call's own. -/
theorem wpList_append_row {α : Type} (E : Lies α) {P : Program} (w : World) {ops : Array Oper} {rest : List Oper} {o : Oper} {a : Act} {Q : Exit → Act → World → Prop} (hw : Region.wanted o (yielded ops a.tmps) = true) (s x : Operand) (t : TypeId)
    (ho : o.op = .call { callee := .builtin .append, args := #[s, x], argTypes := #[t, t] })
    (base : Nat) (e : TypeId) (i : TypeInfo) (z : Value) (bytes : Nat) (ht : P.underlying t = some (.slice e)) (hi : P.info? e = some i) (hz : i.zero = some z)
    (hsize : i.size = E.m) (hby : i.bytes = bytes) (hzs : z.cells.size = E.m)
    (v : Value) (n : Nat) (xs : List Value) (hs : a.eval s = v) (hown : w.ownsRow base e E.m v n xs)
    (A : Option Addr) (c m : Nat) (L : List α) (hm : L.length = m) (h0 : 0 < m) (hx : a.eval x = .slice A m c) (hI : E.Row w A L) (hn : n + m ≤ 1000000000) (hbytes : (n + m) * bytes ≤ 140737488355328) (hbase : base ≤ w.heap.size)
    (h : ∀ g' cap' w', w'.ownsRow base e E.m (.slice (some ⟨g', 0, none⟩) (n + m) cap') (n + m) (xs ++ E.all L) → w.grownBy w' v.ownBlock → (v.ownBlock = some g' ∨ g' = w.heap.size) → wpList P ops Q rest (a.put o.dst (.slice (some ⟨g', 0, none⟩) (n + m) cap')) w') : wpList P ops Q (o :: rest) a w := by
  subst hm
  rcases hI with hI | ⟨b, off, rfl, _, hI⟩
  · subst hI; simp at h0
  exact BigFrame.wpList_want hw fun _ hK => wp_append_lies w s x t ho base e i z E.m bytes ht hi hz hsize hby hzs E.pos _ n xs hs hown ⟨b, off, none⟩ L.length c (E.all L) hx (E.all_len L) (Lies.news hI) (E.all_single L) h0 (by unfold maxLen; omega) hbytes hbase _ rfl
    fun g' cap' w' h2 h3 h4 _ => hK _ _ (h g' cap' w' h2 h3 h4)
end Go.Proofs.Ytehniclicjoiiaa
/-
  Slices of structs: made of noughts, and one element stored whole. No function of the program is named here.
-/
namespace Go.Proofs.Ytehniclicjoiiaa
open Go.RowKit

section
variable {α : Type} (E : Lies α)
variable {P : Program}
end
/-- Cells written one behind the other. -/
def setCells (w : World) (g o : Nat) : List Value → World
  | [] => w
  | v :: vs => setCells (w.setCell ⟨g, o, none⟩ v) g (o + 1) vs
theorem setCells_other (g b : Nat) (h : b ≠ g) : ∀ (vs : List Value) (o : Nat) (w : World), (setCells w g o vs).heap[b]? = w.heap[b]?
  | [], _, _ => rfl
  | v :: vs, o, w => by rw [setCells, setCells_other g b h vs, heap_setCell_other _ _ _ _ (by simpa using h)]
end Go.Proofs.Ytehniclicjoiiaa
/-
  Plain facts on sums of bytes, for layer 16. No program is named here.
-/
namespace Go.Proofs.Ytehniclicjoiiaa.Sm

def poly : Nat := 3988292384
/-- A number halved, and turned by the polynomial if it was odd. -/
def half (n : Nat) : Nat := if n % 2 = 1 then (n / 2) ^^^ poly else n / 2
def halves : Nat → Nat → Nat
  | 0, n => n
  | k + 1, n => half (halves k n)
/-- The number goes on by a byte. -/
def byte (n b : Nat) : Nat := halves 8 (n ^^^ b)
def run (n : Nat) (l : List Nat) : Nat := l.foldl byte n
/-- Bytes as one number, the first one lowest. -/
def num : List Nat → Nat
  | [] => 0
  | b :: l => b ^^^ (num l <<< 8)
def Bytes (l : List Nat) : Prop := ∀ x ∈ l, x < 256

theorem Bytes.at {l : List Nat} (h : Bytes l) (i : Nat) : l.getD i 0 < 256 := by
  rw [List.getD_eq_getElem?_getD]
  cases hx : l[i]? with
  | none => show 0 < _; omega
  | some y => exact h y (List.mem_of_getElem? hx)
theorem Bytes.take {l : List Nat} (h : Bytes l) (k : Nat) : Bytes (l.take k) := fun x hx => h x (List.mem_of_mem_take hx)
theorem Bytes.drop {l : List Nat} (h : Bytes l) (k : Nat) : Bytes (l.drop k) := fun x hx => h x (List.mem_of_mem_drop hx)
theorem Bytes.set {M : List Nat} (h : Bytes M) (i j : Nat) (hj : j < 8) : Bytes (M.set i (M.getD i 0 ^^^ 2 ^ j)) := fun x hx => by
  rcases List.mem_or_eq_of_mem_set hx with hx | rfl
  · exact h x hx
  · have h2 : (2 : Nat) ^ j < 2 ^ 8 := Nat.pow_lt_pow_right (by decide) hj
    exact Nat.xor_lt_two_pow (n := 8) (h.at i) h2
end Go.Proofs.Ytehniclicjoiiaa.Sm
/-
  Bytes in memory: rows of them, those of a call's own, and as a text. No function of the program is named here.
-/
namespace Go.Proofs.Ytehniclicjoiiaa
open Go.RowKit

def OneIs (v : Value) (w : World) (e : Ending) (w' : World) : Prop := e = .returned v ∧ Below w.heap.size w w'
namespace Lies
variable {α : Type} (E : Lies α)
/-- The first of a row's elements. -/
theorem Row.take {w : World} {A : Option Addr} {L : List α} (h : E.Row w A L) (k : Nat) : E.Row w A (L.take k) := by
  rcases h with rfl | ⟨b, o, hA, hb, h⟩
  · exact .inl List.take_nil
  · refine .inr ⟨b, o, hA, hb, fun j y hj => h j y ?_⟩
    rw [List.getElem?_take] at hj
    split at hj
    · exact hj
    · cases hj
/-- The others. -/
theorem Row.drop {w : World} {b o : Nat} {L : List α} (h : E.Row w (some ⟨b, o, none⟩) L) (k : Nat) : E.Row w (some ⟨b, o + k * E.m, none⟩) (L.drop k) := by
  rcases h with rfl | ⟨b', o', hA, hb, h⟩
  · exact .inl List.drop_nil
  · cases hA
    refine .inr ⟨b, o + k * E.m, rfl, hb, fun j y hj => ?_⟩
    rw [List.getElem?_drop] at hj
    have := h (k + j) y hj
    rwa [Nat.add_mul, ← Nat.add_assoc] at this
/-- The others, where a slice of the row puts them. -/
theorem Row.low {E : Lies α} {w : World} {A : Option Addr} {L : List α} (h : E.Row w A L) {c : Nat} (hc : L.length ≤ c) (j : Nat) : E.Row w (if c = j then A else Option.map (fun x => x.add (j * E.m)) A) (L.drop j) := by
  rcases h with rfl | ⟨b, o, rfl, hb, h⟩
  · exact .inl List.drop_nil
  · by_cases e : c = j
    · exact .inl (List.drop_eq_nil_of_le (by omega))
    · rw [if_neg e, Option.map_some, Go.WideShapes.add_plain]
      exact Row.drop E (.inr ⟨b, o, rfl, hb, h⟩) j
end Lies
/-- Bytes in memory. -/
def LBt : Lies Nat := ⟨1, by decide, fun x => [.int .u8 (x : Int)], fun _ => rfl, fun y u hu => by
  simp at hu
  subst hu; rfl⟩
theorem bt_on {w : World} {b o : Nat} {x : Nat} (h : LBt.On w b o x) : w.cell? ⟨b, o, none⟩ = some (.int .u8 (x : Int)) := h 0 _ rfl
theorem infoBt : (Try.prog.info? 5).map (fun i => (i.zero, i.size, i.bytes)) = some (some (.int .u8 0), 1, 1) := by kernel_rfl
theorem bt_at {w : World} {A : Option Addr} {L : List Nat} (h : LBt.Row w A L) {k : Nat} (hk : k < L.length) : ∃ b o, A = some ⟨b, o, none⟩ ∧ b < w.heap.size ∧ w.cell? ⟨b, o + k, none⟩ = some (.int .u8 (L.getD k 0 : Nat)) := by
  obtain ⟨b, o, h1, h2, h3⟩ := h.at hk
  refine ⟨b, o, h1, h2, ?_⟩
  have := bt_on h3
  rw [show k * LBt.m = k from Nat.mul_one k] at this
  rw [this, List.getD_eq_getElem?_getD, List.getElem?_eq_getElem hk]
  rfl
/-- Bytes that a call leaves, in memory of its own. -/
def BtOwn (L : List Nat) (w : World) (e : Ending) (w' : World) : Prop := ∃ v, e = .returned v ∧ w'.ownsRow w.heap.size 5 LBt.m v L.length (LBt.all L) ∧ Below w.heap.size w w'
/-- As numbers, and as a text. -/
def bnums (L : List Nat) : List Int := L.map fun (x : Nat) => (x : Int)
def btext (L : List Nat) : ByteArray := strOfNums (bnums L)
theorem bnums_len (L : List Nat) : (bnums L).length = L.length := List.length_map ..
theorem bytes_in {w : World} {A : Option Addr} {L : List Nat} (h : LBt.Row w A L) : Lib.BytesIn w A L.length (bnums L) := fun hn => by
  obtain ⟨b, o, rfl, -⟩ := bt_at h hn
  refine ⟨b, o, rfl, fun i hi => ?_⟩
  obtain ⟨b', o', e, -, hc⟩ := bt_at h hi
  cases e
  rw [hc, List.getD_eq_getElem?_getD, List.getD_eq_getElem?_getD, bnums, List.getElem?_map, List.getElem?_eq_getElem hi]
  rfl
theorem run_text {w : World} {A : Option Addr} {L : List Nat} (h : LBt.Row w A L) (c : Nat) : (convert 22 9 (.slice A L.length c)).run Try.prog w = .ok (.string (btext L)) w :=
  (bytes_in h).convert (bnums_len L) c 22 5 9 Try.underlying22 Try.underlying5 Try.underlying9
namespace Sm
end Sm
end Go.Proofs.Ytehniclicjoiiaa
/-
  append, as one step of a region that draws: a row that lies anywhere, or none, onto a slice of the call's own. No function of the program is named here.
-/
namespace Go.Proofs.Ytehniclicjoiiaa
open Go.RowKit

theorem run_append_owned_zero {P : Program} {w : World} (base : Nat) (t ty e : TypeId) (i : TypeInfo) (size : Nat) (ht : P.underlying t = some (.slice e)) (hi : P.info? e = some i)
    (v : Value) (n : Nat) (xs : List Value) (hown : w.ownsRow base e size v n xs) (A : Option Addr) (c : Nat) :
    (Builtin.append_ #[t, t] ty #[v, .slice A 0 c]).run P w = .ok v w := by
  rcases hown.2 with ⟨rfl, rfl⟩ | ⟨g, cap, cur, rfl, _, _, hnc, _⟩
  · cases A <;> simp [Builtin.append_, run_underlying ht, Go.sizeOf, typeInfo, hi, Builtin.lenOf, Builtin.firstCells, loadCells, loadCellsFrom]
  · cases A <;> simp [Builtin.append_, run_underlying ht, Go.sizeOf, typeInfo, hi, Builtin.lenOf, Builtin.firstCells, hnc, storeCells, loadCells, loadCellsFrom]
/-- append, at a plain region's list: a row that lies anywhere, or none, onto a slice of the call's own. -/
theorem wpList_append_at {α : Type} (E : Lies α) {P : Program} {w : World} {ops : Array Oper} {rest : List Oper} {o : Oper} {a : Act} {Q : Exit → Act → World → Prop} (hw : Region.wanted o (yielded ops a.tmps) = true) (s x : Operand) (t : TypeId)
    (ho : o.op = .call { callee := .builtin .append, args := #[s, x], argTypes := #[t, t] })
    (base : Nat) (e : TypeId) (i : TypeInfo) (z : Value) (bytes : Nat) (ht : P.underlying t = some (.slice e)) (hi : P.info? e = some i) (hz : i.zero = some z)
    (hsize : i.size = E.m) (hby : i.bytes = bytes) (hzs : z.cells.size = E.m)
    (v : Value) (n : Nat) (xs : List Value) (hs : a.eval s = v) (hown : w.ownsRow base e E.m v n xs)
    (A : Option Addr) (m c : Nat) (L : List α) (hx : a.eval x = .slice A m c) (hL : L.length = m) (hI : E.Row w A L) (hn2 : n + m ≤ 1000000000) (hbytes : (n + m) * bytes ≤ 140737488355328) (hbase : base ≤ w.heap.size)
    (h : ∀ v' w', w'.ownsRow base e E.m v' (n + m) (xs ++ E.all L) → w.grownBy w' v.ownBlock → wpList P ops Q rest (a.put o.dst v') w') : wpList P ops Q (o :: rest) a w := by
  subst hL
  rcases Nat.eq_zero_or_pos L.length with h0 | h0
  · obtain rfl : L = [] := List.eq_nil_of_length_eq_zero h0
    have hrun := run_append_owned_zero (P := P) (w := w) base t o.type e i E.m ht hi v n xs hown A c
    refine BigFrame.wpList_want hw fun _ hK => ?_
    unfold Oper.wp
    simp [execOp, ho, resolve, invoke, builtin, hs, hx, hrun, Result.andThen]
    exact hK _ _ (h v w (by rw [show E.all [] = [] from rfl, List.append_nil]; exact hown) (World.grownBy.refl w _))
  · exact wpList_append_row E w hw s x t ho base e i z bytes ht hi hz hsize hby hzs v n xs hs hown A c L.length L rfl h0 hx hI hn2 hbytes hbase fun g' cap' w' h1 h2 _ => h _ w' h1 h2
end Go.Proofs.Ytehniclicjoiiaa
