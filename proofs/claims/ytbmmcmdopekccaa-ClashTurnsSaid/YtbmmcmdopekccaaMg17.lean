/-
  Texts of this claim, merged: CrMem, CrRef, AppRow, NumMem, DmMem.
-/
import Derived.Test.YtbmmcmdopekccaaMg04
import Derived.Test.YtbmmcmdopekccaaMg09
import Derived.Test.YtbmmcmdopekccaaMg13
import Derived.Test.YtbmmcmdopekccaaMg14
import Derived.Test.YtbmmcmdopekccaaMg15
import Derived.Test.YtbmmcmdopekccaaMg16
import Derived.BigQuiet
import Derived.Deep.AppendLies
import Derived.Deep.CutRange
import Derived.Deep.RegionLaw
import Derived.Laws.OwnMore
/-
  Ways in memory: rows whose elements' steps lie elsewhere; a frame by the blocks' types. No function of the program is named here.
-/
namespace Go.Proofs.Ytbmmcmdopekccaa
open Go.RowKit

/-- A way in memory: where its steps lie. -/
structure WayM where
  A : Option Addr
  c : Nat
  way : Cr.Way
def LWay : Lies WayM := ⟨2, by decide, fun m => [.slice m.A m.way.steps.length m.c, .int .i64 m.way.exit], fun _ => rfl, fun y u hu => by
  simp at hu
  rcases hu with rfl | rfl <;> rfl⟩
theorem way_on {w : World} {b o : Nat} {m : WayM} (h : LWay.On w b o m) : w.cell? ⟨b, o, none⟩ = some (.slice m.A m.way.steps.length m.c) ∧ w.cell? ⟨b, o + 1, none⟩ = some (.int .i64 m.way.exit) :=
  ⟨h 0 _ rfl, h 1 _ rfl⟩
/-- Ways lie there. -/
def WaysIn (w : World) (A : Option Addr) (L : List Cr.Way) : Prop := ∃ M : List WayM, M.map WayM.way = L ∧ LWay.Row w A M ∧ ∀ m ∈ M, LStp.Row w m.A m.way.steps ∧ m.way.steps.length ≤ m.c
theorem WaysIn.nil (w : World) (A : Option Addr) : WaysIn w A [] := ⟨[], rfl, .inl rfl, fun _ h => (by cases h)⟩
theorem WaysIn.below {w w' : World} {A : Option Addr} {L : List Cr.Way} (h : WaysIn w A L) (hb : Below w.heap.size w w') : WaysIn w' A L := by
  obtain ⟨M, h1, h2, h3⟩ := h
  exact ⟨M, h1, h2.below rfl hb, fun m hm => ⟨(h3 m hm).1.below rfl hb, (h3 m hm).2⟩⟩
/-- A way of those. -/
theorem WaysIn.at {w : World} {A : Option Addr} {L : List Cr.Way} (h : WaysIn w A L) {k : Nat} {y : Cr.Way} (hk : L[k]? = some y) : ∃ b o S d, A = some ⟨b, o, none⟩ ∧ b < w.heap.size ∧ w.cell? ⟨b, o + k * 2, none⟩ = some (.slice S y.steps.length d) ∧ w.cell? ⟨b, o + k * 2 + 1, none⟩ = some (.int .i64 y.exit) ∧ LStp.Row w S y.steps ∧ y.steps.length ≤ d := by
  obtain ⟨M, rfl, h2, h3⟩ := h
  rw [List.getElem?_map] at hk
  cases hm : M[k]? with
  | none => rw [hm] at hk; cases hk
  | some m =>
    rw [hm] at hk
    obtain rfl : m.way = y := Option.some.inj hk
    obtain ⟨hlt, hmk⟩ := List.getElem?_eq_some_iff.1 hm
    obtain ⟨b, o, hA, hb, on⟩ := h2.at hlt
    rw [hmk] at on
    obtain ⟨c0, c1⟩ := way_on on
    exact ⟨b, o, m.A, m.c, hA, hb, c0, c1, h3 m (List.mem_of_getElem? hm)⟩
/-- Steps of the call's own. -/
def OwnS (base : Nat) (w : World) (A : Option Addr) (c : Nat) (L : List Wk.Stp) : Prop := w.ownsRow base 39 3 (.slice A L.length c) L.length (LStp.all L)
theorem OwnS.row {base : Nat} {w : World} {A : Option Addr} {c : Nat} {L : List Wk.Stp} (h : OwnS base w A c L) : LStp.Row w A L := by
  obtain ⟨-, B, d, hv, -, hR⟩ := Lies.Row.of_own (E := LStp) h
  cases hv
  exact hR
theorem OwnS.cap {base : Nat} {w : World} {A : Option Addr} {c : Nat} {L : List Wk.Stp} (h : OwnS base w A c L) : L.length ≤ c := by
  obtain ⟨-, B, d, hv, hc, -⟩ := Lies.Row.of_own (E := LStp) h
  cases hv
  exact hc
/-- Blocks of other types than these two stay as they were. -/
structure Tame (tH tW : TypeId) (w w' : World) : Prop where
  os : w'.os = w.os
  tape : w'.tape = w.tape
  output : w'.output = w.output
  size : w.heap.size ≤ w'.heap.size
  block : ∀ (b : Nat) (cs : Array Value) (t : TypeId) (fr : Nat × Nat), w.heap[b]? = some (Obj.cells cs t fr) → t ≠ tH → t ≠ tW → w'.heap[b]? = some (Obj.cells cs t fr)
theorem Tame.refl (tH tW : TypeId) (w : World) : Tame tH tW w w := ⟨rfl, rfl, rfl, Nat.le_refl _, fun _ _ _ _ h _ _ => h⟩
theorem Tame.trans {tH tW : TypeId} {a b c : World} (h : Tame tH tW a b) (h' : Tame tH tW b c) : Tame tH tW a c :=
  ⟨h'.os.trans h.os, h'.tape.trans h.tape, h'.output.trans h.output, Nat.le_trans h.size h'.size, fun k cs t fr hk h1 h2 => h'.block k cs t fr (h.block k cs t fr hk h1 h2) h1 h2⟩
theorem Below.tame {w w' : World} (h : Below w.heap.size w w') (tH tW : TypeId) : Tame tH tW w w' :=
  ⟨h.os, h.tape, h.output, h.size, fun b cs t fr hb _ _ => by rw [h.block b (Array.getElem?_eq_some_iff.1 hb).1]; exact hb⟩
theorem own_tame {tH tW : TypeId} {w w' : World} {base : Nat} {e : TypeId} {size : Nat} {v : Value} {n : Nat} {xs : List Value} (h : w.ownsRow base e size v n xs) (ht : Tame tH tW w w') (h1 : e ≠ tH) (h2 : e ≠ tW) : w'.ownsRow base e size v n xs := by
  refine ⟨h.1, ?_⟩
  rcases h.2 with hn | ⟨g, cap, cur, rfl, hb, hg, rest⟩
  · exact .inl hn
  · exact .inr ⟨g, cap, cur, rfl, hb, ht.block g cur e (0, 0) hg h1 h2, rest⟩
/-- Two rows of unlike types lie apart. -/
theorem own_types {w : World} {base base' : Nat} {e e' : TypeId} {size size' : Nat} {v v' : Value} {n n' : Nat} {xs xs' : List Value} (h : w.ownsRow base e size v n xs) (h' : w.ownsRow base' e' size' v' n' xs') (he : e ≠ e') (b : Nat) (hb : v.ownBlock = some b) : v'.ownBlock ≠ some b := fun hb' => by
  rcases h.2 with ⟨rfl, -⟩ | ⟨g, cap, cur, rfl, -, hg, -⟩
  · cases hb
  · rcases h'.2 with ⟨rfl, -⟩ | ⟨g', cap', cur', rfl, -, hg', -⟩
    · cases hb'
    · obtain rfl : g = b := Option.some.inj hb
      obtain rfl : g' = g := Option.some.inj hb'
      rw [hg] at hg'
      cases hg'
      exact he rfl
/-- A block of another type lies apart from a row. -/
theorem own_block {w : World} {base : Nat} {e t : TypeId} {size : Nat} {v : Value} {n : Nat} {xs : List Value} {g : Nat} {cs : Array Value} (h : w.ownsRow base e size v n xs) (hg : w.heap[g]? = some (.cells cs t (0, 0))) (he : e ≠ t) : v.ownBlock ≠ some g := fun hb => by
  rcases h.2 with ⟨rfl, -⟩ | ⟨g', cap, cur, rfl, -, hg', -⟩
  · cases hb
  · obtain rfl : g' = g := Option.some.inj hb
    rw [hg] at hg'
    cases hg'
    exact he rfl
end Go.Proofs.Ytbmmcmdopekccaa
/-
  The walk of the document's search of layer 7: it enters section by section.
-/
namespace Go.Proofs.Ytbmmcmdopekccaa
open Go.RowKit

/-- Steps of the call's own that it leaves. -/
def StepsOwn (L : List Wk.Stp) (w : World) (e : Ending) (w' : World) : Prop := ∃ A c, e = .returned (.slice A L.length c) ∧ OwnS w.heap.size w' A c L ∧ Below w.heap.size w w'
/-- A block of steps that was laid just now. -/
theorem own_fresh (w : World) (base : Nat) (L : List Wk.Stp) (hb : base ≤ w.heap.size) (hl : L.length ≤ 1000) : OwnS base (w.alloc (.cells (LStp.all L).toArray 39)) (some ⟨w.heap.size, 0, none⟩) L.length L := by
  refine ⟨LStp.all_len L, .inr ⟨w.heap.size, L.length, (LStp.all L).toArray, rfl, hb, heap_alloc_new _ _, Nat.le_refl _, by unfold maxLen; omega, ?_, ?_⟩⟩
  · rw [List.size_toArray]; exact LStp.all_len L
  · exact List.take_of_length_le (by rw [show L.length * 3 = (LStp.all L).length from (LStp.all_len L).symm]; exact Nat.le_refl _)
theorem own_one (w : World) (y : Wk.Stp) {g base : Nat} (hg : w.heap.size = g) (hb : base ≤ g := by simp) : OwnS base (w.alloc (.cells #[.int .i64 y.s, .int .i64 y.f, .int .i64 y.t] 39)) (some ⟨g, 0, none⟩) 1 [y] := hg ▸ own_fresh w base [y] (hg ▸ hb) (by simp)
theorem own_two (w : World) (y z : Wk.Stp) {g base : Nat} (hg : w.heap.size = g) (hb : base ≤ g := by simp) : OwnS base (w.alloc (.cells #[.int .i64 y.s, .int .i64 y.f, .int .i64 y.t, .int .i64 z.s, .int .i64 z.f, .int .i64 z.t] 39)) (some ⟨g, 0, none⟩) 2 [y, z] := hg ▸ own_fresh w base [y, z] (hg ▸ hb) (by simp)
set_option maxHeartbeats 8000000 in
set_option maxRecDepth 100000 in
theorem rwOuts_own (p : Pl.Plan) (A : Option Addr) (c : Nat) (A' : Option Addr) (c' : Nat) (s f : Int) (w : World) (h : PlanIn w p A A') :
    Calls Try.prog 64 #[planV p A c A' c', .int .i64 s, .int .i64 f] w (StepsOwn (Wk.outs p s f) w) := by
  have R0 := heap_alloc_new w (planO p A c A' c')
  have XX := (Below.refl w.heap.size w).alloc (Nat.le_refl _) (planO p A c A' c')
  have X0 := Lib.hid XX
  obtain ⟨⟨-, -, -, -, p4, -⟩, -, gp⟩ := row6 R0
  have HI := Lib.hid (h.below XX)
  clear R0 XX h
  rcases Wk.sec_ways p s with ⟨hs, hn⟩ | ⟨k, rfl, ⟨hk, hn⟩ | ⟨x, hx, hn⟩⟩
  · have D : decide (s < 0) = true := dec_t hs
    have E : Wk.outs p s f = [] := by unfold Wk.outs; rw [hn]
    rw [E]
    clear hs hn E
    go_enter Try.func64, Try.ntmps64
    go_wp2_with fail
    go_ret
    exact ⟨none, 0, rfl, World.ownsRow_nil _ _ _ _, X0.out⟩
  · have D0 : decide ((k : Int) < 0) = false := dec_f (by omega)
    have D1 : decide ((p.secs.length : Int) ≤ (k : Int)) = true := dec_t (by omega)
    have E : Wk.outs p k f = [] := by unfold Wk.outs; rw [hn]
    rw [E]
    clear hn E
    go_enter Try.func64, Try.ntmps64
    go_wp2_with fail
    go_ret
    exact ⟨none, 0, rfl, World.ownsRow_nil _ _ _ _, X0.out⟩
  · have hlt : k < p.secs.length := (List.getElem?_eq_some_iff.1 hx).1
    have D0 : decide ((k : Int) < 0) = false := dec_f (by omega)
    have D1 : decide ((p.secs.length : Int) ≤ (k : Int)) = false := dec_f (by omega)
    have N1 : ¬ p.secs.length ≤ k := by omega
    obtain ⟨b, o, rfl, hb, on⟩ := sec_cells HI.out.1 hx
    obtain ⟨-, a1, -⟩ := sec_on on
    have E : Wk.outs p k f = if x.pt then (if f = 0 then [⟨k, 0, 1⟩, ⟨k, 0, 2⟩] else if f = 1 ∨ f = 2 then [⟨k, f, 0⟩] else []) else if f = 0 ∨ f = 1 then [⟨k, f, 1 - f⟩] else [] := by unfold Wk.outs; rw [hn]
    rw [E]
    have X1 := Lib.hid (X0.out.alloc X0.out.size)
    clear hn on hx E
    cases hpt : x.pt
    · rw [hpt] at a1
      rw [if_neg (by decide)]
      clear hpt
      by_cases h0 : f = 0
      · subst h0
        rw [if_pos (.inl rfl)]
        go_enter Try.func64, Try.ntmps64
        go_wp2_with fail
        go_ret
        exact ⟨_, _, rfl, own_one (w.alloc (planO p (some ⟨b, o, none⟩) c A' c')) ⟨k, 0, 1⟩ (by simp), X1.out _⟩
      by_cases h1 : f = 1
      · subst h1
        rw [if_pos (.inr rfl)]
        clear h0
        go_enter Try.func64, Try.ntmps64
        go_wp2_with fail
        go_ret
        exact ⟨_, _, rfl, own_one (w.alloc (planO p (some ⟨b, o, none⟩) c A' c')) ⟨k, 1, 0⟩ (by simp), X1.out _⟩
      have d0 : (f == 0) = false := by rw [beq_eq_false_iff_ne]; exact h0
      have d1 : (f == 1) = false := by rw [beq_eq_false_iff_ne]; exact h1
      rw [if_neg (by omega)]
      clear h0 h1
      go_enter Try.func64, Try.ntmps64
      go_wp2_with fail
      go_ret
      exact ⟨none, 0, rfl, World.ownsRow_nil _ _ _ _, X0.out⟩
    · rw [hpt] at a1
      rw [if_pos rfl]
      clear hpt
      by_cases h0 : f = 0
      · subst h0
        rw [if_pos rfl]
        go_enter Try.func64, Try.ntmps64
        go_wp2_with fail
        go_ret
        exact ⟨_, _, rfl, own_two (w.alloc (planO p (some ⟨b, o, none⟩) c A' c')) ⟨k, 0, 1⟩ ⟨k, 0, 2⟩ (by simp), X1.out _⟩
      rw [if_neg h0]
      by_cases h1 : f = 1
      · subst h1
        rw [if_pos (.inl rfl)]
        clear h0
        go_enter Try.func64, Try.ntmps64
        go_wp2_with fail
        go_ret
        exact ⟨_, _, rfl, own_one (w.alloc (planO p (some ⟨b, o, none⟩) c A' c')) ⟨k, 1, 0⟩ (by simp), X1.out _⟩
      by_cases h2 : f = 2
      · subst h2
        rw [if_pos (.inr rfl)]
        clear h0 h1
        go_enter Try.func64, Try.ntmps64
        go_wp2_with fail
        go_ret
        exact ⟨_, _, rfl, own_one (w.alloc (planO p (some ⟨b, o, none⟩) c A' c')) ⟨k, 2, 0⟩ (by simp), X1.out _⟩
      have d0 : (f == 0) = false := by rw [beq_eq_false_iff_ne]; exact h0
      have d1 : (f == 1) = false := by rw [beq_eq_false_iff_ne]; exact h1
      have d2 : (f == 2) = false := by rw [beq_eq_false_iff_ne]; exact h2
      rw [if_neg (by omega)]
      clear h0 h1 h2
      go_enter Try.func64, Try.ntmps64
      go_wp2_with fail
      go_ret
      exact ⟨none, 0, rfl, World.ownsRow_nil _ _ _ _, X0.out⟩

/-- append, as one step of a region that draws: a row that is nil or lies somewhere, onto a slice of the call's own. -/
theorem step_append_rows {P : Program} {w : World} {ops : Array Oper} {o : Oper} {a : Act} {K : Act → World → Prop} {Q : Exit → Act → World → Prop} {E : Prop} (hgd : o.guard = none) (s x : Operand) (t : TypeId)
    (ho : o.op = .call { callee := .builtin .append, args := #[s, x], argTypes := #[t, t] })
    (base : Nat) (e : TypeId) (i : TypeInfo) (z : Value) (size bytes : Nat) (ht : P.underlying t = some (.slice e)) (hi : P.info? e = some i) (hz : i.zero = some z)
    (hsize : i.size = size) (hby : i.bytes = bytes) (hzs : z.cells.size = size) (hsz : 0 < size)
    (v : Value) (n : Nat) (xs : List Value) (hs : a.eval s = v) (hown : w.ownsRow base e size v n xs)
    (base2 : Nat) (u : Value) (m : Nat) (ys : List Value) (hx : a.eval x = u) (hou : w.ownsRow base2 e size u m ys) (hys : ∀ y ∈ ys, y.oneCell' = true) (hlen : n + m ≤ maxLen) (hbytes : (n + m) * bytes ≤ 140737488355328) (hbase : base ≤ w.heap.size) (hnil : m = 0 → u = .slice none 0 0)
    (h : ∀ v' w', w'.ownsRow base e size v' (n + m) (xs ++ ys) → w.grownBy w' v.ownBlock → K (a.put o.dst v') w') :
    if Region.wanted o (yielded ops a.tmps) = true then Oper.wp P o a w K Q else E := by
  have hl := hou.1
  rcases hou.2 with ⟨rfl, rfl⟩ | ⟨g, cap, cur, rfl, hb2, hg2, hcap, hmax, hcs, htk⟩
  · have h0 : ys = [] := List.eq_nil_of_length_eq_zero (by rw [hl, Nat.zero_mul])
    subst h0
    have hw : Region.wanted o (yielded ops a.tmps) = true := by simp [Region.wanted, hgd]
    rw [if_pos hw]
    have hrun := run_append_owned_none (P := P) (w := w) base t o.type e i size ht hi v n xs hown
    unfold Oper.wp
    simp [execOp, ho, resolve, invoke, builtin, hs, hx, hrun, Result.andThen]
    exact h v w (by rw [List.append_nil]; exact hown) (World.grownBy.refl w _)
  · rcases Nat.eq_zero_or_pos m with rfl | hm
    · cases hnil rfl
    · exact step_append_lies w hgd s x t ho base e i z size bytes ht hi hz hsize hby hzs hsz v n xs hs hown ⟨g, 0, none⟩ m cap ys hx hl (fun j y hj => hou.cells (g := g) rfl j y hj) hys hm hlen hbytes hbase _ rfl fun g' cap' w' h1 h2 _ _ => h _ w' h1 h2
end Go.Proofs.Ytbmmcmdopekccaa
/-
  append, as one step of a region that draws: a row that lies anywhere, or none, onto a slice of the call's own. No function of the program is named here.
-/
namespace Go.Proofs.Ytbmmcmdopekccaa
open Go.RowKit

theorem run_append_owned_zero {P : Program} {w : World} (base : Nat) (t ty e : TypeId) (i : TypeInfo) (size : Nat) (ht : P.underlying t = some (.slice e)) (hi : P.info? e = some i)
    (v : Value) (n : Nat) (xs : List Value) (hown : w.ownsRow base e size v n xs) (A : Option Addr) (c : Nat) :
    (Builtin.append_ #[t, t] ty #[v, .slice A 0 c]).run P w = .ok v w := by
  rcases hown.2 with ⟨rfl, rfl⟩ | ⟨g, cap, cur, rfl, _, _, hnc, _⟩
  · cases A <;> simp [Builtin.append_, run_underlying ht, Go.sizeOf, typeInfo, hi, Builtin.lenOf, Builtin.firstCells, loadCells, loadCellsFrom]
  · cases A <;> simp [Builtin.append_, run_underlying ht, Go.sizeOf, typeInfo, hi, Builtin.lenOf, Builtin.firstCells, hnc, storeCells, loadCells, loadCellsFrom]
theorem step_append_at {α : Type} (E : Lies α) {P : Program} {w : World} {ops : Array Oper} {o : Oper} {a : Act} {K : Act → World → Prop} {Q : Exit → Act → World → Prop} {Z : Prop} (hgd : o.guard = none) (s x : Operand) (t : TypeId)
    (ho : o.op = .call { callee := .builtin .append, args := #[s, x], argTypes := #[t, t] })
    (base : Nat) (e : TypeId) (i : TypeInfo) (z : Value) (bytes : Nat) (ht : P.underlying t = some (.slice e)) (hi : P.info? e = some i) (hz : i.zero = some z)
    (hsize : i.size = E.m) (hby : i.bytes = bytes) (hzs : z.cells.size = E.m)
    (v : Value) (n : Nat) (xs : List Value) (hs : a.eval s = v) (hown : w.ownsRow base e E.m v n xs)
    (A : Option Addr) (m c : Nat) (L : List α) (hx : a.eval x = .slice A m c) (hL : L.length = m) (hI : E.Row w A L) (hn : n + m ≤ maxLen) (hbytes : (n + m) * bytes ≤ 140737488355328) (hbase : base ≤ w.heap.size)
    (h : ∀ v' w', w'.ownsRow base e E.m v' (n + m) (xs ++ E.all L) → w.grownBy w' v.ownBlock → K (a.put o.dst v') w') :
    if Region.wanted o (yielded ops a.tmps) = true then Oper.wp P o a w K Q else Z := by
  subst hL
  rcases Nat.eq_zero_or_pos L.length with h0 | h0
  · have hw : Region.wanted o (yielded ops a.tmps) = true := by simp [Region.wanted, hgd]
    rw [if_pos hw]
    obtain rfl : L = [] := List.eq_nil_of_length_eq_zero h0
    have hrun := run_append_owned_zero (P := P) (w := w) base t o.type e i E.m ht hi v n xs hown A c
    unfold Oper.wp
    simp [execOp, ho, resolve, invoke, builtin, hs, hx, hrun, Result.andThen]
    exact h v w (by rw [show E.all [] = [] from rfl, List.append_nil]; exact hown) (World.grownBy.refl w _)
  · rcases hI with hI | ⟨b, off, rfl, _, hI⟩
    · subst hI; simp at h0
    · exact step_append_lies w hgd s x t ho base e i z E.m bytes ht hi hz hsize hby hzs E.pos v n xs hs hown ⟨b, off, none⟩ L.length c (E.all L) hx (E.all_len L) (Lies.news hI) (E.all_single L) h0 hn hbytes hbase _ rfl fun g' cap' w' h1 h2 _ _ => h _ w' h1 h2
/-- append, at a plain region's list: a row that lies anywhere, or none, onto a slice of the call's own. -/
theorem wpList_append_at {α : Type} (E : Lies α) {P : Program} {w : World} {ops : Array Oper} {rest : List Oper} {o : Oper} {a : Act} {Q : Exit → Act → World → Prop} (hw : Region.wanted o (yielded ops a.tmps) = true) (s x : Operand) (t : TypeId)
    (ho : o.op = .call { callee := .builtin .append, args := #[s, x], argTypes := #[t, t] })
    (base : Nat) (e : TypeId) (i : TypeInfo) (z : Value) (bytes : Nat) (ht : P.underlying t = some (.slice e)) (hi : P.info? e = some i) (hz : i.zero = some z)
    (hsize : i.size = E.m) (hby : i.bytes = bytes) (hzs : z.cells.size = E.m)
    (v : Value) (n : Nat) (xs : List Value) (hs : a.eval s = v) (hown : w.ownsRow base e E.m v n xs)
    (A : Option Addr) (m c : Nat) (L : List α) (hx : a.eval x = .slice A m c) (hL : L.length = m) (hI : E.Row w A L) (hn2 : n + m ≤ 1000000000) (hbytes : (n + m) * bytes ≤ 140737488355328) (hbase : base ≤ w.heap.size)
    (h : ∀ v' w', w'.ownsRow base e E.m v' (n + m) (xs ++ E.all L) → w.grownBy w' v.ownBlock → wpList P ops Q rest (a.put o.dst v') w') : wpList P ops Q (o :: rest) a w := by
  subst hL
  rcases Nat.eq_zero_or_pos L.length with h0 | h0
  · obtain rfl : L = [] := List.eq_nil_of_length_eq_zero h0
    have hrun := run_append_owned_zero (P := P) (w := w) base t o.type e i E.m ht hi v n xs hown A c
    refine BigFrame.wpList_want hw fun _ hK => ?_
    unfold Oper.wp
    simp [execOp, ho, resolve, invoke, builtin, hs, hx, hrun, Result.andThen]
    exact hK _ _ (h v w (by rw [show E.all [] = [] from rfl, List.append_nil]; exact hown) (World.grownBy.refl w _))
  · exact wpList_append_row E w hw s x t ho base e i z bytes ht hi hz hsize hby hzs v n xs hs hown A c L.length L rfl h0 hx hI hn2 hbytes hbase fun g' cap' w' h1 h2 _ => h _ w' h1 h2
end Go.Proofs.Ytbmmcmdopekccaa
/-
  Numbers in memory. No function of the program is named here.
-/
namespace Go.Proofs.Ytbmmcmdopekccaa
open Go.RowKit

/-- Numbers in memory. -/
def LNum : Lies Int := ⟨1, by decide, fun x => [.int .i64 x], fun _ => rfl, fun y u hu => by
  simp at hu
  subst hu; rfl⟩
theorem num_on {w : World} {b o : Nat} {x : Int} (h : LNum.On w b o x) : w.cell? ⟨b, o, none⟩ = some (.int .i64 x) := h 0 _ rfl
def ints (l : List Nat) : List Int := l.map fun (s : Nat) => (s : Int)
theorem ints_len (l : List Nat) : (ints l).length = l.length := List.length_map ..
theorem ints_snoc (l : List Nat) (s : Nat) : ints (l ++ [s]) = ints l ++ [(s : Int)] := by unfold ints; rw [List.map_append]; rfl
theorem infoNum : (Try.prog.info? 3).map (fun i => (i.zero, i.size, i.bytes)) = some (some (.int .i64 0), 1, 8) := by kernel_rfl
/-- Numbers that a call leaves: those of before, or in memory of its own. -/
def NumsOr (A : Option Addr) (L0 L : List Int) (w : World) (e : Ending) (w' : World) : Prop := ∃ B d, e = .returned (.slice B L.length d) ∧ LNum.Row w' B L ∧ L.length ≤ d ∧ Below w.heap.size w w' ∧ ((B = A ∧ L = L0) ∨ ∀ a, B = some a → w.heap.size ≤ a.block)
end Go.Proofs.Ytbmmcmdopekccaa
/-
  Demands in memory. No function of the program is named here.
-/
namespace Go.Proofs.Ytbmmcmdopekccaa
open Go.RowKit

def LDem : Lies Dm.Dem := ⟨2, by decide, fun x => [.int .i64 x.pt, .int .i64 x.pos], fun _ => rfl, fun y u hu => by
  simp at hu
  rcases hu with rfl | rfl <;> rfl⟩
theorem dem_on {w : World} {b o : Nat} {x : Dm.Dem} (h : LDem.On w b o x) : w.cell? ⟨b, o, none⟩ = some (.int .i64 x.pt) ∧ w.cell? ⟨b, o + 1, none⟩ = some (.int .i64 x.pos) :=
  ⟨h 0 _ rfl, h 1 _ rfl⟩
abbrev demV (x : Dm.Dem) : Value := .agg #[.int .i64 x.pt, .int .i64 x.pos]
abbrev demO (x : Dm.Dem) : Obj := .cells #[.int .i64 x.pt, .int .i64 x.pos] 58
def OwnDm (base : Nat) (w : World) (A : Option Addr) (c : Nat) (L : List Dm.Dem) : Prop := w.ownsRow base 58 2 (.slice A L.length c) L.length (LDem.all L)
theorem OwnDm.row {base : Nat} {w : World} {A : Option Addr} {c : Nat} {L : List Dm.Dem} (h : OwnDm base w A c L) : LDem.Row w A L := by
  obtain ⟨-, B, d, hv, -, hR⟩ := Lies.Row.of_own (E := LDem) h
  cases hv
  exact hR
theorem owndm_fresh (w : World) (base : Nat) (L : List Dm.Dem) (hb : base ≤ w.heap.size) (hl : L.length ≤ 1000) : OwnDm base (w.alloc (.cells (LDem.all L).toArray 58)) (some ⟨w.heap.size, 0, none⟩) L.length L := by
  refine ⟨LDem.all_len L, .inr ⟨w.heap.size, L.length, (LDem.all L).toArray, rfl, hb, heap_alloc_new _ _, Nat.le_refl _, by unfold maxLen; omega, ?_, ?_⟩⟩
  · rw [List.size_toArray]; exact LDem.all_len L
  · show List.take _ (LDem.all L) = _
    exact List.take_of_length_le (Nat.le_of_eq (LDem.all_len L))
theorem owndm_one (w : World) (y : Dm.Dem) {g base : Nat} (hg : w.heap.size = g) (hb : base ≤ g := by simp) : OwnDm base (w.alloc (demO y)) (some ⟨g, 0, none⟩) 1 [y] := hg ▸ owndm_fresh w base [y] (hg ▸ hb) (by simp)
theorem owndm_empty (w : World) {g base : Nat} (hg : w.heap.size = g) (hb : base ≤ g := by simp) : (w.alloc (.cells #[] 58)).ownsRow base 58 2 (.slice (some ⟨g, 0, none⟩) 0 0) 0 [] := by
  subst hg
  exact ⟨rfl, .inr ⟨w.heap.size, 0, #[], rfl, hb, heap_alloc_new _ _, Nat.le_refl _, by unfold maxLen; omega, rfl, rfl⟩⟩
/-- Demands that a call leaves. -/
def DemsYes (L : List Dm.Dem) (w : World) (e : Ending) (w' : World) : Prop := ∃ B d, e = .returned (.slice B L.length d) ∧ LDem.Row w' B L ∧ L.length ≤ d ∧ Below w.heap.size w w'
theorem DemsYes.of_own {L : List Dm.Dem} {w w' : World} {base n : Nat} {v : Value} (h : w'.ownsRow base 58 LDem.m v n (LDem.all L)) (hn : n = L.length) (hb : Below w.heap.size w w') : DemsYes L w (.returned v) w' := by
  subst hn
  obtain ⟨-, B, d, rfl, hc, hR⟩ := Lies.Row.of_own (E := LDem) h
  exact ⟨B, d, rfl, hR, hc, hb⟩
theorem infoDem : (Try.prog.info? 58).map (fun i => (i.zero, i.size, i.bytes)) = some (some (.agg #[.int .i64 0, .int .i64 0]), 2, 16) := by kernel_rfl
namespace Lies
variable {α : Type} (E : Lies α)
/-- The first of a row's elements. -/
theorem Row.take {w : World} {A : Option Addr} {L : List α} (h : E.Row w A L) (k : Nat) : E.Row w A (L.take k) := by
  rcases h with rfl | ⟨b, o, hA, hb, h⟩
  · exact .inl List.take_nil
  · refine .inr ⟨b, o, hA, hb, fun j y hj => h j y ?_⟩
    rw [List.getElem?_take] at hj
    split at hj
    · exact hj
    · cases hj
/-- The others. -/
theorem Row.drop {w : World} {b o : Nat} {L : List α} (h : E.Row w (some ⟨b, o, none⟩) L) (k : Nat) : E.Row w (some ⟨b, o + k * E.m, none⟩) (L.drop k) := by
  rcases h with rfl | ⟨b', o', hA, hb, h⟩
  · exact .inl List.drop_nil
  · cases hA
    refine .inr ⟨b, o + k * E.m, rfl, hb, fun j y hj => ?_⟩
    rw [List.getElem?_drop] at hj
    have := h (k + j) y hj
    rwa [Nat.add_mul, ← Nat.add_assoc] at this
end Lies
end Go.Proofs.Ytbmmcmdopekccaa
