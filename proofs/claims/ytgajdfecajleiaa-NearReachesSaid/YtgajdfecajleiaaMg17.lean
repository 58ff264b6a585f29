/-
  Texts of this claim, merged: CrMem, CrRef, NumMem, LpSpec, LpFacts.
-/
import Derived.Test.YtgajdfecajleiaaMg07
import Derived.Test.YtgajdfecajleiaaMg13
import Derived.Test.YtgajdfecajleiaaMg14
import Derived.Test.YtgajdfecajleiaaMg15
import Derived.Test.YtgajdfecajleiaaMg16
import Derived.BigQuiet
import Derived.Deep.AppendLies
import Derived.Deep.CutRange
import Derived.Deep.RegionLaw
import Derived.Laws.OwnMore
/-
  Ways in memory: rows whose elements' steps lie elsewhere; a frame by the blocks' types. No function of the program is named here.
-/
namespace Go.Proofs.Ytgajdfecajleiaa
open Go.RowKit

/-- A way in memory: where its steps lie. -/
structure WayM where
  A : Option Addr
  c : Nat
  way : Cr.Way
def LWay : Lies WayM := ⟨2, by decide, fun m => [.slice m.A m.way.steps.length m.c, .int .i64 m.way.exit], fun _ => rfl, fun y u hu => by
  simp at hu
  rcases hu with rfl | rfl <;> rfl⟩
theorem way_on {w : World} {b o : Nat} {m : WayM} (h : LWay.On w b o m) : w.cell? ⟨b, o, none⟩ = some (.slice m.A m.way.steps.length m.c) ∧ w.cell? ⟨b, o + 1, none⟩ = some (.int .i64 m.way.exit) :=
  ⟨h 0 _ rfl, h 1 _ rfl⟩
/-- Ways lie there. -/
def WaysIn (w : World) (A : Option Addr) (L : List Cr.Way) : Prop := ∃ M : List WayM, M.map WayM.way = L ∧ LWay.Row w A M ∧ ∀ m ∈ M, LStp.Row w m.A m.way.steps ∧ m.way.steps.length ≤ m.c
theorem WaysIn.nil (w : World) (A : Option Addr) : WaysIn w A [] := ⟨[], rfl, .inl rfl, fun _ h => (by cases h)⟩
theorem WaysIn.below {w w' : World} {A : Option Addr} {L : List Cr.Way} (h : WaysIn w A L) (hb : Below w.heap.size w w') : WaysIn w' A L := by
  obtain ⟨M, h1, h2, h3⟩ := h
  exact ⟨M, h1, h2.below rfl hb, fun m hm => ⟨(h3 m hm).1.below rfl hb, (h3 m hm).2⟩⟩
/-- A way of those. -/
theorem WaysIn.at {w : World} {A : Option Addr} {L : List Cr.Way} (h : WaysIn w A L) {k : Nat} {y : Cr.Way} (hk : L[k]? = some y) : ∃ b o S d, A = some ⟨b, o, none⟩ ∧ b < w.heap.size ∧ w.cell? ⟨b, o + k * 2, none⟩ = some (.slice S y.steps.length d) ∧ w.cell? ⟨b, o + k * 2 + 1, none⟩ = some (.int .i64 y.exit) ∧ LStp.Row w S y.steps ∧ y.steps.length ≤ d := by
  obtain ⟨M, rfl, h2, h3⟩ := h
  rw [List.getElem?_map] at hk
  cases hm : M[k]? with
  | none => rw [hm] at hk; cases hk
  | some m =>
    rw [hm] at hk
    obtain rfl : m.way = y := Option.some.inj hk
    obtain ⟨hlt, hmk⟩ := List.getElem?_eq_some_iff.1 hm
    obtain ⟨b, o, hA, hb, on⟩ := h2.at hlt
    rw [hmk] at on
    obtain ⟨c0, c1⟩ := way_on on
    exact ⟨b, o, m.A, m.c, hA, hb, c0, c1, h3 m (List.mem_of_getElem? hm)⟩
/-- Steps of the call's own. -/
def OwnS (base : Nat) (w : World) (A : Option Addr) (c : Nat) (L : List Wk.Stp) : Prop := w.ownsRow base 51 3 (.slice A L.length c) L.length (LStp.all L)
theorem OwnS.row {base : Nat} {w : World} {A : Option Addr} {c : Nat} {L : List Wk.Stp} (h : OwnS base w A c L) : LStp.Row w A L := by
  obtain ⟨-, B, d, hv, -, hR⟩ := Lies.Row.of_own (E := LStp) h
  cases hv
  exact hR
theorem OwnS.cap {base : Nat} {w : World} {A : Option Addr} {c : Nat} {L : List Wk.Stp} (h : OwnS base w A c L) : L.length ≤ c := by
  obtain ⟨-, B, d, hv, hc, -⟩ := Lies.Row.of_own (E := LStp) h
  cases hv
  exact hc
/-- Blocks of other types than these two stay as they were. -/
structure Tame (tH tW : TypeId) (w w' : World) : Prop where
  os : w'.os = w.os
  tape : w'.tape = w.tape
  output : w'.output = w.output
  size : w.heap.size ≤ w'.heap.size
  block : ∀ (b : Nat) (cs : Array Value) (t : TypeId) (fr : Nat × Nat), w.heap[b]? = some (Obj.cells cs t fr) → t ≠ tH → t ≠ tW → w'.heap[b]? = some (Obj.cells cs t fr)
theorem Tame.refl (tH tW : TypeId) (w : World) : Tame tH tW w w := ⟨rfl, rfl, rfl, Nat.le_refl _, fun _ _ _ _ h _ _ => h⟩
theorem Tame.trans {tH tW : TypeId} {a b c : World} (h : Tame tH tW a b) (h' : Tame tH tW b c) : Tame tH tW a c :=
  ⟨h'.os.trans h.os, h'.tape.trans h.tape, h'.output.trans h.output, Nat.le_trans h.size h'.size, fun k cs t fr hk h1 h2 => h'.block k cs t fr (h.block k cs t fr hk h1 h2) h1 h2⟩
end Go.Proofs.Ytgajdfecajleiaa
/-
  The walk of the document's search of layer 7: it enters section by section.
-/
namespace Go.Proofs.Ytgajdfecajleiaa
open Go.RowKit

/-- Steps of the call's own that it leaves. -/
def StepsOwn (L : List Wk.Stp) (w : World) (e : Ending) (w' : World) : Prop := ∃ A c, e = .returned (.slice A L.length c) ∧ OwnS w.heap.size w' A c L ∧ Below w.heap.size w w'
/-- A block of steps that was laid just now. -/
theorem own_fresh (w : World) (base : Nat) (L : List Wk.Stp) (hb : base ≤ w.heap.size) (hl : L.length ≤ 1000) : OwnS base (w.alloc (.cells (LStp.all L).toArray 51)) (some ⟨w.heap.size, 0, none⟩) L.length L := by
  refine ⟨LStp.all_len L, .inr ⟨w.heap.size, L.length, (LStp.all L).toArray, rfl, hb, heap_alloc_new _ _, Nat.le_refl _, by unfold maxLen; omega, ?_, ?_⟩⟩
  · rw [List.size_toArray]; exact LStp.all_len L
  · exact List.take_of_length_le (by rw [show L.length * 3 = (LStp.all L).length from (LStp.all_len L).symm]; exact Nat.le_refl _)
theorem own_one (w : World) (y : Wk.Stp) {g base : Nat} (hg : w.heap.size = g) (hb : base ≤ g := by simp) : OwnS base (w.alloc (.cells #[.int .i64 y.s, .int .i64 y.f, .int .i64 y.t] 51)) (some ⟨g, 0, none⟩) 1 [y] := hg ▸ own_fresh w base [y] (hg ▸ hb) (by simp)
theorem own_two (w : World) (y z : Wk.Stp) {g base : Nat} (hg : w.heap.size = g) (hb : base ≤ g := by simp) : OwnS base (w.alloc (.cells #[.int .i64 y.s, .int .i64 y.f, .int .i64 y.t, .int .i64 z.s, .int .i64 z.f, .int .i64 z.t] 51)) (some ⟨g, 0, none⟩) 2 [y, z] := hg ▸ own_fresh w base [y, z] (hg ▸ hb) (by simp)
set_option maxHeartbeats 8000000 in
set_option maxRecDepth 100000 in
theorem rwOuts_own (p : Pl.Plan) (A : Option Addr) (c : Nat) (A' : Option Addr) (c' : Nat) (s f : Int) (w : World) (h : PlanIn w p A A') :
    Calls Try.prog 13 #[planV p A c A' c', .int .i64 s, .int .i64 f] w (StepsOwn (Wk.outs p s f) w) := by
  have R0 := heap_alloc_new w (planO p A c A' c')
  have XX := (Below.refl w.heap.size w).alloc (Nat.le_refl _) (planO p A c A' c')
  have X0 := Lib.hid XX
  obtain ⟨⟨-, -, -, -, p4, -⟩, -, gp⟩ := row6 R0
  have HI := Lib.hid (h.below XX)
  clear R0 XX h
  rcases Wk.sec_ways p s with ⟨hs, hn⟩ | ⟨k, rfl, ⟨hk, hn⟩ | ⟨x, hx, hn⟩⟩
  · have D : decide (s < 0) = true := dec_t hs
    have E : Wk.outs p s f = [] := by unfold Wk.outs; rw [hn]
    rw [E]
    clear hs hn E
    go_enter Try.func13, Try.ntmps13
    go_wp2_with fail
    go_ret
    exact ⟨none, 0, rfl, World.ownsRow_nil _ _ _ _, X0.out⟩
  · have D0 : decide ((k : Int) < 0) = false := dec_f (by omega)
    have D1 : decide ((p.secs.length : Int) ≤ (k : Int)) = true := dec_t (by omega)
    have E : Wk.outs p k f = [] := by unfold Wk.outs; rw [hn]
    rw [E]
    clear hn E
    go_enter Try.func13, Try.ntmps13
    go_wp2_with fail
    go_ret
    exact ⟨none, 0, rfl, World.ownsRow_nil _ _ _ _, X0.out⟩
  · have hlt : k < p.secs.length := (List.getElem?_eq_some_iff.1 hx).1
    have D0 : decide ((k : Int) < 0) = false := dec_f (by omega)
    have D1 : decide ((p.secs.length : Int) ≤ (k : Int)) = false := dec_f (by omega)
    have N1 : ¬ p.secs.length ≤ k := by omega
    obtain ⟨b, o, rfl, hb, on⟩ := sec_cells HI.out.1 hx
    obtain ⟨-, a1, -⟩ := sec_on on
    have E : Wk.outs p k f = if x.pt then (if f = 0 then [⟨k, 0, 1⟩, ⟨k, 0, 2⟩] else if f = 1 ∨ f = 2 then [⟨k, f, 0⟩] else []) else if f = 0 ∨ f = 1 then [⟨k, f, 1 - f⟩] else [] := by unfold Wk.outs; rw [hn]
    rw [E]
    have X1 := Lib.hid (X0.out.alloc X0.out.size)
    clear hn on hx E
    cases hpt : x.pt
    · rw [hpt] at a1
      rw [if_neg (by decide)]
      clear hpt
      by_cases h0 : f = 0
      · subst h0
        rw [if_pos (.inl rfl)]
        go_enter Try.func13, Try.ntmps13
        go_wp2_with fail
        go_ret
        exact ⟨_, _, rfl, own_one (w.alloc (planO p (some ⟨b, o, none⟩) c A' c')) ⟨k, 0, 1⟩ (by simp), X1.out _⟩
      by_cases h1 : f = 1
      · subst h1
        rw [if_pos (.inr rfl)]
        clear h0
        go_enter Try.func13, Try.ntmps13
        go_wp2_with fail
        go_ret
        exact ⟨_, _, rfl, own_one (w.alloc (planO p (some ⟨b, o, none⟩) c A' c')) ⟨k, 1, 0⟩ (by simp), X1.out _⟩
      have d0 : (f == 0) = false := by rw [beq_eq_false_iff_ne]; exact h0
      have d1 : (f == 1) = false := by rw [beq_eq_false_iff_ne]; exact h1
      rw [if_neg (by omega)]
      clear h0 h1
      go_enter Try.func13, Try.ntmps13
      go_wp2_with fail
      go_ret
      exact ⟨none, 0, rfl, World.ownsRow_nil _ _ _ _, X0.out⟩
    · rw [hpt] at a1
      rw [if_pos rfl]
      clear hpt
      by_cases h0 : f = 0
      · subst h0
        rw [if_pos rfl]
        go_enter Try.func13, Try.ntmps13
        go_wp2_with fail
        go_ret
        exact ⟨_, _, rfl, own_two (w.alloc (planO p (some ⟨b, o, none⟩) c A' c')) ⟨k, 0, 1⟩ ⟨k, 0, 2⟩ (by simp), X1.out _⟩
      rw [if_neg h0]
      by_cases h1 : f = 1
      · subst h1
        rw [if_pos (.inl rfl)]
        clear h0
        go_enter Try.func13, Try.ntmps13
        go_wp2_with fail
        go_ret
        exact ⟨_, _, rfl, own_one (w.alloc (planO p (some ⟨b, o, none⟩) c A' c')) ⟨k, 1, 0⟩ (by simp), X1.out _⟩
      by_cases h2 : f = 2
      · subst h2
        rw [if_pos (.inr rfl)]
        clear h0 h1
        go_enter Try.func13, Try.ntmps13
        go_wp2_with fail
        go_ret
        exact ⟨_, _, rfl, own_one (w.alloc (planO p (some ⟨b, o, none⟩) c A' c')) ⟨k, 2, 0⟩ (by simp), X1.out _⟩
      have d0 : (f == 0) = false := by rw [beq_eq_false_iff_ne]; exact h0
      have d1 : (f == 1) = false := by rw [beq_eq_false_iff_ne]; exact h1
      have d2 : (f == 2) = false := by rw [beq_eq_false_iff_ne]; exact h2
      rw [if_neg (by omega)]
      clear h0 h1 h2
      go_enter Try.func13, Try.ntmps13
      go_wp2_with fail
      go_ret
      exact ⟨none, 0, rfl, World.ownsRow_nil _ _ _ _, X0.out⟩

end Go.Proofs.Ytgajdfecajleiaa
/-
  Numbers in memory. No function of the program is named here.
-/
namespace Go.Proofs.Ytgajdfecajleiaa
open Go.RowKit

/-- Numbers in memory. -/
def LNum : Lies Int := ⟨1, by decide, fun x => [.int .i64 x], fun _ => rfl, fun y u hu => by
  simp at hu
  subst hu; rfl⟩
theorem num_on {w : World} {b o : Nat} {x : Int} (h : LNum.On w b o x) : w.cell? ⟨b, o, none⟩ = some (.int .i64 x) := h 0 _ rfl
def ints (l : List Nat) : List Int := l.map fun (s : Nat) => (s : Int)
theorem ints_len (l : List Nat) : (ints l).length = l.length := List.length_map ..
theorem ints_snoc (l : List Nat) (s : Nat) : ints (l ++ [s]) = ints l ++ [(s : Int)] := by unfold ints; rw [List.map_append]; rfl
theorem infoNum : (Try.prog.info? 3).map (fun i => (i.zero, i.size, i.bytes)) = some (some (.int .i64 0), 1, 8) := by kernel_rfl
end Go.Proofs.Ytgajdfecajleiaa
/-
  Plain mathematics of layer 8: the overlap behind a way's exit, as a search finds it. No program is named here.
-/
namespace Go.Proofs.Ytgajdfecajleiaa.Lp
open Go Pl Wk

/-- How long a section is; one that there isn't counts nought. -/
def secLen (p : Plan) (s : Int) : Int := match secAt p s with | none => 0 | some x => x.len
/-- How long steps' sections are, together. -/
def len (p : Plan) : List Stp → Int
  | [] => 0
  | x :: l => secLen p x.s + len p l
/-- May a search not enter that section? -/
def bars (b : Int) (way st : List Stp) (s : Int) : Bool := decide (s = b) || (within way s || within st s)
/-- Does an overlap end with that step? -/
def lasts (p : Plan) (sum s : Int) (x : Stp) : Bool := !(next p s x.t).2.2 || decide (p.ov ≤ sum)
def seek (p : Plan) (go : Int → Int → List Stp → Nat → Option (List Stp) × Nat) (s sum : Int) (st : List Stp) : List Stp → Nat → Option (List Stp) × Nat
  | [], n => (none, n)
  | x :: l, n => if lasts p sum s x then (some (st ++ [x]), n) else
      match go (next p s x.t).1 (next p s x.t).2.1 (st ++ [x]) n with
      | (some r, m) => (some r, m)
      | (none, m) => seek p go s sum st l m
/-- What a search finds by entering a section, and how many it has entered then. -/
def enter (p : Plan) (b : Int) (way : List Stp) : Nat → Int → Int → List Stp → Int → Nat → Option (List Stp) × Nat
  | 0, _, _, _, _, n => (none, n + 1)
  | k + 1, s, f, st, sum, n => if decide (400 < n + 1) || bars b way st s then (none, n + 1) else
      seek p (fun s' f' st' n' => enter p b way k s' f' st' (sum + secLen p s) n') s (sum + secLen p s) st (outs p s f) (n + 1)
def hunt (p : Plan) (b : Int) (way : List Stp) (x : Sig) : Option (List Stp) × Nat := enter p b way 16 (next p x.sec x.en).1 (next p x.sec x.en).2.1 [] 0 0
def ofSig (p : Plan) (b : Int) (way : List Stp) (x : Sig) : List Stp × Int :=
  if (next p x.sec x.en).2.2 then (if 400 < (hunt p b way x).2 then ([], 10) else ((hunt p b way x).1.getD [], 0)) else ([], 0)
/-- The overlap of a way from a signal, or the error. -/
def of (p : Plan) (i : Int) (w : Cr.Way) : List Stp × Int :=
  match Cr.sigAt p i with
  | none => ([], 4)
  | some g => if (p.sigs.length : Int) ≤ w.exit then ([], 4) else if w.exit < 0 ∨ p.ov = 0 then ([], 0) else
      match Cr.sigAt p w.exit with
      | none => ([], 4)
      | some x => ofSig p g.sec w.steps x

/-! ### What a search finds -/
/-- From a section entered at an end, behind some steps, these steps go on, and end as an overlap does. -/
def Chain (p : Plan) (b : Int) (way : List Stp) : Int → Int → List Stp → Int → List Stp → Prop
  | _, _, _, _, [] => False
  | s, f, st, sum, x :: t => (s ≠ b ∧ within way s = false ∧ within st s = false ∧ x ∈ outs p s f) ∧
      ((lasts p (sum + secLen p s) s x = true ∧ t = []) ∨ (lasts p (sum + secLen p s) s x = false ∧ Chain p b way (next p s x.t).1 (next p s x.t).2.1 (st ++ [x]) (sum + secLen p s) t))
/-! ### How many sections it enters -/
theorem seek_le {p : Plan} {go : Int → Int → List Stp → Nat → Option (List Stp) × Nat} {s sum : Int} {st : List Stp} {B : Nat} (hg : ∀ s f st n, n ≤ (go s f st n).2 ∧ (go s f st n).2 ≤ n + B) :
    ∀ (l : List Stp) (n : Nat), n ≤ (seek p go s sum st l n).2 ∧ (seek p go s sum st l n).2 ≤ n + l.length * B
  | [], n => by unfold seek; exact ⟨Nat.le_refl _, Nat.le_add_right _ _⟩
  | x :: l, n => by
    unfold seek
    rw [List.length_cons, Nat.succ_mul]
    cases hl : lasts p sum s x with
    | true =>
      rw [if_pos rfl]
      exact ⟨Nat.le_refl _, Nat.le_add_right _ _⟩
    | false =>
      rw [if_neg (by decide)]
      have h1 := hg (next p s x.t).1 (next p s x.t).2.1 (st ++ [x]) n
      split
      · rename_i r m hq
        rw [hq] at h1
        exact ⟨h1.1, by simp only at h1 ⊢; omega⟩
      · rename_i m hq
        rw [hq] at h1
        have h2 := seek_le (p := p) (s := s) (sum := sum) (st := st) hg l m
        simp only at h1
        omega
theorem enter_le (p : Plan) (b : Int) (way : List Stp) : ∀ (k : Nat) (s f : Int) (st : List Stp) (sum : Int) (n : Nat), n < (enter p b way k s f st sum n).2 ∧ (enter p b way k s f st sum n).2 ≤ n + (2 ^ (k + 1) - 1)
  | 0, s, f, st, sum, n => by unfold enter; exact ⟨Nat.lt_succ_self _, by simp⟩
  | k + 1, s, f, st, sum, n => by
    have hp : 1 ≤ 2 ^ k := Nat.one_le_two_pow
    have e1 : 2 ^ (k + 1) = 2 * 2 ^ k := by rw [Nat.pow_succ, Nat.mul_comm]
    have e2 : 2 ^ (k + 1 + 1) = 2 * 2 ^ (k + 1) := by rw [Nat.pow_succ, Nat.mul_comm]
    unfold enter
    split
    · exact ⟨Nat.lt_succ_self _, by simp only; omega⟩
    · have h := seek_le (p := p) (go := fun s' f' st' n' => enter p b way k s' f' st' (sum + secLen p s) n') (s := s) (sum := sum + secLen p s) (st := st) (B := 2 ^ (k + 1) - 1) (fun s' f' st' n' => ⟨Nat.le_of_lt (enter_le p b way k s' f' st' _ n').1, (enter_le p b way k s' f' st' _ n').2⟩) (outs p s f) (n + 1)
      have q1 : (outs p s f).length * (2 ^ (k + 1) - 1) ≤ 2 * (2 ^ (k + 1) - 1) := Nat.mul_le_mul_right _ (outs_len p s f)
      omega
/-! ### With a lesser length asked for -/
end Go.Proofs.Ytgajdfecajleiaa.Lp
/-
  Plain mathematics of layer 8: how great a station's numbers are, where ends lead, an overlap step by step, how long it is, with a lesser length asked for, with more than there is. No program is named here.
-/
namespace Go.Proofs.Ytgajdfecajleiaa.Lp
open Go Pl Wk

/-! ### A station's numbers -/
structure Meas (p : Plan) : Prop where
  ov : 0 ≤ p.ov ∧ p.ov ≤ 1125899906842624
  len : ∀ (i : Nat) (s : Sec), p.secs[i]? = some s → 0 ≤ s.len ∧ s.len ≤ 1099511627776
  sig : ∀ (i : Nat) (s : Sec), p.secs[i]? = some s → ∀ e, e < 3 → -1 ≤ (s.get e).sig ∧ (s.get e).sig < p.sigs.length
theorem parseN_le {d : List UInt8} {m : Int} (h : Fig.parseB d m = true) : Fig.parseN d m ≤ m := by
  unfold Fig.parseN
  rw [if_pos h]
  unfold Fig.parseB at h
  rw [Bool.and_eq_true] at h
  exact of_decide_eq_true h.2
theorem most_le (k : Int) : It.most k ≤ 1099511627776 := by
  unfold It.most
  split
  · exact Int.le_refl _
  · split
    · exact Int.le_refl _
    · split
      · decide
      · split
        · decide
        · exact Int.le_refl _
theorem parse_le {l : List UInt8} {x : It.Itm} (h : It.parse l = some x) : x.n ≤ 1099511627776 := by
  unfold It.parse at h
  split at h
  · cases hw : Ln.words l with
    | nil => rw [hw] at h; cases h
    | cons a t =>
      rw [hw] at h
      unfold It.parseW at h
      simp only at h
      generalize It.kind a = k at h
      unfold It.parseK at h
      split at h
      · split at h
        · split at h
          · rename_i hb
            cases h
            exact Int.le_trans (parseN_le hb) (most_le k)
          · cases h
        · cases h
      · split at h
        · split at h
          · split at h
            · rename_i hb
              cases h
              simp only [Bool.and_eq_true] at hb
              exact parseN_le hb.1.2
            · cases h
          · cases h
        · split at h
          · split at h
            · split at h
              · cases h; exact (by decide : (0 : Int) ≤ 1099511627776)
              · cases h
            · cases h
          · split at h
            · split at h
              · split at h
                · cases h; exact (by decide : (0 : Int) ≤ 1099511627776)
                · cases h
              · cases h
            · split at h
              · split at h
                · split at h
                  · cases h; exact (by decide : (0 : Int) ≤ 1099511627776)
                  · cases h
                · cases h
              · cases h
  · cases h
theorem right_le {x : It.Itm} (h : It.right x = true) : 0 ≤ x.n ∧ x.n ≤ 1099511627776 := by
  unfold It.right at h
  rw [Bool.and_eq_true] at h
  exact ⟨of_decide_eq_true h.1, parse_le (of_decide_eq_true h.2)⟩
theorem num_le {L : List It.Itm} (hL : Ok L) (k : Int) : 0 ≤ num L k ∧ num L k ≤ 1099511627776 := by
  unfold num
  cases h : L.find? (fun x => decide (x.k = k)) with
  | none => exact ⟨Int.le_refl _, by decide⟩
  | some x => exact right_le (hL.right x (List.mem_of_find?_eq_some h))
theorem meas_fin {L : List It.Itm} (hL : Ok L) (hS : Pl.Shut L) : Meas (fin L) where
  ov := by
    have h := num_le hL 1
    show 0 ≤ num L 1 ∧ num L 1 ≤ 1125899906842624
    omega
  len i s hs := by
    obtain ⟨x, -, hx, -, -, rfl⟩ := secs_at hL hs
    exact right_le (hL.right x (mem_secs.1 hx).1)
  sig i s hs e he := by
    rcases end_cases hL hS hs he with h | ⟨_, -, -, -, -, -, -, -, h⟩ | ⟨_, _, _, _, -, -, -, -, -, -, -, -, -, -, h | ⟨k, g, hg, h, -, -⟩⟩
    · rw [h]; exact ⟨by decide, by show (-1 : Int) < _; omega⟩
    · rw [h]; exact ⟨by decide, by omega⟩
    · rw [h]; exact ⟨by decide, by omega⟩
    · rw [h]
      have := (List.getElem?_eq_some_iff.1 hg).1
      exact ⟨by omega, by omega⟩
theorem endOf_some {p : Plan} {s e : Int} {x : En} (h : endOf p s e = some x) : ∃ (i k : Nat) (y : Sec), s = i ∧ e = k ∧ k < 3 ∧ p.secs[i]? = some y ∧ x = y.get k := by
  unfold endOf at h
  rcases sec_ways p s with ⟨-, h1⟩ | ⟨i, rfl, ⟨-, h1⟩ | ⟨y, hy, h1⟩⟩
  · rw [h1] at h; cases h
  · rw [h1] at h; cases h
  · rw [h1] at h
    simp only at h
    split at h
    · rename_i hi
      have := isEnd_lt hi
      cases h
      exact ⟨i, e.toNat, y, rfl, by omega, by omega, hy, rfl⟩
    · cases h
theorem next_in {p : Plan} (hf : Fit p) {s e : Int} (h : (next p s e).2.2 = true) : ∃ (j f : Nat), (next p s e).1 = j ∧ j < p.secs.length ∧ (next p s e).2.1 = f ∧ f < 3 := by
  unfold next at h ⊢
  split at h
  · cases h
  · rename_i x hx
    split at h
    · cases h
    · rename_i h0
      obtain ⟨i, k, y, -, -, hk, hy, rfl⟩ := endOf_some hx
      obtain ⟨h1, h2, h3⟩ := hf.ends i y hy k hk
      have h4 := h3 (by omega)
      rw [if_neg h0]
      exact ⟨((y.get k).goes).toNat, ((y.get k).at_).toNat, by simp only; omega, by omega, by simp only; omega, by omega⟩
/-! ### An overlap -/
/-- Where one stands behind k steps of an overlap: it goes on from there, or ends there. -/
def Reach (p : Plan) (b : Int) (way t : List Stp) (k : Nat) (at_ en : Int) : Prop :=
  (k < t.length ∧ (next p at_ en).2.2 = true ∧ len p (t.take k) < p.ov ∧ Chain p b way (next p at_ en).1 (next p at_ en).2.1 (t.take k) (len p (t.take k)) (t.drop k)) ∨
    (k = t.length ∧ ((next p at_ en).2.2 = false ∨ p.ov ≤ len p t) ∧ len p t - secLen p at_ < p.ov)
/-! ### With a lesser length asked for -/
/-! ### With more asked for than there is -/
end Go.Proofs.Ytgajdfecajleiaa.Lp
