/-
  Texts of this claim, merged: WkSpec, CrSpec, CrFacts, CrWays, LpSpec, LpFacts, NrSpec, NrMore, DmSpec, FlSpec.
-/
import Derived.Test.YtbmmcmdopekccaaMg03
/-
  Plain mathematics of layer 6: steps through a section, where an end leads, what stands there. No program is named here.
-/
namespace Go.Proofs.Ytbmmcmdopekccaa.Wk
open Go Pl

/-- A step: a section, from one of its ends, by another one. -/
structure Stp where
  s : Int
  f : Int
  t : Int
deriving DecidableEq
/-- A section by its number, if there is one. -/
def secAt (p : Plan) (s : Int) : Option Sec := if s < 0 then none else p.secs[s.toNat]?
def outs (p : Plan) (s f : Int) : List Stp :=
  match secAt p s with
  | none => []
  | some x => if x.pt then (if f = 0 then [⟨s, 0, 1⟩, ⟨s, 0, 2⟩] else if f = 1 ∨ f = 2 then [⟨s, f, 0⟩] else []) else if f = 0 ∨ f = 1 then [⟨s, f, 1 - f⟩] else []
/-- Is there such an end? -/
def isEnd (x : Sec) (e : Int) : Bool := decide (0 ≤ e) && (decide (e ≤ 2) && (decide (e ≠ 2) || x.pt))
def endOf (p : Plan) (s e : Int) : Option En :=
  match secAt p s with
  | none => none
  | some x => if isEnd x e then some (x.get e.toNat) else none
def next (p : Plan) (s e : Int) : Int × Int × Bool :=
  match endOf p s e with
  | none => (0, 0, false)
  | some x => if x.goes < 0 then (0, 0, false) else (x.goes, x.at_, true)
def signal (p : Plan) (s e : Int) : Int :=
  match endOf p s e with
  | none => -1
  | some x => x.sig
def isPoint (p : Plan) (s : Int) : Bool := ((secAt p s).map Sec.pt).getD false
def position (p : Plan) (x : Stp) : Int := if isPoint p x.s then max (max x.f x.t) 0 else 0
def within (l : List Stp) (s : Int) : Bool := l.any fun x => decide (x.s = s)
theorem secAt_neg {p : Plan} {s : Int} (h : s < 0) : secAt p s = none := by unfold secAt; rw [if_pos h]
theorem secAt_big {p : Plan} {k : Nat} (h : p.secs.length ≤ k) : secAt p (k : Int) = none := by
  unfold secAt
  rw [if_neg (by omega), Int.toNat_natCast, List.getElem?_eq_none h]
theorem secAt_some {p : Plan} {k : Nat} {x : Sec} (h : p.secs[k]? = some x) : secAt p (k : Int) = some x := by
  unfold secAt
  rw [if_neg (by omega), Int.toNat_natCast, h]
/-- A number is none of a section's, or one's. -/
theorem sec_ways (p : Plan) (s : Int) : (s < 0 ∧ secAt p s = none) ∨ ∃ k : Nat, s = k ∧ ((p.secs.length ≤ k ∧ secAt p (k : Int) = none) ∨ ∃ x, p.secs[k]? = some x ∧ secAt p (k : Int) = some x) := by
  by_cases h : s < 0
  · exact .inl ⟨h, secAt_neg h⟩
  · refine .inr ⟨s.toNat, by omega, ?_⟩
    by_cases hk : p.secs.length ≤ s.toNat
    · exact .inl ⟨hk, secAt_big hk⟩
    · exact .inr ⟨_, List.getElem?_eq_getElem (by omega), secAt_some (List.getElem?_eq_getElem (by omega))⟩
theorem outs_len (p : Plan) (s f : Int) : (outs p s f).length ≤ 2 := by
  unfold outs
  split
  · exact Nat.zero_le _
  · split
    · split
      · exact Nat.le_refl _
      · split
        · exact Nat.le_succ _
        · exact Nat.zero_le _
    · split
      · exact Nat.le_succ _
      · exact Nat.zero_le _
theorem isEnd_lt {x : Sec} {e : Int} (h : isEnd x e = true) : 0 ≤ e ∧ e ≤ 2 := by
  unfold isEnd at h
  simp only [Bool.and_eq_true, decide_eq_true_eq] at h
  exact ⟨h.1, h.2.1⟩
end Go.Proofs.Ytbmmcmdopekccaa.Wk
/-
  Plain mathematics of layer 7: ways from a signal, as a search finds them. No program is named here.
-/
namespace Go.Proofs.Ytbmmcmdopekccaa.Cr
open Go Pl Wk

structure Way where
  steps : List Stp
  exit : Int
deriving DecidableEq
/-- A search: how many sections it entered, whether it went too far, what it found. -/
structure HSt where
  tries : Nat
  long : Bool
  out : List Way
def came (h : HSt) : HSt := ⟨h.tries + 1, h.long || decide (400 < h.tries + 1), h.out⟩
/-- Does the search turn back where it enters? -/
def turns (b s : Int) (st : List Stp) (h : HSt) : Bool := (came h).long || (decide (s = b) || within st s)
/-- Does a way end behind that step? -/
def lasts (p : Plan) (s : Int) (x : Stp) : Bool := decide (0 ≤ signal p s x.t) || !(next p s x.t).2.2
def gone (p : Plan) (go : Int → Int → List Stp → HSt → HSt) (s : Int) (st : List Stp) (h : HSt) (x : Stp) : HSt :=
  if lasts p s x then ⟨h.tries, h.long, h.out ++ [⟨st ++ [x], signal p s x.t⟩]⟩ else go (next p s x.t).1 (next p s x.t).2.1 (st ++ [x]) h
def enter (p : Plan) (b : Int) : Nat → Int → Int → List Stp → HSt → HSt
  | 0, s, _, st, h => if turns b s st h then came h else ⟨h.tries + 1, true, h.out⟩
  | k + 1, s, f, st, h => if turns b s st h then came h else (outs p s f).foldl (gone p (enter p b k) s st) (came h)
def hunt0 : HSt := ⟨0, false, []⟩
def hunt (p : Plan) (g : Sig) : HSt := if (next p g.sec g.en).2.2 then enter p g.sec 16 (next p g.sec g.en).1 (next p g.sec g.en).2.1 [] hunt0 else hunt0
def sigAt (p : Plan) (i : Int) : Option Sig := if i < 0 then none else p.sigs[i.toNat]?
def ofSig (p : Plan) (g : Sig) : List Way × Int := if (hunt p g).long then ([], 10) else ((hunt p g).out, 0)
/-- The ways from a signal, or the error. -/
def of (p : Plan) (i : Int) : List Way × Int :=
  match sigAt p i with
  | none => ([], 4)
  | some g => ofSig p g
theorem came_out (h : HSt) : (came h).out = h.out := rfl
theorem came_tries (h : HSt) : (came h).tries = h.tries + 1 := rfl
theorem sigAt_ways (p : Plan) (i : Int) : (i < 0 ∧ sigAt p i = none) ∨ ∃ k : Nat, i = k ∧ ((p.sigs.length ≤ k ∧ sigAt p (k : Int) = none) ∨ ∃ x, p.sigs[k]? = some x ∧ sigAt p (k : Int) = some x) := by
  by_cases h : i < 0
  · exact .inl ⟨h, by unfold sigAt; rw [if_pos h]⟩
  · refine .inr ⟨i.toNat, by omega, ?_⟩
    by_cases hk : p.sigs.length ≤ i.toNat
    · exact .inl ⟨hk, by unfold sigAt; rw [if_neg (by omega), Int.toNat_natCast, List.getElem?_eq_none hk]⟩
    · exact .inr ⟨_, List.getElem?_eq_getElem (by omega), by unfold sigAt; rw [if_neg (by omega), Int.toNat_natCast, List.getElem?_eq_getElem (by omega)]⟩
/-- What is found stays found; what is too long stays so; tries are but more. -/
def Grows (a b : HSt) : Prop := a.tries ≤ b.tries ∧ (a.long = true → b.long = true) ∧ ∃ N, b.out = a.out ++ N
theorem Grows.refl (a : HSt) : Grows a a := ⟨Nat.le_refl _, id, [], (List.append_nil _).symm⟩
theorem Grows.trans {a b c : HSt} (h : Grows a b) (h' : Grows b c) : Grows a c := by
  obtain ⟨t1, l1, N1, o1⟩ := h
  obtain ⟨t2, l2, N2, o2⟩ := h'
  exact ⟨Nat.le_trans t1 t2, fun x => l2 (l1 x), N1 ++ N2, by rw [o2, o1, List.append_assoc]⟩
theorem Grows.came (h : HSt) : Grows h (came h) := ⟨Nat.le_succ _, fun x => by unfold Cr.came; simp [x], [], (List.append_nil _).symm⟩
theorem Grows.gone {p : Plan} {go : Int → Int → List Stp → HSt → HSt} (hg : ∀ s f st h, Grows h (go s f st h)) (s : Int) (st : List Stp) (h : HSt) (x : Stp) : Grows h (gone p go s st h x) := by
  unfold Cr.gone
  split
  · exact ⟨Nat.le_refl _, id, _, rfl⟩
  · exact hg _ _ _ _
/-- How much a search may grow: each section entered leads to two at most. -/
theorem fold_le (p : Plan) (go : Int → Int → List Stp → HSt → HSt) (s : Int) (st : List Stp) (B C : Nat) (hC : 1 ≤ C)
    (hs : ∀ s f st h, (go s f st h).tries ≤ h.tries + B ∧ (go s f st h).out.length ≤ h.out.length + C) : ∀ (l : List Stp) (h : HSt), (l.foldl (gone p go s st) h).tries ≤ h.tries + l.length * B ∧ (l.foldl (gone p go s st) h).out.length ≤ h.out.length + l.length * C
  | [], h => ⟨Nat.le_add_right _ _, Nat.le_add_right _ _⟩
  | x :: l, h => by
    obtain ⟨h1, h2⟩ := fold_le p go s st B C hC hs l (gone p go s st h x)
    have h3 : (gone p go s st h x).tries ≤ h.tries + B ∧ (gone p go s st h x).out.length ≤ h.out.length + C := by
      unfold gone
      split
      · exact ⟨Nat.le_add_right _ _, by simp only [List.length_append, List.length_singleton]; omega⟩
      · exact hs _ _ _ _
    rw [List.foldl_cons, List.length_cons, Nat.succ_mul, Nat.succ_mul]
    omega
theorem enter_le (p : Plan) (b : Int) : ∀ (k : Nat) (s f : Int) (st : List Stp) (h : HSt), (enter p b k s f st h).tries ≤ h.tries + (2 ^ (k + 1) - 1) ∧ (enter p b k s f st h).out.length ≤ h.out.length + 2 ^ k
  | 0, s, f, st, h => by
    unfold enter
    split
    · exact ⟨by rw [came_tries]; omega, by rw [came_out]; omega⟩
    · exact ⟨by simp only; omega, by simp only; omega⟩
  | k + 1, s, f, st, h => by
    have hp : 1 ≤ 2 ^ k := Nat.one_le_two_pow
    have e1 : 2 ^ (k + 1) = 2 * 2 ^ k := by rw [Nat.pow_succ, Nat.mul_comm]
    have e2 : 2 ^ (k + 1 + 1) = 2 * 2 ^ (k + 1) := by rw [Nat.pow_succ, Nat.mul_comm]
    unfold enter
    split
    · exact ⟨by rw [came_tries]; omega, by rw [came_out]; omega⟩
    · have hl := outs_len p s f
      obtain ⟨h1, h2⟩ := fold_le p (enter p b k) s st (2 ^ (k + 1) - 1) (2 ^ k) hp (fun s f st h => enter_le p b k s f st h) (outs p s f) (came h)
      rw [came_tries] at h1
      rw [came_out] at h2
      have q1 : (outs p s f).length * (2 ^ (k + 1) - 1) ≤ 2 * (2 ^ (k + 1) - 1) := Nat.mul_le_mul_right _ hl
      have q2 : (outs p s f).length * 2 ^ k ≤ 2 * 2 ^ k := Nat.mul_le_mul_right _ hl
      omega
end Go.Proofs.Ytbmmcmdopekccaa.Cr
/-
  Plain mathematics of layer 7: what a search finds are ways, each one, in order; all of them, if it doesn't go too far; a station with a signal more is searched no farther. No program is named here.
-/
namespace Go.Proofs.Ytbmmcmdopekccaa.Cr
open Go Pl Wk

/-- From a section entered at an end, behind some steps, these steps go on, and end as a way does. -/
def Chain (p : Plan) (b : Int) : Int → Int → List Stp → List Stp → Int → Prop
  | _, _, _, [], _ => False
  | s, f, st, x :: t, e => (s ≠ b ∧ within st s = false ∧ x ∈ outs p s f) ∧ ((lasts p s x = true ∧ t = [] ∧ e = signal p s x.t) ∨ (lasts p s x = false ∧ Chain p b (next p s x.t).1 (next p s x.t).2.1 (st ++ [x]) t e))
/-- Two ways that a point's toe parts, the normal leg's first. -/
def Part (a b : Way) : Prop := ∃ l x y ta tb, a.steps = l ++ x :: ta ∧ b.steps = l ++ y :: tb ∧ x.s = y.s ∧ x.f = 0 ∧ y.f = 0 ∧ x.t = 1 ∧ y.t = 2
def Parts (x y : Stp) : Prop := x.s = y.s ∧ x.f = 0 ∧ y.f = 0 ∧ x.t = 1 ∧ y.t = 2
theorem outs_parts (p : Plan) (s f : Int) : (outs p s f).Pairwise Parts := by
  unfold outs
  split
  · exact .nil
  · split
    · split
      · exact List.pairwise_pair.2 ⟨rfl, rfl, rfl, rfl, rfl⟩
      · split
        · exact List.pairwise_singleton _ _
        · exact .nil
    · split
      · exact List.pairwise_singleton _ _
      · exact .nil
/-- The ways that a search adds: so they go on, each one in its place. -/
def News (Q : Stp → List Stp → Int → Prop) (st : List Stp) (l : List Stp) (N : List Way) : Prop :=
  (∀ w ∈ N, ∃ x ∈ l, ∃ t, w.steps = st ++ x :: t ∧ Q x t w.exit) ∧ N.Pairwise Part
theorem fold_news (p : Plan) (go : Int → Int → List Stp → HSt → HSt) (s : Int) (st : List Stp) (Q : Stp → List Stp → Int → Prop) :
    ∀ (l : List Stp), l.Pairwise Parts → (∀ x ∈ l, ∀ h, ∃ N, (gone p go s st h x).out = h.out ++ N ∧ News Q st [x] N) → ∀ h, ∃ N, (l.foldl (gone p go s st) h).out = h.out ++ N ∧ News Q st l N
  | [], _, _, h => ⟨[], (List.append_nil _).symm, fun _ hw => (by cases hw), .nil⟩
  | x :: l, hp, hx, h => by
    obtain ⟨N1, o1, n1, m1⟩ := hx x (List.mem_cons_self ..) h
    obtain ⟨hxl, hl⟩ := List.pairwise_cons.1 hp
    obtain ⟨N2, o2, n2, m2⟩ := fold_news p go s st Q l hl (fun y hy => hx y (List.mem_cons_of_mem _ hy)) (gone p go s st h x)
    refine ⟨N1 ++ N2, by rw [List.foldl_cons, o2, o1, List.append_assoc], fun w hw => ?_, List.pairwise_append.2 ⟨m1, m2, fun a ha b hb => ?_⟩⟩
    · rcases List.mem_append.1 hw with hw | hw
      · obtain ⟨y, hy, t, h1, h2⟩ := n1 w hw
        rw [List.mem_singleton] at hy
        exact ⟨y, hy ▸ List.mem_cons_self .., t, h1, h2⟩
      · obtain ⟨y, hy, t, h1, h2⟩ := n2 w hw
        exact ⟨y, List.mem_cons_of_mem _ hy, t, h1, h2⟩
    · obtain ⟨y, hy, t, h1, -⟩ := n1 a ha
      obtain ⟨z, hz, u, h2, -⟩ := n2 b hb
      rw [List.mem_singleton] at hy
      subst hy
      exact ⟨st, y, z, t, u, h1, h2, hxl z hz⟩
/-- Behind a section entered: which steps a way may have. -/
def Goes (p : Plan) (b : Int) (k : Nat) (s f : Int) (st : List Stp) (x : Stp) (t : List Stp) (e : Int) : Prop := t.length < k ∧ Chain p b s f st (x :: t) e
theorem turns_false {b s : Int} {st : List Stp} {h : HSt} (ht : ¬ turns b s st h = true) : (came h).long = false ∧ s ≠ b ∧ within st s = false := by
  unfold turns at ht
  cases h1 : (came h).long <;> cases h2 : within st s <;> by_cases h3 : s = b <;> simp [h1, h2, h3] at ht
  exact ⟨rfl, h3, rfl⟩
theorem enter_news (p : Plan) (b : Int) : ∀ (k : Nat) (s f : Int) (st : List Stp) (h : HSt), ∃ N, (enter p b k s f st h).out = h.out ++ N ∧ News (Goes p b k s f st) st (outs p s f) N
  | 0, s, f, st, h => by
    unfold enter
    split
    · exact ⟨[], (List.append_nil _).symm, fun _ hw => (by cases hw), .nil⟩
    · exact ⟨[], (List.append_nil _).symm, fun _ hw => (by cases hw), .nil⟩
  | k + 1, s, f, st, h => by
    unfold enter
    split
    · exact ⟨[], (List.append_nil _).symm, fun _ hw => (by cases hw), .nil⟩
    · rename_i ht
      obtain ⟨-, hb, hw⟩ := turns_false ht
      refine fold_news p _ s st _ (outs p s f) (outs_parts p s f) (fun x hx h => ?_) (came h)
      unfold gone
      cases hl : lasts p s x with
      | true =>
        rw [if_pos rfl]
        refine ⟨_, rfl, fun w hw' => ?_, List.pairwise_singleton _ _⟩
        rw [List.mem_singleton] at hw'
        subst hw'
        exact ⟨x, List.mem_cons_self .., [], rfl, Nat.succ_pos _, ⟨hb, hw, hx⟩, .inl ⟨hl, rfl, rfl⟩⟩
      | false =>
        rw [if_neg (by decide)]
        obtain ⟨N, o, n, m⟩ := enter_news p b k (next p s x.t).1 (next p s x.t).2.1 (st ++ [x]) h
        refine ⟨N, o, fun w hw' => ?_, m⟩
        obtain ⟨y, -, t, h1, h2, h3⟩ := n w hw'
        exact ⟨x, List.mem_cons_self .., y :: t, by rw [h1, List.append_assoc]; rfl, by rw [List.length_cons]; omega, ⟨hb, hw, hx⟩, .inr ⟨hl, h3⟩⟩
/-- A station with a signal more: as the other one in all else. -/
structure More (p q : Plan) : Prop where
  outs : ∀ s f, outs q s f = outs p s f
  next : ∀ s e, next q s e = next p s e
  sig : ∀ s e, signal q s e = signal p s e ∨ 0 ≤ signal q s e
theorem More.lasts {p q : Plan} (h : More p q) {s : Int} {x : Stp} (hl : lasts p s x = true) : lasts q s x = true := by
  unfold Cr.lasts at hl ⊢
  rw [h.next]
  rcases h.sig s x.t with h1 | h1
  · rw [h1]; exact hl
  · rw [decide_eq_true h1, Bool.true_or]
end Go.Proofs.Ytbmmcmdopekccaa.Cr
/-
  Plain mathematics of layer 7: each way from a signal, step by step; where two part; what a signal more does. No program is named here.
-/
namespace Go.Proofs.Ytbmmcmdopekccaa.Cr
open Go Pl Wk

theorem of_some {p : Plan} {i : Int} {g : Sig} (hg : sigAt p i = some g) : of p i = ofSig p g := by unfold of; rw [hg]
theorem of_none {p : Plan} {i : Int} (hg : sigAt p i = none) : of p i = ([], 4) := by unfold of; rw [hg]
theorem ofSig_ways (p : Plan) (g : Sig) : ((ofSig p g).2 = 10 ∧ (ofSig p g).1 = []) ∨ ((ofSig p g).2 = 0 ∧ (hunt p g).long = false ∧ (ofSig p g).1 = (hunt p g).out) := by
  unfold ofSig
  cases h : (hunt p g).long with
  | true => exact .inl ⟨rfl, rfl⟩
  | false => exact .inr ⟨rfl, rfl, rfl⟩
theorem hunt_news (p : Plan) (g : Sig) : (∀ w ∈ (hunt p g).out, (next p g.sec g.en).2.2 = true ∧ w.steps.length ≤ 16 ∧ Chain p g.sec (next p g.sec g.en).1 (next p g.sec g.en).2.1 [] w.steps w.exit) ∧ (hunt p g).out.Pairwise Part := by
  unfold hunt
  cases hn : (next p g.sec g.en).2.2 with
  | false => exact ⟨fun w hw => (by cases hw), .nil⟩
  | true =>
    rw [if_pos rfl]
    obtain ⟨N, o, n, m⟩ := enter_news p g.sec 16 (next p g.sec g.en).1 (next p g.sec g.en).2.1 [] hunt0
    rw [show hunt0.out = [] from rfl, List.nil_append] at o
    rw [o]
    refine ⟨fun w hw => ⟨rfl, ?_⟩, m⟩
    obtain ⟨x, -, t, h1, h2, h3⟩ := n w hw
    rw [List.nil_append] at h1
    rw [h1]
    exact ⟨by rw [List.length_cons]; omega, h3⟩
theorem hunt_len (p : Plan) (g : Sig) : (hunt p g).out.length ≤ 65536 := by
  unfold hunt
  split
  · have := (enter_le p g.sec 16 (next p g.sec g.en).1 (next p g.sec g.en).2.1 [] hunt0).2
    rw [show hunt0.out.length = 0 from rfl] at this
    omega
  · exact Nat.zero_le _
theorem of_len (p : Plan) (i : Int) : (of p i).1.length ≤ 65536 := by
  unfold of
  split
  · exact Nat.zero_le _
  · rename_i g _
    rcases ofSig_ways p g with ⟨-, h⟩ | ⟨-, -, h⟩
    · rw [h]; exact Nat.zero_le _
    · rw [h]; exact hunt_len p g
theorem of_way {p : Plan} {g : Sig} {w : Way} (hw : w ∈ (ofSig p g).1) : (ofSig p g).2 = 0 ∧ (next p g.sec g.en).2.2 = true ∧ w.steps.length ≤ 16 ∧ Chain p g.sec (next p g.sec g.en).1 (next p g.sec g.en).2.1 [] w.steps w.exit := by
  rcases ofSig_ways p g with ⟨-, h⟩ | ⟨h0, -, h⟩
  · rw [h] at hw; cases hw
  · rw [h] at hw
    exact ⟨h0, (hunt_news p g).1 w hw⟩
theorem of_steps {p : Plan} {i : Int} {w : Way} (hw : w ∈ (of p i).1) : w.steps.length ≤ 16 := by
  unfold of at hw
  split at hw
  · cases hw
  · exact (of_way hw).2.2.1
/-- Where one stands behind k steps of a way: it goes on from there, or ends there. -/
def Reach (p : Plan) (b : Int) (w : Way) (k : Nat) (at_ en : Int) : Prop :=
  (k < w.steps.length ∧ (next p at_ en).2.2 = true ∧ Chain p b (next p at_ en).1 (next p at_ en).2.1 (w.steps.take k) (w.steps.drop k) w.exit) ∨
    (k = w.steps.length ∧ (0 ≤ signal p at_ en ∨ (next p at_ en).2.2 = false) ∧ w.exit = signal p at_ en)
theorem chain_pos {p : Plan} {b s f : Int} {st t : List Stp} {e : Int} (h : Chain p b s f st t e) : 0 < t.length := by
  cases t with
  | nil => unfold Chain at h; exact h.elim
  | cons x t => exact Nat.succ_pos _
theorem lasts_false {p : Plan} {s : Int} {x : Stp} (h : lasts p s x = false) : signal p s x.t < 0 ∧ (next p s x.t).2.2 = true := by
  unfold lasts at h
  rw [Bool.or_eq_false_iff] at h
  exact ⟨by have := of_decide_eq_false h.1; omega, by simpa using h.2⟩
theorem lasts_true {p : Plan} {s : Int} {x : Stp} (h : lasts p s x = true) : 0 ≤ signal p s x.t ∨ (next p s x.t).2.2 = false := by
  unfold lasts at h
  rw [Bool.or_eq_true] at h
  rcases h with h | h
  · exact .inl (of_decide_eq_true h)
  · exact .inr (by simpa using h)
end Go.Proofs.Ytbmmcmdopekccaa.Cr
/-
  Plain mathematics of layer 8: the overlap behind a way's exit, as a search finds it. No program is named here.
-/
namespace Go.Proofs.Ytbmmcmdopekccaa.Lp
open Go Pl Wk

/-- How long a section is; one that there isn't counts nought. -/
def secLen (p : Plan) (s : Int) : Int := match secAt p s with | none => 0 | some x => x.len
/-- How long steps' sections are, together. -/
def len (p : Plan) : List Stp → Int
  | [] => 0
  | x :: l => secLen p x.s + len p l
/-- May a search not enter that section? -/
def bars (b : Int) (way st : List Stp) (s : Int) : Bool := decide (s = b) || (within way s || within st s)
/-- Does an overlap end with that step? -/
def lasts (p : Plan) (sum s : Int) (x : Stp) : Bool := !(next p s x.t).2.2 || decide (p.ov ≤ sum)
def seek (p : Plan) (go : Int → Int → List Stp → Nat → Option (List Stp) × Nat) (s sum : Int) (st : List Stp) : List Stp → Nat → Option (List Stp) × Nat
  | [], n => (none, n)
  | x :: l, n => if lasts p sum s x then (some (st ++ [x]), n) else
      match go (next p s x.t).1 (next p s x.t).2.1 (st ++ [x]) n with
      | (some r, m) => (some r, m)
      | (none, m) => seek p go s sum st l m
/-- What a search finds by entering a section, and how many it has entered then. -/
def enter (p : Plan) (b : Int) (way : List Stp) : Nat → Int → Int → List Stp → Int → Nat → Option (List Stp) × Nat
  | 0, _, _, _, _, n => (none, n + 1)
  | k + 1, s, f, st, sum, n => if decide (400 < n + 1) || bars b way st s then (none, n + 1) else
      seek p (fun s' f' st' n' => enter p b way k s' f' st' (sum + secLen p s) n') s (sum + secLen p s) st (outs p s f) (n + 1)
def hunt (p : Plan) (b : Int) (way : List Stp) (x : Sig) : Option (List Stp) × Nat := enter p b way 16 (next p x.sec x.en).1 (next p x.sec x.en).2.1 [] 0 0
def ofSig (p : Plan) (b : Int) (way : List Stp) (x : Sig) : List Stp × Int :=
  if (next p x.sec x.en).2.2 then (if 400 < (hunt p b way x).2 then ([], 10) else ((hunt p b way x).1.getD [], 0)) else ([], 0)
/-- The overlap of a way from a signal, or the error. -/
def of (p : Plan) (i : Int) (w : Cr.Way) : List Stp × Int :=
  match Cr.sigAt p i with
  | none => ([], 4)
  | some g => if (p.sigs.length : Int) ≤ w.exit then ([], 4) else if w.exit < 0 ∨ p.ov = 0 then ([], 0) else
      match Cr.sigAt p w.exit with
      | none => ([], 4)
      | some x => ofSig p g.sec w.steps x

/-! ### What a search finds -/
/-- From a section entered at an end, behind some steps, these steps go on, and end as an overlap does. -/
def Chain (p : Plan) (b : Int) (way : List Stp) : Int → Int → List Stp → Int → List Stp → Prop
  | _, _, _, _, [] => False
  | s, f, st, sum, x :: t => (s ≠ b ∧ within way s = false ∧ within st s = false ∧ x ∈ outs p s f) ∧
      ((lasts p (sum + secLen p s) s x = true ∧ t = []) ∨ (lasts p (sum + secLen p s) s x = false ∧ Chain p b way (next p s x.t).1 (next p s x.t).2.1 (st ++ [x]) (sum + secLen p s) t))
theorem bars_false {b s : Int} {way st : List Stp} (h : bars b way st s = false) : s ≠ b ∧ within way s = false ∧ within st s = false := by
  unfold bars at h
  rw [Bool.or_eq_false_iff, Bool.or_eq_false_iff] at h
  exact ⟨of_decide_eq_false h.1, h.2.1, h.2.2⟩
theorem seek_found {p : Plan} {go : Int → Int → List Stp → Nat → Option (List Stp) × Nat} {s sum : Int} {st : List Stp} {Q : Stp → List Stp → Prop} :
    ∀ (l : List Stp) (n : Nat) {r : List Stp} {m : Nat}, (∀ x ∈ l, lasts p sum s x = true → Q x []) → (∀ x ∈ l, lasts p sum s x = false → ∀ n r m, go (next p s x.t).1 (next p s x.t).2.1 (st ++ [x]) n = (some r, m) → ∃ t, r = st ++ x :: t ∧ Q x t) → seek p go s sum st l n = (some r, m) → ∃ x t, r = st ++ x :: t ∧ Q x t
  | [], n, r, m, _, _, h => by unfold seek at h; cases h
  | x :: l, n, r, m, h1, h2, h => by
    unfold seek at h
    cases hl : lasts p sum s x with
    | true =>
      rw [hl, if_pos rfl] at h
      cases h
      exact ⟨x, [], rfl, h1 x (List.mem_cons_self ..) hl⟩
    | false =>
      rw [hl, if_neg (by decide)] at h
      split at h
      · rename_i r' m' hg
        cases h
        obtain ⟨t, ht, hq⟩ := h2 x (List.mem_cons_self ..) hl n _ _ hg
        exact ⟨x, t, ht, hq⟩
      · exact seek_found l _ (fun y hy => h1 y (List.mem_cons_of_mem _ hy)) (fun y hy => h2 y (List.mem_cons_of_mem _ hy)) h
theorem enter_found (p : Plan) (b : Int) (way : List Stp) : ∀ (k : Nat) (s f : Int) (st : List Stp) (sum : Int) (n : Nat) {r : List Stp} {m : Nat}, enter p b way k s f st sum n = (some r, m) → ∃ t, r = st ++ t ∧ t.length ≤ k ∧ Chain p b way s f st sum t
  | 0, s, f, st, sum, n, r, m, h => by unfold enter at h; cases h
  | k + 1, s, f, st, sum, n, r, m, h => by
    unfold enter at h
    split at h
    · cases h
    · rename_i hb
      rw [Bool.not_eq_true, Bool.or_eq_false_iff] at hb
      obtain ⟨b1, b2, b3⟩ := bars_false hb.2
      obtain ⟨x, t, ht, hx, hl, hc⟩ := seek_found (Q := fun x t => x ∈ outs p s f ∧ t.length ≤ k ∧ ((lasts p (sum + secLen p s) s x = true ∧ t = []) ∨ (lasts p (sum + secLen p s) s x = false ∧ Chain p b way (next p s x.t).1 (next p s x.t).2.1 (st ++ [x]) (sum + secLen p s) t))) (outs p s f) (n + 1)
        (fun x hx hl => ⟨hx, Nat.zero_le _, .inl ⟨hl, rfl⟩⟩)
        (fun x hx hl n r m hg => by
          obtain ⟨t, ht, h1, h2⟩ := enter_found p b way k _ _ _ _ _ hg
          exact ⟨t, by rw [ht, List.append_assoc]; rfl, hx, h1, .inr ⟨hl, h2⟩⟩) h
      exact ⟨x :: t, ht, by rw [List.length_cons]; omega, ⟨b1, b2, b3, hx⟩, hc⟩
/-! ### How many sections it enters -/
theorem seek_le {p : Plan} {go : Int → Int → List Stp → Nat → Option (List Stp) × Nat} {s sum : Int} {st : List Stp} {B : Nat} (hg : ∀ s f st n, n ≤ (go s f st n).2 ∧ (go s f st n).2 ≤ n + B) :
    ∀ (l : List Stp) (n : Nat), n ≤ (seek p go s sum st l n).2 ∧ (seek p go s sum st l n).2 ≤ n + l.length * B
  | [], n => by unfold seek; exact ⟨Nat.le_refl _, Nat.le_add_right _ _⟩
  | x :: l, n => by
    unfold seek
    rw [List.length_cons, Nat.succ_mul]
    cases hl : lasts p sum s x with
    | true =>
      rw [if_pos rfl]
      exact ⟨Nat.le_refl _, Nat.le_add_right _ _⟩
    | false =>
      rw [if_neg (by decide)]
      have h1 := hg (next p s x.t).1 (next p s x.t).2.1 (st ++ [x]) n
      split
      · rename_i r m hq
        rw [hq] at h1
        exact ⟨h1.1, by simp only at h1 ⊢; omega⟩
      · rename_i m hq
        rw [hq] at h1
        have h2 := seek_le (p := p) (s := s) (sum := sum) (st := st) hg l m
        simp only at h1
        omega
theorem enter_le (p : Plan) (b : Int) (way : List Stp) : ∀ (k : Nat) (s f : Int) (st : List Stp) (sum : Int) (n : Nat), n < (enter p b way k s f st sum n).2 ∧ (enter p b way k s f st sum n).2 ≤ n + (2 ^ (k + 1) - 1)
  | 0, s, f, st, sum, n => by unfold enter; exact ⟨Nat.lt_succ_self _, by simp⟩
  | k + 1, s, f, st, sum, n => by
    have hp : 1 ≤ 2 ^ k := Nat.one_le_two_pow
    have e1 : 2 ^ (k + 1) = 2 * 2 ^ k := by rw [Nat.pow_succ, Nat.mul_comm]
    have e2 : 2 ^ (k + 1 + 1) = 2 * 2 ^ (k + 1) := by rw [Nat.pow_succ, Nat.mul_comm]
    unfold enter
    split
    · exact ⟨Nat.lt_succ_self _, by simp only; omega⟩
    · have h := seek_le (p := p) (go := fun s' f' st' n' => enter p b way k s' f' st' (sum + secLen p s) n') (s := s) (sum := sum + secLen p s) (st := st) (B := 2 ^ (k + 1) - 1) (fun s' f' st' n' => ⟨Nat.le_of_lt (enter_le p b way k s' f' st' _ n').1, (enter_le p b way k s' f' st' _ n').2⟩) (outs p s f) (n + 1)
      have q1 : (outs p s f).length * (2 ^ (k + 1) - 1) ≤ 2 * (2 ^ (k + 1) - 1) := Nat.mul_le_mul_right _ (outs_len p s f)
      omega
/-! ### With a lesser length asked for -/
end Go.Proofs.Ytbmmcmdopekccaa.Lp
/-
  Plain mathematics of layer 8: how great a station's numbers are, where ends lead, an overlap step by step, how long it is, with a lesser length asked for, with more than there is. No program is named here.
-/
namespace Go.Proofs.Ytbmmcmdopekccaa.Lp
open Go Pl Wk

/-! ### A station's numbers -/
structure Meas (p : Plan) : Prop where
  ov : 0 ≤ p.ov ∧ p.ov ≤ 1125899906842624
  len : ∀ (i : Nat) (s : Sec), p.secs[i]? = some s → 0 ≤ s.len ∧ s.len ≤ 1099511627776
  sig : ∀ (i : Nat) (s : Sec), p.secs[i]? = some s → ∀ e, e < 3 → -1 ≤ (s.get e).sig ∧ (s.get e).sig < p.sigs.length
theorem parseN_le {d : List UInt8} {m : Int} (h : Fig.parseB d m = true) : Fig.parseN d m ≤ m := by
  unfold Fig.parseN
  rw [if_pos h]
  unfold Fig.parseB at h
  rw [Bool.and_eq_true] at h
  exact of_decide_eq_true h.2
theorem most_le (k : Int) : It.most k ≤ 1099511627776 := by
  unfold It.most
  split
  · exact Int.le_refl _
  · split
    · exact Int.le_refl _
    · split
      · decide
      · split
        · decide
        · exact Int.le_refl _
theorem parse_le {l : List UInt8} {x : It.Itm} (h : It.parse l = some x) : x.n ≤ 1099511627776 := by
  unfold It.parse at h
  split at h
  · cases hw : Ln.words l with
    | nil => rw [hw] at h; cases h
    | cons a t =>
      rw [hw] at h
      unfold It.parseW at h
      simp only at h
      generalize It.kind a = k at h
      unfold It.parseK at h
      split at h
      · split at h
        · split at h
          · rename_i hb
            cases h
            exact Int.le_trans (parseN_le hb) (most_le k)
          · cases h
        · cases h
      · split at h
        · split at h
          · split at h
            · rename_i hb
              cases h
              simp only [Bool.and_eq_true] at hb
              exact parseN_le hb.1.2
            · cases h
          · cases h
        · split at h
          · split at h
            · split at h
              · cases h; exact (by decide : (0 : Int) ≤ 1099511627776)
              · cases h
            · cases h
          · split at h
            · split at h
              · split at h
                · cases h; exact (by decide : (0 : Int) ≤ 1099511627776)
                · cases h
              · cases h
            · split at h
              · split at h
                · split at h
                  · cases h; exact (by decide : (0 : Int) ≤ 1099511627776)
                  · cases h
                · cases h
              · cases h
  · cases h
theorem right_le {x : It.Itm} (h : It.right x = true) : 0 ≤ x.n ∧ x.n ≤ 1099511627776 := by
  unfold It.right at h
  rw [Bool.and_eq_true] at h
  exact ⟨of_decide_eq_true h.1, parse_le (of_decide_eq_true h.2)⟩
theorem num_le {L : List It.Itm} (hL : Ok L) (k : Int) : 0 ≤ num L k ∧ num L k ≤ 1099511627776 := by
  unfold num
  cases h : L.find? (fun x => decide (x.k = k)) with
  | none => exact ⟨Int.le_refl _, by decide⟩
  | some x => exact right_le (hL.right x (List.mem_of_find?_eq_some h))
theorem meas_fin {L : List It.Itm} (hL : Ok L) (hS : Pl.Shut L) : Meas (fin L) where
  ov := by
    have h := num_le hL 1
    show 0 ≤ num L 1 ∧ num L 1 ≤ 1125899906842624
    omega
  len i s hs := by
    obtain ⟨x, -, hx, -, -, rfl⟩ := secs_at hL hs
    exact right_le (hL.right x (mem_secs.1 hx).1)
  sig i s hs e he := by
    rcases end_cases hL hS hs he with h | ⟨_, -, -, -, -, -, -, -, h⟩ | ⟨_, _, _, _, -, -, -, -, -, -, -, -, -, -, h | ⟨k, g, hg, h, -, -⟩⟩
    · rw [h]; exact ⟨by decide, by show (-1 : Int) < _; omega⟩
    · rw [h]; exact ⟨by decide, by omega⟩
    · rw [h]; exact ⟨by decide, by omega⟩
    · rw [h]
      have := (List.getElem?_eq_some_iff.1 hg).1
      exact ⟨by omega, by omega⟩
theorem secLen_bd {p : Plan} (hm : Meas p) (s : Int) : 0 ≤ secLen p s ∧ secLen p s ≤ 1099511627776 := by
  unfold secLen secAt
  split
  · exact ⟨Int.le_refl _, by decide⟩
  · rename_i x h
    split at h
    · cases h
    · exact hm.len _ _ h
theorem endOf_some {p : Plan} {s e : Int} {x : En} (h : endOf p s e = some x) : ∃ (i k : Nat) (y : Sec), s = i ∧ e = k ∧ k < 3 ∧ p.secs[i]? = some y ∧ x = y.get k := by
  unfold endOf at h
  rcases sec_ways p s with ⟨-, h1⟩ | ⟨i, rfl, ⟨-, h1⟩ | ⟨y, hy, h1⟩⟩
  · rw [h1] at h; cases h
  · rw [h1] at h; cases h
  · rw [h1] at h
    simp only at h
    split at h
    · rename_i hi
      have := isEnd_lt hi
      cases h
      exact ⟨i, e.toNat, y, rfl, by omega, by omega, hy, rfl⟩
    · cases h
theorem next_in {p : Plan} (hf : Fit p) {s e : Int} (h : (next p s e).2.2 = true) : ∃ (j f : Nat), (next p s e).1 = j ∧ j < p.secs.length ∧ (next p s e).2.1 = f ∧ f < 3 := by
  unfold next at h ⊢
  split at h
  · cases h
  · rename_i x hx
    split at h
    · cases h
    · rename_i h0
      obtain ⟨i, k, y, -, -, hk, hy, rfl⟩ := endOf_some hx
      obtain ⟨h1, h2, h3⟩ := hf.ends i y hy k hk
      have h4 := h3 (by omega)
      rw [if_neg h0]
      exact ⟨((y.get k).goes).toNat, ((y.get k).at_).toNat, by simp only; omega, by omega, by simp only; omega, by omega⟩
theorem secLen_at {p : Plan} {i : Nat} {x : Sec} (h : p.secs[i]? = some x) : secLen p (i : Int) = x.len := by
  unfold secLen
  rw [secAt_some h]
/-! ### An overlap -/
theorem chain_pos {p : Plan} {b s f sum : Int} {way st t : List Stp} (h : Chain p b way s f st sum t) : 0 < t.length := by
  cases t with
  | nil => unfold Chain at h; exact h.elim
  | cons x t => exact Nat.succ_pos _
theorem ofSig_cases (p : Plan) (b : Int) (way : List Stp) (x : Sig) : ofSig p b way x = ([], 10) ∨ ofSig p b way x = ([], 0) ∨ ((hunt p b way x).2 ≤ 400 ∧ ∃ l, (hunt p b way x).1 = some l ∧ ofSig p b way x = (l, 0) ∧ (next p x.sec x.en).2.2 = true ∧ l.length ≤ 16 ∧ Chain p b way (next p x.sec x.en).1 (next p x.sec x.en).2.1 [] 0 l) := by
  unfold ofSig
  split
  · rename_i hn
    split
    · exact .inl rfl
    · rename_i h4
      cases hh : (hunt p b way x).1 with
      | none => exact .inr (.inl rfl)
      | some l =>
        obtain ⟨t, h1, h2, h3⟩ := enter_found p b way 16 (next p x.sec x.en).1 (next p x.sec x.en).2.1 [] 0 0 (r := l) (m := (hunt p b way x).2) (by rw [← hh]; rfl)
        rw [List.nil_append] at h1
        subst h1
        exact .inr (.inr ⟨by omega, l, rfl, rfl, hn, h2, h3⟩)
  · exact .inr (.inl rfl)
theorem of_eq {p : Plan} {i : Int} {g : Sig} (hg : Cr.sigAt p i = some g) {w : Cr.Way} (hw : w.exit < p.sigs.length) : (w.exit < 0 ∨ p.ov = 0) ∧ of p i w = ([], 0) ∨ 0 ≤ w.exit ∧ p.ov ≠ 0 ∧ ∃ x, Cr.sigAt p w.exit = some x ∧ of p i w = ofSig p g.sec w.steps x := by
  unfold of
  rw [hg]
  simp only
  rw [if_neg (by omega)]
  by_cases h : w.exit < 0 ∨ p.ov = 0
  · rw [if_pos h]
    exact .inl ⟨h, rfl⟩
  · rw [if_neg h]
    rcases Cr.sigAt_ways p w.exit with ⟨h1, -⟩ | ⟨k, hk, ⟨h1, -⟩ | ⟨x, -, hx⟩⟩
    · exact absurd (.inl h1) h
    · omega
    · rw [hk, hx]
      exact .inr ⟨by omega, fun h' => h (.inr h'), x, rfl, rfl⟩
theorem of_steps {p : Plan} {i : Int} {w : Cr.Way} : (of p i w).1.length ≤ 16 := by
  unfold of
  split
  · exact Nat.zero_le _
  · split
    · exact Nat.zero_le _
    · split
      · exact Nat.zero_le _
      · split
        · exact Nat.zero_le _
        · rename_i g _ _ _ _ x _
          rcases ofSig_cases p g.sec w.steps x with h | h | ⟨-, l, -, h, -, h2, -⟩
          · rw [h]; exact Nat.zero_le _
          · rw [h]; exact Nat.zero_le _
          · rw [h]; exact h2
/-- Where one stands behind k steps of an overlap: it goes on from there, or ends there. -/
def Reach (p : Plan) (b : Int) (way t : List Stp) (k : Nat) (at_ en : Int) : Prop :=
  (k < t.length ∧ (next p at_ en).2.2 = true ∧ len p (t.take k) < p.ov ∧ Chain p b way (next p at_ en).1 (next p at_ en).2.1 (t.take k) (len p (t.take k)) (t.drop k)) ∨
    (k = t.length ∧ ((next p at_ en).2.2 = false ∨ p.ov ≤ len p t) ∧ len p t - secLen p at_ < p.ov)
theorem lasts_false {p : Plan} {sum s : Int} {x : Stp} (h : lasts p sum s x = false) : (next p s x.t).2.2 = true ∧ sum < p.ov := by
  unfold lasts at h
  rw [Bool.or_eq_false_iff] at h
  exact ⟨by simpa using h.1, by have := of_decide_eq_false h.2; omega⟩
theorem lasts_true {p : Plan} {sum s : Int} {x : Stp} (h : lasts p sum s x = true) : (next p s x.t).2.2 = false ∨ p.ov ≤ sum := by
  unfold lasts at h
  rw [Bool.or_eq_true] at h
  rcases h with h | h
  · exact .inl (by simpa using h)
  · exact .inr (of_decide_eq_true h)
/-! ### With a lesser length asked for -/
theorem of_nought {p : Plan} {i : Int} {g : Sig} (hg : Cr.sigAt p i = some g) {w : Cr.Way} (hw : w.exit < p.sigs.length) (h : w.exit < 0 ∨ p.ov = 0) : of p i w = ([], 0) := by
  rcases of_eq hg hw with ⟨-, h'⟩ | ⟨h3, h1, -⟩
  · exact h'
  · rcases h with h | h
    · omega
    · exact absurd h h1

/-! ### With more asked for than there is -/
end Go.Proofs.Ytbmmcmdopekccaa.Lp
/-
  Plain mathematics of layer 11: how far a section's end is from a signal; the sections from which a train may come. No program is named here.
-/
namespace Go.Proofs.Ytbmmcmdopekccaa.Nr
open Go Pl Wk

/-- How long a section is. -/
def lenAt (p : Plan) (s : Nat) : Int := ((p.secs[s]?).map Sec.len).getD 0
/-- A train that leaves a section by an end may have come from another one, left by an end. -/
def Edge (p : Plan) (a b : Nat × Nat) : Prop := ∃ from_ : Nat, from_ < 3 ∧ (∃ x ∈ outs p a.1 from_, x.t = (a.2 : Int)) ∧ next p a.1 from_ = ((b.1 : Int), (b.2 : Int), true)
/-- There is a way from an end to the signal's, so long between. -/
inductive Reach (p : Plan) (st : Nat × Nat) : Nat × Nat → Int → Prop
  | start : Reach p st st 0
  | step {a b : Nat × Nat} {n : Int} : Reach p st a n → Edge p a b → Reach p st b (n + lenAt p a.1)
/-- A train may come from that section within so much. -/
def Got (p : Plan) (ap : Int) (st : Nat × Nat) (s : Nat) : Prop := ∃ (e : Nat) (n : Int), e < 3 ∧ Reach p st (s, e) n ∧ n < ap
/-- Whether something is so. -/
noncomputable def yes (P : Prop) : Bool := @decide P (Classical.propDecidable P)
theorem yes_iff {P : Prop} : yes P = true ↔ P := @decide_eq_true_iff P (Classical.propDecidable P)
/-- The sections from which a train may come within so much. -/
noncomputable def sects (p : Plan) (ap : Int) (st : Nat × Nat) : List Nat := (List.range p.secs.length).filter fun s => yes (Got p ap st s)
def total (p : Plan) (l : List Nat) : Int := l.foldl (fun n s => n + lenAt p s) 0

/-- A table's entry of an end. -/
def at_ (T : List Int) (a : Nat × Nat) : Int := (T[3 * a.1 + a.2]?).getD (-1)
/-- What a table of all ends tells is so. -/
structure Sound (p : Plan) (ap : Int) (st : Nat × Nat) (T : List Int) : Prop where
  len : T.length = 3 * p.secs.length
  least : ∀ a : Nat × Nat, a.1 < p.secs.length → a.2 < 3 → at_ T a = -1 ∨ (0 ≤ at_ T a ∧ at_ T a < ap ∧ Reach p st a (at_ T a))
  first : at_ T st = 0
/-- An end's ways on tell nothing new. -/
def ClosedAt (p : Plan) (ap : Int) (T : List Int) (a : Nat × Nat) : Prop := 0 ≤ at_ T a → ∀ b, Edge p a b → at_ T a + lenAt p a.1 < ap → 0 ≤ at_ T b ∧ at_ T b ≤ at_ T a + lenAt p a.1
def Closed (p : Plan) (ap : Int) (T : List Int) : Prop := ∀ a : Nat × Nat, a.1 < p.secs.length → a.2 < 3 → ClosedAt p ap T a
/-- A table in which nothing is left to be bettered. -/
structure Done (p : Plan) (ap : Int) (st : Nat × Nat) (T : List Int) : Prop extends Sound p ap st T where
  closed : Closed p ap T

theorem lenAt_bd {p : Plan} (hm : Lp.Meas p) (s : Nat) : 0 ≤ lenAt p s ∧ lenAt p s ≤ 1099511627776 := by
  unfold lenAt
  cases h : p.secs[s]? with
  | none => exact ⟨by decide, by decide⟩
  | some x => exact hm.len s x h
theorem edge_in {p : Plan} (hf : Fit p) {a b : Nat × Nat} (h : Edge p a b) : b.1 < p.secs.length ∧ b.2 < 3 := by
  obtain ⟨k, hk, -, hn⟩ := h
  have hd : (Wk.next p (a.1 : Int) (k : Int)) = ((b.1 : Int), (b.2 : Int), true) := hn
  unfold Wk.next at hd
  split at hd
  · exact absurd (congrArg (fun x => x.2.2) hd) (by simp)
  · rename_i x hx
    split at hd
    · exact absurd (congrArg (fun x => x.2.2) hd) (by simp)
    · rename_i hg
      unfold endOf at hx
      split at hx
      · cases hx
      · rename_i y hy
        split at hx
        · rename_i hend
          have hyk : p.secs[a.1]? = some y := by
            unfold secAt at hy
            rw [if_neg (by omega), Int.toNat_natCast] at hy
            exact hy
          cases hx
          rw [Int.toNat_natCast] at hd hg
          have h1 := hf.ends a.1 y hyk k hk
          simp only [Prod.mk.injEq] at hd
          obtain ⟨e1, e2, -⟩ := hd
          have h2 := h1.2.2 (by omega)
          omega
        · cases hx
theorem edge_from {p : Plan} {a b : Nat × Nat} (h : Edge p a b) : a.1 < p.secs.length := by
  obtain ⟨k, -, ⟨x, hx, -⟩, -⟩ := h
  rcases Nat.lt_or_ge a.1 p.secs.length with h | h
  · exact h
  · unfold outs at hx
    rw [secAt_big h] at hx
    cases hx
theorem edge_to {p : Plan} {a b : Nat × Nat} (h : Edge p a b) : a.2 < 3 := by
  obtain ⟨k, -, ⟨x, hx, ht⟩, -⟩ := h
  have h2 : x.t = 1 ∨ x.t = 2 ∨ x.t = 0 ∨ x.t = 1 - (k : Int) := by
    unfold outs at hx
    split at hx
    · cases hx
    · split at hx
      · split at hx
        · simp only [List.mem_cons, List.not_mem_nil, or_false] at hx
          rcases hx with rfl | rfl
          · exact .inl rfl
          · exact .inr (.inl rfl)
        · split at hx
          · simp only [List.mem_cons, List.not_mem_nil, or_false] at hx
            rw [hx]
            exact .inr (.inr (.inl rfl))
          · cases hx
      · split at hx
        · simp only [List.mem_cons, List.not_mem_nil, or_false] at hx
          rw [hx]
          exact .inr (.inr (.inr rfl))
        · cases hx
  omega
theorem Reach.in_ {p : Plan} (hf : Fit p) {st a : Nat × Nat} {n : Int} (hst : st.1 < p.secs.length ∧ st.2 < 3) (h : Reach p st a n) : a.1 < p.secs.length ∧ a.2 < 3 := by
  cases h with
  | start => exact hst
  | step _ he => exact edge_in hf he
/-- In a table in which nothing is left to be bettered each end has no more than any way to it. -/
theorem Done.le {p : Plan} (hm : Lp.Meas p) {ap : Int} {st : Nat × Nat} {T : List Int} (hd : Done p ap st T) {a : Nat × Nat} {n : Int} (h : Reach p st a n) (hn : n < ap) : 0 ≤ at_ T a ∧ at_ T a ≤ n := by
  induction h with
  | start => rw [hd.first]; exact ⟨Int.le_refl _, Int.le_refl _⟩
  | @step a b n hr he ih =>
    have hl := (lenAt_bd hm a.1).1
    obtain ⟨h1, h2⟩ := ih (by omega)
    obtain ⟨h3, h4⟩ := hd.closed a (edge_from he) (edge_to he) h1 b he (by omega)
    exact ⟨h3, by omega⟩
/-- Is one of a section's ends told? -/
def told (T : List Int) (s : Nat) : Bool := decide (0 ≤ max (at_ T (s, 0)) (max (at_ T (s, 1)) (at_ T (s, 2))))
theorem told_iff {p : Plan} (hm : Lp.Meas p) {ap : Int} {st : Nat × Nat} {T : List Int} (hd : Done p ap st T) {s : Nat} (hs : s < p.secs.length) : told T s = true ↔ Got p ap st s := by
  have one : ∀ e, e < 3 → (0 ≤ at_ T (s, e) ↔ ∃ n, Reach p st (s, e) n ∧ n < ap) := fun e he => by
    constructor
    · intro h
      rcases hd.least (s, e) hs he with h2 | ⟨_, h3, h4⟩
      · omega
      · exact ⟨_, h4, h3⟩
    · rintro ⟨n, h1, h2⟩
      exact (hd.le hm h1 h2).1
  have h0 := one 0 (by decide)
  have h1 := one 1 (by decide)
  have h2 := one 2 (by decide)
  unfold told
  rw [decide_eq_true_eq]
  constructor
  · intro h
    by_cases g0 : 0 ≤ at_ T (s, 0)
    · obtain ⟨n, a, b⟩ := h0.1 g0
      exact ⟨0, n, by decide, a, b⟩
    · by_cases g1 : 0 ≤ at_ T (s, 1)
      · obtain ⟨n, a, b⟩ := h1.1 g1
        exact ⟨1, n, by decide, a, b⟩
      · obtain ⟨n, a, b⟩ := h2.1 (by omega)
        exact ⟨2, n, by decide, a, b⟩
  · rintro ⟨e, n, he, hr, hn⟩
    match e, he with
    | 0, _ => have := h0.2 ⟨n, hr, hn⟩; omega
    | 1, _ => have := h1.2 ⟨n, hr, hn⟩; omega
    | 2, _ => have := h2.2 ⟨n, hr, hn⟩; omega
theorem told_sects {p : Plan} (hm : Lp.Meas p) {ap : Int} {st : Nat × Nat} {T : List Int} (hd : Done p ap st T) : (List.range p.secs.length).filter (told T) = sects p ap st := by
  unfold sects
  apply List.filter_congr
  intro s hs
  rw [Bool.eq_iff_iff, told_iff hm hd (List.mem_range.1 hs), yes_iff]
theorem ap_fin {L : List It.Itm} (hL : Pl.Ok L) : 0 ≤ (fin L).ap ∧ (fin L).ap ≤ 1099511627776 := by
  have h := Lp.num_le hL 2
  show 0 ≤ num L 2 ∧ num L 2 ≤ 1099511627776
  omega
/-- What is asked of a signal's number, of a station. -/
noncomputable def of (p : Plan) (i : Int) : List Nat × Int :=
  match Cr.sigAt p i with
  | none => ([], 0)
  | some g => if p.ap = 0 then ([], 0) else (sects p p.ap (g.sec.toNat, g.en.toNat), total p (sects p p.ap (g.sec.toNat, g.en.toNat)))
end Go.Proofs.Ytbmmcmdopekccaa.Nr
/-
  Plain mathematics of layer 11: with more asked for; whence one goes on; all from which a train may come at all. No program is named here.
-/
namespace Go.Proofs.Ytbmmcmdopekccaa.Nr
open Go Pl Wk

/-- A station that asks for another distance. -/
def far (p : Plan) (n : Int) : Plan := { p with ap := n }
theorem sects_len {p : Plan} (hf : Fit p) (ap : Int) (st : Nat × Nat) : (sects p ap st).length ≤ 24 := by
  unfold sects
  have := List.length_filter_le (fun s => yes (Got p ap st s)) (List.range p.secs.length)
  rw [List.length_range] at this
  have := hf.few
  omega
theorem of_len {p : Plan} (hf : Fit p) {i : Int} : (of p i).1.length ≤ 24 := by
  unfold of
  split
  · exact Nat.zero_le _
  · split
    · exact Nat.zero_le _
    · exact sects_len hf _ _
theorem total_from (p : Plan) (l : List Nat) : ∀ n, l.foldl (fun n s => n + lenAt p s) n = n + total p l := by
  unfold total
  induction l with
  | nil => intro n; simp
  | cons s l ih =>
    intro n
    rw [List.foldl_cons, List.foldl_cons, ih, ih (0 + lenAt p s)]
    omega
theorem total_cons (p : Plan) (s : Nat) (l : List Nat) : total p (s :: l) = lenAt p s + total p l := by
  rw [show total p (s :: l) = l.foldl (fun n s => n + lenAt p s) (0 + lenAt p s) from rfl, total_from]
  omega
theorem total_snoc (p : Plan) (l : List Nat) (s : Nat) : total p (l ++ [s]) = total p l + lenAt p s := by
  unfold total
  rw [List.foldl_append]
  rfl
theorem total_bd {p : Plan} (hm : Lp.Meas p) : ∀ l : List Nat, 0 ≤ total p l ∧ total p l ≤ l.length * 1099511627776
  | [] => ⟨Int.le_refl _, Int.le_refl _⟩
  | s :: l => by
    have h1 := total_bd hm l
    have h2 := lenAt_bd hm s
    rw [total_cons, List.length_cons]
    refine ⟨by omega, ?_⟩
    rw [Int.natCast_add, Int.add_mul]
    omega
/-! ### All from which a train may come at all -/
end Go.Proofs.Ytbmmcmdopekccaa.Nr
/-
  Plain mathematics of layer 9: demands, by their points; what is asked of a point; whether two are opposed. No program is named here.
-/
namespace Go.Proofs.Ytbmmcmdopekccaa.Dm
open Go Pl Wk

structure Dem where
  pt : Int
  pos : Int
deriving DecidableEq
def posOf (l : List Dem) (k : Int) : Int := ((l.find? fun x => decide (x.pt = k)).map Dem.pos).getD 0
def low (k : Int) (x : Dem) : Bool := decide (x.pt < k)
def put (l : List Dem) (x : Dem) : List Dem := if posOf l x.pt ≠ 0 then l else l.takeWhile (low x.pt) ++ x :: l.dropWhile (low x.pt)
def opposed (a b : List Dem) : Bool := a.any fun x => decide (posOf b x.pt ≠ 0) && decide (posOf b x.pt ≠ x.pos)
/-- What steps ask of points. -/
def ofSteps (p : Plan) (l : List Stp) : List Dem := l.foldl (fun out x => if 0 < position p x then put out ⟨x.s, position p x⟩ else out) []

/-- Demands by their points, each point once, none for no position. -/
structure Good (l : List Dem) : Prop where
  rise : l.Pairwise fun x y => x.pt < y.pt
  some_ : ∀ x ∈ l, x.pos ≠ 0
theorem Good.nil : Good [] := ⟨.nil, fun _ h => (by cases h)⟩
theorem posOf_cons (x : Dem) (l : List Dem) (k : Int) : posOf (x :: l) k = if x.pt = k then x.pos else posOf l k := by
  unfold posOf
  rw [List.find?_cons]
  by_cases h : x.pt = k
  · rw [decide_eq_true h, if_pos h]; rfl
  · rw [decide_eq_false h, if_neg h]
theorem posOf_mem {l : List Dem} (h : l.Pairwise fun x y => x.pt < y.pt) {x : Dem} (hx : x ∈ l) : posOf l x.pt = x.pos := by
  induction l with
  | nil => cases hx
  | cons y l ih =>
    obtain ⟨h1, h2⟩ := List.pairwise_cons.1 h
    rw [posOf_cons]
    rcases List.mem_cons.1 hx with rfl | hx
    · rw [if_pos rfl]
    · have := h1 x hx
      rw [if_neg (by omega)]
      exact ih h2 hx
theorem Good.at {l : List Dem} (h : Good l) {x : Dem} (hx : x ∈ l) : posOf l x.pt = x.pos ∧ posOf l x.pt ≠ 0 := by
  have := posOf_mem h.rise hx
  exact ⟨this, by rw [this]; exact h.some_ x hx⟩
theorem Good.free {l : List Dem} (h : Good l) {k : Int} (hk : posOf l k = 0) : ∀ x ∈ l, x.pt ≠ k := fun x hx e => (h.at hx).2 (by rw [e]; exact hk)
theorem low_take {k : Int} : ∀ {l : List Dem}, ∀ x ∈ l.takeWhile (low k), x.pt < k
  | [], _, h => by cases h
  | y :: l, x, h => by
    rw [List.takeWhile_cons] at h
    split at h
    · rename_i hy
      rcases List.mem_cons.1 h with rfl | h
      · exact of_decide_eq_true hy
      · exact low_take x h
    · cases h
theorem low_drop {k : Int} : ∀ {l : List Dem}, l.Pairwise (fun x y => x.pt < y.pt) → ∀ x ∈ l.dropWhile (low k), k ≤ x.pt
  | [], _, _, h => by cases h
  | y :: l, hp, x, h => by
    obtain ⟨h1, h2⟩ := List.pairwise_cons.1 hp
    rw [List.dropWhile_cons] at h
    split at h
    · exact low_drop h2 x h
    · rename_i hy
      have hy' : ¬ y.pt < k := fun e => hy (decide_eq_true e)
      rcases List.mem_cons.1 h with rfl | h
      · omega
      · have := h1 x h; omega
/-- With one more, demands stand by their points as before. -/
theorem Good.put {l : List Dem} (h : Good l) {x : Dem} (hx : x.pos ≠ 0) : Good (Dm.put l x) := by
  unfold Dm.put
  split
  · exact h
  · rename_i h0
    have hf := h.free (Decidable.not_not.1 h0)
    have hl : l.takeWhile (low x.pt) ++ l.dropWhile (low x.pt) = l := List.takeWhile_append_dropWhile
    have hr := h.rise
    rw [← hl] at hr
    obtain ⟨r1, r2, r3⟩ := List.pairwise_append.1 hr
    refine ⟨List.pairwise_append.2 ⟨r1, List.pairwise_cons.2 ⟨fun y hy => ?_, r2⟩, fun y hy z hz => ?_⟩, fun y hy => ?_⟩
    · have h1 := low_drop h.rise y hy
      have h2 := hf y (by rw [← hl]; exact List.mem_append_right _ hy)
      omega
    · rcases List.mem_cons.1 hz with rfl | hz
      · exact low_take y hy
      · exact r3 y hy z hz
    · rcases List.mem_append.1 hy with hy | hy
      · exact h.some_ y (by rw [← hl]; exact List.mem_append_left _ hy)
      · rcases List.mem_cons.1 hy with rfl | hy
        · exact hx
        · exact h.some_ y (by rw [← hl]; exact List.mem_append_right _ hy)
end Go.Proofs.Ytbmmcmdopekccaa.Dm
/-
  Plain mathematics of layer 10: what protects a way from the side, by the document's search. No program is named here.
-/
namespace Go.Proofs.Ytbmmcmdopekccaa.Fl
open Go Pl Wk

/-- What a search has told so far. -/
structure G where
  pts : List Dm.Dem
  fl : List Int
  seen : List Int
def put (l : List Int) (n : Int) : List Int := if (l.dropWhile fun x => decide (x < n))[0]? = some n then l else (l.takeWhile fun x => decide (x < n)) ++ n :: l.dropWhile fun x => decide (x < n)
/-- Whether a search ends ahead of the section to which an end leads. -/
def ends_ (p : Plan) (own : List Stp) (s e : Int) (g : G) : Bool := !(next p s e).2.2 || (within own (next p s e).1 || (g.seen.any (fun x => decide (x = (next p s e).1)) || decide (g.seen.length = 8)))
def on (p : Plan) (own : List Stp) : Nat → Int → Int → G → G
  | 0, _, _, g => g
  | k + 1, s, e, g =>
    if ends_ p own s e g then g
    else if 0 ≤ signal p (next p s e).1 (next p s e).2.1 then { g with seen := g.seen ++ [(next p s e).1], fl := put g.fl (signal p (next p s e).1 (next p s e).2.1) }
    else if isPoint p (next p s e).1 = false then on p own k (next p s e).1 (1 - (next p s e).2.1) { g with seen := g.seen ++ [(next p s e).1] }
    else if (next p s e).2.1 = 0 then on p own k (next p s e).1 2 (on p own k (next p s e).1 1 { g with seen := g.seen ++ [(next p s e).1] })
    else if Dm.posOf g.pts (next p s e).1 = (next p s e).2.1 then on p own k (next p s e).1 0 { g with seen := g.seen ++ [(next p s e).1] }
    else if Dm.posOf g.pts (next p s e).1 = 0 then { g with seen := g.seen ++ [(next p s e).1], pts := Dm.put g.pts ⟨(next p s e).1, 3 - (next p s e).2.1⟩ }
    else { g with seen := g.seen ++ [(next p s e).1] }
def one (p : Plan) (own : List Stp) (g : G) (x : Stp) : G := if 0 < position p x then on p own 9 x.s (3 - position p x) { g with seen := [] } else g
def of (p : Plan) (own : List Stp) : G := own.foldl (one p own) ⟨Dm.ofSteps p own, [], []⟩

theorem put_len (l : List Int) (n : Int) : (put l n).length ≤ l.length + 1 := by
  unfold put
  split
  · omega
  · have h : (l.takeWhile fun x => decide (x < n)) ++ l.dropWhile (fun x => decide (x < n)) = l := List.takeWhile_append_dropWhile
    have := congrArg List.length h
    rw [List.length_append] at this
    rw [List.length_append, List.length_cons]
    omega
theorem ends_len {p : Plan} {own : List Stp} {s e : Int} {g : G} (h : ends_ p own s e g = false) : g.seen.length ≠ 8 := by
  unfold ends_ at h
  simp only [Bool.or_eq_false_iff] at h
  exact of_decide_eq_false h.2.2.2
theorem dm_put_len (L : List Dm.Dem) (x : Dm.Dem) : (Dm.put L x).length ≤ L.length + 1 := by
  unfold Dm.put
  split
  · omega
  · have h : L.takeWhile (Dm.low x.pt) ++ L.dropWhile (Dm.low x.pt) = L := List.takeWhile_append_dropWhile
    have := congrArg List.length h
    rw [List.length_append] at this
    rw [List.length_append, List.length_cons]
    omega
/-- How much a search adds: no more than it looks at. -/
structure Adds (g h : G) : Prop where
  more : g.seen.length ≤ h.seen.length
  most : g.seen.length ≤ 8 → h.seen.length ≤ 8
  pts : h.pts.length + g.seen.length ≤ g.pts.length + h.seen.length
  fl : h.fl.length + g.seen.length ≤ g.fl.length + h.seen.length
theorem Adds.refl (g : G) : Adds g g := ⟨Nat.le_refl _, fun h => h, Nat.le_refl _, Nat.le_refl _⟩
theorem Adds.trans {f g h : G} (a : Adds f g) (b : Adds g h) : Adds f h := by
  obtain ⟨a1, a2, a3, a4⟩ := a
  obtain ⟨b1, b2, b3, b4⟩ := b
  exact ⟨by omega, fun h => b2 (a2 h), by omega, by omega⟩
theorem Adds.see {g : G} (q : Int) (h8 : g.seen.length ≠ 8) : Adds g { g with seen := g.seen ++ [q] } := by
  have e : (g.seen ++ [q]).length = g.seen.length + 1 := by rw [List.length_append]; rfl
  exact ⟨by show _ ≤ (g.seen ++ [q]).length; omega, fun h => by show (g.seen ++ [q]).length ≤ 8; omega, by show g.pts.length + _ ≤ _ + (g.seen ++ [q]).length; omega, by show g.fl.length + _ ≤ _ + (g.seen ++ [q]).length; omega⟩
theorem on_adds (p : Plan) (own : List Stp) : ∀ (k : Nat) (s e : Int) (g : G), Adds g (on p own k s e g)
  | 0, _, _, g => Adds.refl g
  | k + 1, s, e, g => by
    unfold on
    by_cases h0 : ends_ p own s e g = true
    · rw [if_pos h0]; exact Adds.refl g
    rw [if_neg h0]
    have h8 := ends_len (Bool.eq_false_iff.2 h0)
    generalize hn : next p s e = w
    obtain ⟨q, f, ok⟩ := w
    have hs := Adds.see q h8
    have e1 : (g.seen ++ [q]).length = g.seen.length + 1 := by rw [List.length_append]; rfl
    simp only
    split
    · have := put_len g.fl (signal p q f)
      exact ⟨hs.more, hs.most, hs.pts, by show (put _ _).length + _ ≤ _ + (g.seen ++ [q]).length; omega⟩
    · split
      · exact hs.trans (on_adds p own k _ _ _)
      · split
        · exact (hs.trans (on_adds p own k _ _ _)).trans (on_adds p own k _ _ _)
        · split
          · exact hs.trans (on_adds p own k _ _ _)
          · split
            · have := dm_put_len g.pts ⟨q, 3 - f⟩
              exact ⟨hs.more, hs.most, by show (Dm.put _ _).length + _ ≤ _ + (g.seen ++ [q]).length; omega, hs.fl⟩
            · exact hs
/-- What a search leaves as it was. -/
structure Keeps (g h : G) : Prop where
  good : Dm.Good g.pts → Dm.Good h.pts
  same : Dm.Good g.pts → ∀ k, Dm.posOf g.pts k ≠ 0 → Dm.posOf h.pts k = Dm.posOf g.pts k
theorem Keeps.refl (g : G) : Keeps g g := ⟨fun h => h, fun _ _ _ => rfl⟩
theorem Keeps.trans {f g h : G} (a : Keeps f g) (b : Keeps g h) : Keeps f h :=
  ⟨fun x => b.good (a.good x), fun x k hk => by
    have h1 := a.same x k hk
    rw [b.same (a.good x) k (by rw [h1]; exact hk), h1]⟩
theorem of_len (p : Plan) (own : List Stp) : (of p own).pts.length ≤ (Dm.ofSteps p own).length + 8 * own.length ∧ (of p own).fl.length ≤ 8 * own.length := by
  have h : ∀ (l : List Stp) (g : G), (l.foldl (one p own) g).pts.length ≤ g.pts.length + 8 * l.length ∧ (l.foldl (one p own) g).fl.length ≤ g.fl.length + 8 * l.length := by
    intro l
    induction l with
    | nil => intro g; exact ⟨Nat.le_refl _, Nat.le_refl _⟩
    | cons x l ih =>
      intro g
      rw [List.foldl_cons, List.length_cons]
      have h1 := ih (one p own g x)
      have h2 : (one p own g x).pts.length ≤ g.pts.length + 8 ∧ (one p own g x).fl.length ≤ g.fl.length + 8 := by
        unfold one
        split
        · have ha := on_adds p own 9 x.s (3 - position p x) { g with seen := [] }
          have h3 := ha.most (Nat.zero_le _)
          have h4 := ha.pts
          have h5 := ha.fl
          simp only [List.length_nil, Nat.add_zero] at h4 h5
          exact ⟨by omega, by omega⟩
        · exact ⟨by omega, by omega⟩
      omega
  have := h own ⟨Dm.ofSteps p own, [], []⟩
  simp only [List.length_nil, Nat.zero_add] at this
  exact this
end Go.Proofs.Ytbmmcmdopekccaa.Fl
