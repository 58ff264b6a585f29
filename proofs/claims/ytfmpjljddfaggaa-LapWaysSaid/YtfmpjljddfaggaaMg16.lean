/-
  Texts of this claim, merged: CrFacts, CrWays, CrMem, CrSame, CrRef.
-/
import Derived.Test.YtfmpjljddfaggaaMg13
import Derived.Test.YtfmpjljddfaggaaMg14
import Derived.Test.YtfmpjljddfaggaaMg15
import Derived.BigQuiet
import Derived.Deep.CutRange
import Derived.Deep.RegionLaw
/-
  Plain mathematics of layer 7: what a search finds are ways, each one, in order; all of them, if it doesn't go too far; a station with a signal more is searched no farther. No program is named here.
-/
namespace Go.Proofs.Ytfmpjljddfaggaa.Cr
open Go Pl Wk

/-- From a section entered at an end, behind some steps, these steps go on, and end as a way does. -/
def Chain (p : Plan) (b : Int) : Int → Int → List Stp → List Stp → Int → Prop
  | _, _, _, [], _ => False
  | s, f, st, x :: t, e => (s ≠ b ∧ within st s = false ∧ x ∈ outs p s f) ∧ ((lasts p s x = true ∧ t = [] ∧ e = signal p s x.t) ∨ (lasts p s x = false ∧ Chain p b (next p s x.t).1 (next p s x.t).2.1 (st ++ [x]) t e))
/-- Two ways that a point's toe parts, the normal leg's first. -/
def Part (a b : Way) : Prop := ∃ l x y ta tb, a.steps = l ++ x :: ta ∧ b.steps = l ++ y :: tb ∧ x.s = y.s ∧ x.f = 0 ∧ y.f = 0 ∧ x.t = 1 ∧ y.t = 2
def Parts (x y : Stp) : Prop := x.s = y.s ∧ x.f = 0 ∧ y.f = 0 ∧ x.t = 1 ∧ y.t = 2
theorem outs_parts (p : Plan) (s f : Int) : (outs p s f).Pairwise Parts := by
  unfold outs
  split
  · exact .nil
  · split
    · split
      · exact List.pairwise_pair.2 ⟨rfl, rfl, rfl, rfl, rfl⟩
      · split
        · exact List.pairwise_singleton _ _
        · exact .nil
    · split
      · exact List.pairwise_singleton _ _
      · exact .nil
theorem outs_sec {p : Plan} {s f : Int} {x : Stp} (h : x ∈ outs p s f) : x.s = s := by
  unfold outs at h
  split at h
  · cases h
  · split at h
    · split at h
      · simp only [List.mem_cons, List.not_mem_nil, or_false] at h
        rcases h with rfl | rfl <;> rfl
      · split at h
        · rw [List.mem_singleton] at h; rw [h]
        · cases h
    · split at h
      · rw [List.mem_singleton] at h; rw [h]
      · cases h
/-- The ways that a search adds: so they go on, each one in its place. -/
def News (Q : Stp → List Stp → Int → Prop) (st : List Stp) (l : List Stp) (N : List Way) : Prop :=
  (∀ w ∈ N, ∃ x ∈ l, ∃ t, w.steps = st ++ x :: t ∧ Q x t w.exit) ∧ N.Pairwise Part
theorem fold_news (p : Plan) (go : Int → Int → List Stp → HSt → HSt) (s : Int) (st : List Stp) (Q : Stp → List Stp → Int → Prop) :
    ∀ (l : List Stp), l.Pairwise Parts → (∀ x ∈ l, ∀ h, ∃ N, (gone p go s st h x).out = h.out ++ N ∧ News Q st [x] N) → ∀ h, ∃ N, (l.foldl (gone p go s st) h).out = h.out ++ N ∧ News Q st l N
  | [], _, _, h => ⟨[], (List.append_nil _).symm, fun _ hw => (by cases hw), .nil⟩
  | x :: l, hp, hx, h => by
    obtain ⟨N1, o1, n1, m1⟩ := hx x (List.mem_cons_self ..) h
    obtain ⟨hxl, hl⟩ := List.pairwise_cons.1 hp
    obtain ⟨N2, o2, n2, m2⟩ := fold_news p go s st Q l hl (fun y hy => hx y (List.mem_cons_of_mem _ hy)) (gone p go s st h x)
    refine ⟨N1 ++ N2, by rw [List.foldl_cons, o2, o1, List.append_assoc], fun w hw => ?_, List.pairwise_append.2 ⟨m1, m2, fun a ha b hb => ?_⟩⟩
    · rcases List.mem_append.1 hw with hw | hw
      · obtain ⟨y, hy, t, h1, h2⟩ := n1 w hw
        rw [List.mem_singleton] at hy
        exact ⟨y, hy ▸ List.mem_cons_self .., t, h1, h2⟩
      · obtain ⟨y, hy, t, h1, h2⟩ := n2 w hw
        exact ⟨y, List.mem_cons_of_mem _ hy, t, h1, h2⟩
    · obtain ⟨y, hy, t, h1, -⟩ := n1 a ha
      obtain ⟨z, hz, u, h2, -⟩ := n2 b hb
      rw [List.mem_singleton] at hy
      subst hy
      exact ⟨st, y, z, t, u, h1, h2, hxl z hz⟩
/-- Behind a section entered: which steps a way may have. -/
def Goes (p : Plan) (b : Int) (k : Nat) (s f : Int) (st : List Stp) (x : Stp) (t : List Stp) (e : Int) : Prop := t.length < k ∧ Chain p b s f st (x :: t) e
theorem turns_false {b s : Int} {st : List Stp} {h : HSt} (ht : ¬ turns b s st h = true) : (came h).long = false ∧ s ≠ b ∧ within st s = false := by
  unfold turns at ht
  cases h1 : (came h).long <;> cases h2 : within st s <;> by_cases h3 : s = b <;> simp [h1, h2, h3] at ht
  exact ⟨rfl, h3, rfl⟩
theorem enter_news (p : Plan) (b : Int) : ∀ (k : Nat) (s f : Int) (st : List Stp) (h : HSt), ∃ N, (enter p b k s f st h).out = h.out ++ N ∧ News (Goes p b k s f st) st (outs p s f) N
  | 0, s, f, st, h => by
    unfold enter
    split
    · exact ⟨[], (List.append_nil _).symm, fun _ hw => (by cases hw), .nil⟩
    · exact ⟨[], (List.append_nil _).symm, fun _ hw => (by cases hw), .nil⟩
  | k + 1, s, f, st, h => by
    unfold enter
    split
    · exact ⟨[], (List.append_nil _).symm, fun _ hw => (by cases hw), .nil⟩
    · rename_i ht
      obtain ⟨-, hb, hw⟩ := turns_false ht
      refine fold_news p _ s st _ (outs p s f) (outs_parts p s f) (fun x hx h => ?_) (came h)
      unfold gone
      cases hl : lasts p s x with
      | true =>
        rw [if_pos rfl]
        refine ⟨_, rfl, fun w hw' => ?_, List.pairwise_singleton _ _⟩
        rw [List.mem_singleton] at hw'
        subst hw'
        exact ⟨x, List.mem_cons_self .., [], rfl, Nat.succ_pos _, ⟨hb, hw, hx⟩, .inl ⟨hl, rfl, rfl⟩⟩
      | false =>
        rw [if_neg (by decide)]
        obtain ⟨N, o, n, m⟩ := enter_news p b k (next p s x.t).1 (next p s x.t).2.1 (st ++ [x]) h
        refine ⟨N, o, fun w hw' => ?_, m⟩
        obtain ⟨y, -, t, h1, h2, h3⟩ := n w hw'
        exact ⟨x, List.mem_cons_self .., y :: t, by rw [h1, List.append_assoc]; rfl, by rw [List.length_cons]; omega, ⟨hb, hw, hx⟩, .inr ⟨hl, h3⟩⟩
/-- A station with a signal more: as the other one in all else. -/
structure More (p q : Plan) : Prop where
  outs : ∀ s f, outs q s f = outs p s f
  next : ∀ s e, next q s e = next p s e
  sig : ∀ s e, signal q s e = signal p s e ∨ 0 ≤ signal q s e
theorem More.lasts {p q : Plan} (h : More p q) {s : Int} {x : Stp} (hl : lasts p s x = true) : lasts q s x = true := by
  unfold Cr.lasts at hl ⊢
  rw [h.next]
  rcases h.sig s x.t with h1 | h1
  · rw [h1]; exact hl
  · rw [decide_eq_true h1, Bool.true_or]
theorem fold_less {p q : Plan} (hm : More p q) (b : Int) (k : Nat) (ih : ∀ s f st hp hq, hq.tries ≤ hp.tries → hq.long = false → (enter p b k s f st hp).long = false → (enter q b k s f st hq).long = false ∧ (enter q b k s f st hq).tries ≤ (enter p b k s f st hp).tries) (s : Int) (st : List Stp) :
    ∀ (l : List Stp) (hp hq : HSt), hq.tries ≤ hp.tries → hq.long = false → (l.foldl (gone p (enter p b k) s st) hp).long = false → (l.foldl (gone q (enter q b k) s st) hq).long = false ∧ (l.foldl (gone q (enter q b k) s st) hq).tries ≤ (l.foldl (gone p (enter p b k) s st) hp).tries
  | [], hp, hq, h1, h2, _ => ⟨h2, h1⟩
  | x :: l, hp, hq, h1, h2, h3 => by
    rw [List.foldl_cons, List.foldl_cons]
    rw [List.foldl_cons] at h3
    have hx : (gone p (enter p b k) s st hp x).long = false := by
      cases hc : (gone p (enter p b k) s st hp x).long with
      | false => rfl
      | true => rw [(fold_grows p b k s st l _).2.1 hc] at h3; cases h3
    have : (gone q (enter q b k) s st hq x).long = false ∧ (gone q (enter q b k) s st hq x).tries ≤ (gone p (enter p b k) s st hp x).tries := by
      unfold gone at hx ⊢
      cases hl : lasts p s x with
      | true =>
        rw [if_pos rfl, if_pos (hm.lasts hl)]
        exact ⟨h2, h1⟩
      | false =>
        rw [hl] at hx
        simp only [Bool.false_eq_true, if_false] at hx ⊢
        cases hlq : lasts q s x with
        | true =>
          rw [if_pos rfl]
          exact ⟨h2, Nat.le_trans h1 (enter_grows p b k _ _ _ _).1⟩
        | false =>
          rw [if_neg (by decide), hm.next]
          exact ih _ _ _ _ _ h1 h2 hx
    exact fold_less hm b k ih s st l _ _ this.2 this.1 h3
theorem came_less {hp hq : HSt} (h1 : hq.tries ≤ hp.tries) (h2 : hq.long = false) (h3 : (came hp).long = false) : (came hq).long = false := by
  unfold came at h3 ⊢
  simp only [Bool.or_eq_false_iff, decide_eq_false_iff_not] at h3 ⊢
  exact ⟨h2, by omega⟩
theorem enter_less {p q : Plan} (hm : More p q) (b : Int) : ∀ (k : Nat) (s f : Int) (st : List Stp) (hp hq : HSt), hq.tries ≤ hp.tries → hq.long = false → (enter p b k s f st hp).long = false → (enter q b k s f st hq).long = false ∧ (enter q b k s f st hq).tries ≤ (enter p b k s f st hp).tries
  | 0, s, f, st, hp, hq, h1, h2, h3 => by
    unfold enter at h3 ⊢
    split at h3
    · rename_i ht
      have hc := came_less h1 h2 h3
      unfold turns at ht
      rw [h3, Bool.false_or] at ht
      rw [if_pos (show turns b s st hq = true by unfold turns; rw [ht, Bool.or_true]), if_pos (show turns b s st hp = true by unfold turns; rw [ht, Bool.or_true])]
      exact ⟨hc, Nat.succ_le_succ h1⟩
    · cases h3
  | k + 1, s, f, st, hp, hq, h1, h2, h3 => by
    unfold enter at h3 ⊢
    split at h3
    · rename_i ht
      have hc := came_less h1 h2 h3
      unfold turns at ht
      rw [h3, Bool.false_or] at ht
      rw [if_pos (show turns b s st hq = true by unfold turns; rw [ht, Bool.or_true]), if_pos (show turns b s st hp = true by unfold turns; rw [ht, Bool.or_true])]
      exact ⟨hc, Nat.succ_le_succ h1⟩
    · rename_i ht
      obtain ⟨hc, hb, hw⟩ := turns_false ht
      have hc' := came_less h1 h2 hc
      rw [if_neg ht, if_neg (show ¬ turns b s st hq = true by unfold turns; rw [hc', decide_eq_false hb, hw]; decide), hm.outs]
      exact fold_less hm b k (fun s f st hp hq => enter_less hm b k s f st hp hq) s st (outs p s f) _ _ (Nat.succ_le_succ h1) hc' h3
end Go.Proofs.Ytfmpjljddfaggaa.Cr
/-
  Plain mathematics of layer 7: each way from a signal, step by step; where two part; what a signal more does. No program is named here.
-/
namespace Go.Proofs.Ytfmpjljddfaggaa.Cr
open Go Pl Wk

theorem of_some {p : Plan} {i : Int} {g : Sig} (hg : sigAt p i = some g) : of p i = ofSig p g := by unfold of; rw [hg]
theorem of_none {p : Plan} {i : Int} (hg : sigAt p i = none) : of p i = ([], 4) := by unfold of; rw [hg]
theorem ofSig_ways (p : Plan) (g : Sig) : ((ofSig p g).2 = 10 ∧ (ofSig p g).1 = []) ∨ ((ofSig p g).2 = 0 ∧ (hunt p g).long = false ∧ (ofSig p g).1 = (hunt p g).out) := by
  unfold ofSig
  cases h : (hunt p g).long with
  | true => exact .inl ⟨rfl, rfl⟩
  | false => exact .inr ⟨rfl, rfl, rfl⟩
theorem hunt_news (p : Plan) (g : Sig) : (∀ w ∈ (hunt p g).out, (next p g.sec g.en).2.2 = true ∧ w.steps.length ≤ 16 ∧ Chain p g.sec (next p g.sec g.en).1 (next p g.sec g.en).2.1 [] w.steps w.exit) ∧ (hunt p g).out.Pairwise Part := by
  unfold hunt
  cases hn : (next p g.sec g.en).2.2 with
  | false => exact ⟨fun w hw => (by cases hw), .nil⟩
  | true =>
    rw [if_pos rfl]
    obtain ⟨N, o, n, m⟩ := enter_news p g.sec 16 (next p g.sec g.en).1 (next p g.sec g.en).2.1 [] hunt0
    rw [show hunt0.out = [] from rfl, List.nil_append] at o
    rw [o]
    refine ⟨fun w hw => ⟨rfl, ?_⟩, m⟩
    obtain ⟨x, -, t, h1, h2, h3⟩ := n w hw
    rw [List.nil_append] at h1
    rw [h1]
    exact ⟨by rw [List.length_cons]; omega, h3⟩
theorem hunt_len (p : Plan) (g : Sig) : (hunt p g).out.length ≤ 65536 := by
  unfold hunt
  split
  · have := (enter_le p g.sec 16 (next p g.sec g.en).1 (next p g.sec g.en).2.1 [] hunt0).2
    rw [show hunt0.out.length = 0 from rfl] at this
    omega
  · exact Nat.zero_le _
theorem of_len (p : Plan) (i : Int) : (of p i).1.length ≤ 65536 := by
  unfold of
  split
  · exact Nat.zero_le _
  · rename_i g _
    rcases ofSig_ways p g with ⟨-, h⟩ | ⟨-, -, h⟩
    · rw [h]; exact Nat.zero_le _
    · rw [h]; exact hunt_len p g
theorem of_way {p : Plan} {g : Sig} {w : Way} (hw : w ∈ (ofSig p g).1) : (ofSig p g).2 = 0 ∧ (next p g.sec g.en).2.2 = true ∧ w.steps.length ≤ 16 ∧ Chain p g.sec (next p g.sec g.en).1 (next p g.sec g.en).2.1 [] w.steps w.exit := by
  rcases ofSig_ways p g with ⟨-, h⟩ | ⟨h0, -, h⟩
  · rw [h] at hw; cases hw
  · rw [h] at hw
    exact ⟨h0, (hunt_news p g).1 w hw⟩
theorem of_steps {p : Plan} {i : Int} {w : Way} (hw : w ∈ (of p i).1) : w.steps.length ≤ 16 := by
  unfold of at hw
  split at hw
  · cases hw
  · exact (of_way hw).2.2.1
/-- Where one stands behind k steps of a way: it goes on from there, or ends there. -/
def Reach (p : Plan) (b : Int) (w : Way) (k : Nat) (at_ en : Int) : Prop :=
  (k < w.steps.length ∧ (next p at_ en).2.2 = true ∧ Chain p b (next p at_ en).1 (next p at_ en).2.1 (w.steps.take k) (w.steps.drop k) w.exit) ∨
    (k = w.steps.length ∧ (0 ≤ signal p at_ en ∨ (next p at_ en).2.2 = false) ∧ w.exit = signal p at_ en)
theorem chain_pos {p : Plan} {b s f : Int} {st t : List Stp} {e : Int} (h : Chain p b s f st t e) : 0 < t.length := by
  cases t with
  | nil => unfold Chain at h; exact h.elim
  | cons x t => exact Nat.succ_pos _
theorem lasts_false {p : Plan} {s : Int} {x : Stp} (h : lasts p s x = false) : signal p s x.t < 0 ∧ (next p s x.t).2.2 = true := by
  unfold lasts at h
  rw [Bool.or_eq_false_iff] at h
  exact ⟨by have := of_decide_eq_false h.1; omega, by simpa using h.2⟩
theorem lasts_true {p : Plan} {s : Int} {x : Stp} (h : lasts p s x = true) : 0 ≤ signal p s x.t ∨ (next p s x.t).2.2 = false := by
  unfold lasts at h
  rw [Bool.or_eq_true] at h
  rcases h with h | h
  · exact .inl (of_decide_eq_true h)
  · exact .inr (by simpa using h)
theorem reach_next {p : Plan} {b : Int} {w : Way} {k : Nat} {at_ en : Int} (h : Reach p b w k at_ en) {y : Stp} (hy : w.steps[k]? = some y) :
    (next p at_ en).2.2 = true ∧ y ∈ outs p (next p at_ en).1 (next p at_ en).2.1 ∧ y.s ≠ b ∧ within (w.steps.take k) y.s = false ∧ (k + 1 < w.steps.length → signal p y.s y.t < 0) ∧ Reach p b w (k + 1) y.s y.t := by
  have hlt := (List.getElem?_eq_some_iff.1 hy).1
  rcases h with ⟨-, h1, h2⟩ | ⟨h1, -⟩
  · have hd : w.steps.drop k = y :: w.steps.drop (k + 1) := by
      rw [List.drop_eq_getElem_cons hlt]
      rw [(List.getElem?_eq_some_iff.1 hy).2]
    have ht : w.steps.take (k + 1) = w.steps.take k ++ [y] := by
      rw [List.take_add_one, hy]; rfl
    rw [hd] at h2
    unfold Chain at h2
    obtain ⟨⟨g1, g2, g3⟩, g4⟩ := h2
    have hs := outs_sec g3
    rw [← hs] at g1 g2 g4
    refine ⟨h1, g3, g1, g2, ?_, ?_⟩
    · intro hk
      rcases g4 with ⟨-, h5, -⟩ | ⟨h5, -⟩
      · have := congrArg List.length h5
        rw [List.length_drop, List.length_nil] at this
        omega
      · exact (lasts_false h5).1
    · rcases g4 with ⟨h5, h6, h7⟩ | ⟨h5, h6⟩
      · refine .inr ⟨?_, lasts_true h5, h7⟩
        have := congrArg List.length h6
        rw [List.length_drop, List.length_nil] at this
        omega
      · refine .inl ⟨?_, (lasts_false h5).2, by rw [ht]; exact h6⟩
        have := chain_pos h6
        rw [List.length_drop] at this
        omega
  · omega
theorem reach_end {p : Plan} {b : Int} {w : Way} {at_ en : Int} (h : Reach p b w w.steps.length at_ en) : (0 ≤ signal p at_ en ∨ (next p at_ en).2.2 = false) ∧ w.exit = signal p at_ en := by
  rcases h with ⟨h1, -⟩ | ⟨-, h2⟩
  · omega
  · exact h2
end Go.Proofs.Ytfmpjljddfaggaa.Cr
/-
  Ways in memory: rows whose elements' steps lie elsewhere; a frame by the blocks' types. No function of the program is named here.
-/
namespace Go.Proofs.Ytfmpjljddfaggaa
open Go.RowKit

/-- A way in memory: where its steps lie. -/
structure WayM where
  A : Option Addr
  c : Nat
  way : Cr.Way
def LWay : Lies WayM := ⟨2, by decide, fun m => [.slice m.A m.way.steps.length m.c, .int .i64 m.way.exit], fun _ => rfl, fun y u hu => by
  simp at hu
  rcases hu with rfl | rfl <;> rfl⟩
theorem way_on {w : World} {b o : Nat} {m : WayM} (h : LWay.On w b o m) : w.cell? ⟨b, o, none⟩ = some (.slice m.A m.way.steps.length m.c) ∧ w.cell? ⟨b, o + 1, none⟩ = some (.int .i64 m.way.exit) :=
  ⟨h 0 _ rfl, h 1 _ rfl⟩
/-- Ways lie there. -/
def WaysIn (w : World) (A : Option Addr) (L : List Cr.Way) : Prop := ∃ M : List WayM, M.map WayM.way = L ∧ LWay.Row w A M ∧ ∀ m ∈ M, LStp.Row w m.A m.way.steps ∧ m.way.steps.length ≤ m.c
theorem WaysIn.nil (w : World) (A : Option Addr) : WaysIn w A [] := ⟨[], rfl, .inl rfl, fun _ h => (by cases h)⟩
theorem WaysIn.below {w w' : World} {A : Option Addr} {L : List Cr.Way} (h : WaysIn w A L) (hb : Below w.heap.size w w') : WaysIn w' A L := by
  obtain ⟨M, h1, h2, h3⟩ := h
  exact ⟨M, h1, h2.below rfl hb, fun m hm => ⟨(h3 m hm).1.below rfl hb, (h3 m hm).2⟩⟩
/-- A way of those. -/
theorem WaysIn.at {w : World} {A : Option Addr} {L : List Cr.Way} (h : WaysIn w A L) {k : Nat} {y : Cr.Way} (hk : L[k]? = some y) : ∃ b o S d, A = some ⟨b, o, none⟩ ∧ b < w.heap.size ∧ w.cell? ⟨b, o + k * 2, none⟩ = some (.slice S y.steps.length d) ∧ w.cell? ⟨b, o + k * 2 + 1, none⟩ = some (.int .i64 y.exit) ∧ LStp.Row w S y.steps ∧ y.steps.length ≤ d := by
  obtain ⟨M, rfl, h2, h3⟩ := h
  rw [List.getElem?_map] at hk
  cases hm : M[k]? with
  | none => rw [hm] at hk; cases hk
  | some m =>
    rw [hm] at hk
    obtain rfl : m.way = y := Option.some.inj hk
    obtain ⟨hlt, hmk⟩ := List.getElem?_eq_some_iff.1 hm
    obtain ⟨b, o, hA, hb, on⟩ := h2.at hlt
    rw [hmk] at on
    obtain ⟨c0, c1⟩ := way_on on
    exact ⟨b, o, m.A, m.c, hA, hb, c0, c1, h3 m (List.mem_of_getElem? hm)⟩
/-- Ways that a call leaves, and an error's number. -/
def WaysYes (x : List Cr.Way × Int) (w : World) (e : Ending) (w' : World) : Prop := ∃ A c, e = .returned (.tuple #[.slice A x.1.length c, .int .i64 x.2]) ∧ WaysIn w' A x.1 ∧ Below w.heap.size w w'
/-- The first of some steps. -/
theorem row_take {w : World} {A : Option Addr} {L : List Wk.Stp} (h : LStp.Row w A L) (k : Nat) : LStp.Row w A (L.take k) := by
  rcases h with rfl | ⟨b, o, hA, hb, h⟩
  · exact .inl List.take_nil
  · refine .inr ⟨b, o, hA, hb, fun j y hj => h j y ?_⟩
    rw [List.getElem?_take] at hj
    split at hj
    · exact hj
    · cases hj
/-- Steps of the call's own. -/
def OwnS (base : Nat) (w : World) (A : Option Addr) (c : Nat) (L : List Wk.Stp) : Prop := w.ownsRow base 47 3 (.slice A L.length c) L.length (LStp.all L)
theorem OwnS.row {base : Nat} {w : World} {A : Option Addr} {c : Nat} {L : List Wk.Stp} (h : OwnS base w A c L) : LStp.Row w A L := by
  obtain ⟨-, B, d, hv, -, hR⟩ := Lies.Row.of_own (E := LStp) h
  cases hv
  exact hR
theorem OwnS.cap {base : Nat} {w : World} {A : Option Addr} {c : Nat} {L : List Wk.Stp} (h : OwnS base w A c L) : L.length ≤ c := by
  obtain ⟨-, B, d, hv, hc, -⟩ := Lies.Row.of_own (E := LStp) h
  cases hv
  exact hc
/-- Blocks of other types than these two stay as they were. -/
structure Tame (tH tW : TypeId) (w w' : World) : Prop where
  os : w'.os = w.os
  tape : w'.tape = w.tape
  output : w'.output = w.output
  size : w.heap.size ≤ w'.heap.size
  block : ∀ (b : Nat) (cs : Array Value) (t : TypeId) (fr : Nat × Nat), w.heap[b]? = some (Obj.cells cs t fr) → t ≠ tH → t ≠ tW → w'.heap[b]? = some (Obj.cells cs t fr)
theorem Tame.refl (tH tW : TypeId) (w : World) : Tame tH tW w w := ⟨rfl, rfl, rfl, Nat.le_refl _, fun _ _ _ _ h _ _ => h⟩
theorem Tame.trans {tH tW : TypeId} {a b c : World} (h : Tame tH tW a b) (h' : Tame tH tW b c) : Tame tH tW a c :=
  ⟨h'.os.trans h.os, h'.tape.trans h.tape, h'.output.trans h.output, Nat.le_trans h.size h'.size, fun k cs t fr hk h1 h2 => h'.block k cs t fr (h.block k cs t fr hk h1 h2) h1 h2⟩
theorem Below.tame {w w' : World} (h : Below w.heap.size w w') (tH tW : TypeId) : Tame tH tW w w' :=
  ⟨h.os, h.tape, h.output, h.size, fun b cs t fr hb _ _ => by rw [h.block b (Array.getElem?_eq_some_iff.1 hb).1]; exact hb⟩
theorem own_tame {tH tW : TypeId} {w w' : World} {base : Nat} {e : TypeId} {size : Nat} {v : Value} {n : Nat} {xs : List Value} (h : w.ownsRow base e size v n xs) (ht : Tame tH tW w w') (h1 : e ≠ tH) (h2 : e ≠ tW) : w'.ownsRow base e size v n xs := by
  refine ⟨h.1, ?_⟩
  rcases h.2 with hn | ⟨g, cap, cur, rfl, hb, hg, rest⟩
  · exact .inl hn
  · exact .inr ⟨g, cap, cur, rfl, hb, ht.block g cur e (0, 0) hg h1 h2, rest⟩
/-- Two rows of unlike types lie apart. -/
theorem own_types {w : World} {base base' : Nat} {e e' : TypeId} {size size' : Nat} {v v' : Value} {n n' : Nat} {xs xs' : List Value} (h : w.ownsRow base e size v n xs) (h' : w.ownsRow base' e' size' v' n' xs') (he : e ≠ e') (b : Nat) (hb : v.ownBlock = some b) : v'.ownBlock ≠ some b := fun hb' => by
  rcases h.2 with ⟨rfl, -⟩ | ⟨g, cap, cur, rfl, -, hg, -⟩
  · cases hb
  · rcases h'.2 with ⟨rfl, -⟩ | ⟨g', cap', cur', rfl, -, hg', -⟩
    · cases hb'
    · obtain rfl : g = b := Option.some.inj hb
      obtain rfl : g' = g := Option.some.inj hb'
      rw [hg] at hg'
      cases hg'
      exact he rfl
/-- A block of another type lies apart from a row. -/
theorem own_block {w : World} {base : Nat} {e t : TypeId} {size : Nat} {v : Value} {n : Nat} {xs : List Value} {g : Nat} {cs : Array Value} (h : w.ownsRow base e size v n xs) (hg : w.heap[g]? = some (.cells cs t (0, 0))) (he : e ≠ t) : v.ownBlock ≠ some g := fun hb => by
  rcases h.2 with ⟨rfl, -⟩ | ⟨g', cap, cur, rfl, -, hg', -⟩
  · cases hb
  · obtain rfl : g' = g := Option.some.inj hb
    rw [hg] at hg'
    cases hg'
    exact he rfl
end Go.Proofs.Ytfmpjljddfaggaa
/-
  The walks of the document's answers of layer 7: are steps the same, are ways the same?
-/
namespace Go.Proofs.Ytfmpjljddfaggaa
open Go.RowKit

theorem same_all {α : Type} {L M : List α} (hl : L.length = M.length) (h : ∀ j < L.length, L[j]? = M[j]?) : L = M := by
  apply List.ext_getElem?
  intro i
  by_cases hi : i < L.length
  · exact h i hi
  · rw [List.getElem?_eq_none (by omega), List.getElem?_eq_none (by omega)]
set_option maxHeartbeats 4000000 in
set_option maxRecDepth 100000 in
/-- Are steps the same, wherever they lie? -/
theorem rwSame_all (L M : List Wk.Stp) (A : Option Addr) (c : Nat) (B : Option Addr) (d : Nat) (w : World) (hA : LStp.Row w A L) (hB : LStp.Row w B M) (hl : L.length ≤ 100000) :
    Calls Try.prog 12 #[.slice A L.length c, .slice B M.length d] w fun e w' => e = .returned (.bool (decide (L = M))) ∧ Below w.heap.size w w' := by
  --[
  by_cases hlen : L.length = M.length
  · have IA := Lib.hid hA
    have IB := Lib.hid hB
    have HL := Lib.hid hlen
    rw [← hlen]
    clear hA hB hlen
    go_enter Try.func12, Try.ntmps12
    go_wp2_with fail
    go_loopw [5] (fun i wr => ∃ k : Nat, k ≤ L.length ∧ i = .int .i64 k ∧ Below w.heap.size w wr ∧ ∀ j < k, L[j]? = M[j]?) (fun i _ => L.length - (intOf i).toNat)
    case atStart => exact ⟨0, Nat.zero_le _, rfl, Below.refl _ _, fun j hj => absurd hj (Nat.not_lt_zero _)⟩
    case round =>
      obtain ⟨k, hk, rfl, hB, h0⟩ := hrel
      have HB := Lib.hid hB
      have H0 := Lib.hid h0
      clear hB h0
      by_cases hlt : k < L.length
      · have hs := List.getElem?_eq_getElem hlt
        have ht := List.getElem?_eq_getElem (show k < M.length by have := HL.out; omega)
        obtain ⟨b, o, rfl, hb, on⟩ := (IA.out.below rfl HB.out).at hlt
        obtain ⟨b', o', rfl, hb', on'⟩ := (IB.out.below rfl HB.out).at (show k < M.length by have := HL.out; omega)
        generalize L[k] = s at hs on
        generalize M[k]'(by have := HL.out; omega) = t at ht on'
        obtain ⟨a0, a1, a2⟩ := stp_on on
        obtain ⟨c0, c1, c2⟩ := stp_on on'
        rw [show k * LStp.m = k * 3 from rfl] at a0 a1 a2 c0 c1 c2
        have HS := Lib.hid hs
        have HT := Lib.hid ht
        clear on on' hs ht
        by_cases he : s = t
        · have Q := fun W => (ne_stps W s t).trans (by rw [decide_eq_true he])
          have N := Lib.hid (fun j (hj : j < k + 1) => (show L[j]? = M[j]? from by
            by_cases hjk : j = k
            · subst hjk
              rw [HS.out, HT.out, he]
            · exact H0.out j (by omega)))
          clear he
          go_wp2_with fail
          go_quiet (fail)
          go_wp2_with fail
          go_roundw
          case rel => exact ⟨k + 1, by omega, by go_num, below_drewN HB.out _, N.out⟩
          case measure => simp [intOf]; omega
        · have Q := fun W => (ne_stps W s t).trans (by rw [decide_eq_false he])
          have N := Lib.hid (show decide (L = M) = false from decide_eq_false fun h => he (by
            have := HS.out
            rw [h, HT.out] at this
            exact (Option.some.inj this).symm))
          clear he
          go_wp2_with fail
          go_quiet (fail)
          go_wp2_with fail
          go_ret
          exact ⟨by rw [N.out]; rfl, below_drewN HB.out _⟩
      · obtain rfl : k = L.length := by omega
        have N := Lib.hid (show decide (L = M) = true from decide_eq_true (same_all HL.out H0.out))
        go_wp2_with fail
        go_ret
        exact ⟨by rw [N.out]; rfl, HB.out⟩
  · have D : ((L.length : Int) != (M.length : Int)) = true := by
      rw [bne_iff_ne]; omega
    have N := Lib.hid (show decide (L = M) = false from decide_eq_false fun h => hlen (by rw [h]))
    clear hlen hA hB
    go_enter Try.func12, Try.ntmps12
    go_wp2_with fail
    go_ret
    exact ⟨by rw [N.out]; rfl, Below.refl _ _⟩
  --]
end Go.Proofs.Ytfmpjljddfaggaa
/-
  The walk of the document's search of layer 7: it enters section by section.
-/
namespace Go.Proofs.Ytfmpjljddfaggaa
open Go.RowKit

/-- Steps of the call's own that it leaves. -/
def StepsOwn (L : List Wk.Stp) (w : World) (e : Ending) (w' : World) : Prop := ∃ A c, e = .returned (.slice A L.length c) ∧ OwnS w.heap.size w' A c L ∧ Below w.heap.size w w'
/-- A block of steps that was laid just now. -/
theorem own_fresh (w : World) (base : Nat) (L : List Wk.Stp) (hb : base ≤ w.heap.size) (hl : L.length ≤ 1000) : OwnS base (w.alloc (.cells (LStp.all L).toArray 47)) (some ⟨w.heap.size, 0, none⟩) L.length L := by
  refine ⟨LStp.all_len L, .inr ⟨w.heap.size, L.length, (LStp.all L).toArray, rfl, hb, heap_alloc_new _ _, Nat.le_refl _, by unfold maxLen; omega, ?_, ?_⟩⟩
  · rw [List.size_toArray]; exact LStp.all_len L
  · exact List.take_of_length_le (by rw [show L.length * 3 = (LStp.all L).length from (LStp.all_len L).symm]; exact Nat.le_refl _)
theorem own_one (w : World) (y : Wk.Stp) {g base : Nat} (hg : w.heap.size = g) (hb : base ≤ g := by simp) : OwnS base (w.alloc (.cells #[.int .i64 y.s, .int .i64 y.f, .int .i64 y.t] 47)) (some ⟨g, 0, none⟩) 1 [y] := hg ▸ own_fresh w base [y] (hg ▸ hb) (by simp)
theorem own_two (w : World) (y z : Wk.Stp) {g base : Nat} (hg : w.heap.size = g) (hb : base ≤ g := by simp) : OwnS base (w.alloc (.cells #[.int .i64 y.s, .int .i64 y.f, .int .i64 y.t, .int .i64 z.s, .int .i64 z.f, .int .i64 z.t] 47)) (some ⟨g, 0, none⟩) 2 [y, z] := hg ▸ own_fresh w base [y, z] (hg ▸ hb) (by simp)
set_option maxHeartbeats 8000000 in
set_option maxRecDepth 100000 in
theorem rwOuts_own (p : Pl.Plan) (A : Option Addr) (c : Nat) (A' : Option Addr) (c' : Nat) (s f : Int) (w : World) (h : PlanIn w p A A') :
    Calls Try.prog 16 #[planV p A c A' c', .int .i64 s, .int .i64 f] w (StepsOwn (Wk.outs p s f) w) := by
  have R0 := heap_alloc_new w (planO p A c A' c')
  have XX := (Below.refl w.heap.size w).alloc (Nat.le_refl _) (planO p A c A' c')
  have X0 := Lib.hid XX
  obtain ⟨⟨-, -, -, -, p4, -⟩, -, gp⟩ := row6 R0
  have HI := Lib.hid (h.below XX)
  clear R0 XX h
  rcases Wk.sec_ways p s with ⟨hs, hn⟩ | ⟨k, rfl, ⟨hk, hn⟩ | ⟨x, hx, hn⟩⟩
  · have D : decide (s < 0) = true := dec_t hs
    have E : Wk.outs p s f = [] := by unfold Wk.outs; rw [hn]
    rw [E]
    clear hs hn E
    go_enter Try.func16, Try.ntmps16
    go_wp2_with fail
    go_ret
    exact ⟨none, 0, rfl, World.ownsRow_nil _ _ _ _, X0.out⟩
  · have D0 : decide ((k : Int) < 0) = false := dec_f (by omega)
    have D1 : decide ((p.secs.length : Int) ≤ (k : Int)) = true := dec_t (by omega)
    have E : Wk.outs p k f = [] := by unfold Wk.outs; rw [hn]
    rw [E]
    clear hn E
    go_enter Try.func16, Try.ntmps16
    go_wp2_with fail
    go_ret
    exact ⟨none, 0, rfl, World.ownsRow_nil _ _ _ _, X0.out⟩
  · have hlt : k < p.secs.length := (List.getElem?_eq_some_iff.1 hx).1
    have D0 : decide ((k : Int) < 0) = false := dec_f (by omega)
    have D1 : decide ((p.secs.length : Int) ≤ (k : Int)) = false := dec_f (by omega)
    have N1 : ¬ p.secs.length ≤ k := by omega
    obtain ⟨b, o, rfl, hb, on⟩ := sec_cells HI.out.1 hx
    obtain ⟨-, a1, -⟩ := sec_on on
    have E : Wk.outs p k f = if x.pt then (if f = 0 then [⟨k, 0, 1⟩, ⟨k, 0, 2⟩] else if f = 1 ∨ f = 2 then [⟨k, f, 0⟩] else []) else if f = 0 ∨ f = 1 then [⟨k, f, 1 - f⟩] else [] := by unfold Wk.outs; rw [hn]
    rw [E]
    have X1 := Lib.hid (X0.out.alloc X0.out.size)
    clear hn on hx E
    cases hpt : x.pt
    · rw [hpt] at a1
      rw [if_neg (by decide)]
      clear hpt
      by_cases h0 : f = 0
      · subst h0
        rw [if_pos (.inl rfl)]
        go_enter Try.func16, Try.ntmps16
        go_wp2_with fail
        go_ret
        exact ⟨_, _, rfl, own_one (w.alloc (planO p (some ⟨b, o, none⟩) c A' c')) ⟨k, 0, 1⟩ (by simp), X1.out _⟩
      by_cases h1 : f = 1
      · subst h1
        rw [if_pos (.inr rfl)]
        clear h0
        go_enter Try.func16, Try.ntmps16
        go_wp2_with fail
        go_ret
        exact ⟨_, _, rfl, own_one (w.alloc (planO p (some ⟨b, o, none⟩) c A' c')) ⟨k, 1, 0⟩ (by simp), X1.out _⟩
      have d0 : (f == 0) = false := by rw [beq_eq_false_iff_ne]; exact h0
      have d1 : (f == 1) = false := by rw [beq_eq_false_iff_ne]; exact h1
      rw [if_neg (by omega)]
      clear h0 h1
      go_enter Try.func16, Try.ntmps16
      go_wp2_with fail
      go_ret
      exact ⟨none, 0, rfl, World.ownsRow_nil _ _ _ _, X0.out⟩
    · rw [hpt] at a1
      rw [if_pos rfl]
      clear hpt
      by_cases h0 : f = 0
      · subst h0
        rw [if_pos rfl]
        go_enter Try.func16, Try.ntmps16
        go_wp2_with fail
        go_ret
        exact ⟨_, _, rfl, own_two (w.alloc (planO p (some ⟨b, o, none⟩) c A' c')) ⟨k, 0, 1⟩ ⟨k, 0, 2⟩ (by simp), X1.out _⟩
      rw [if_neg h0]
      by_cases h1 : f = 1
      · subst h1
        rw [if_pos (.inl rfl)]
        clear h0
        go_enter Try.func16, Try.ntmps16
        go_wp2_with fail
        go_ret
        exact ⟨_, _, rfl, own_one (w.alloc (planO p (some ⟨b, o, none⟩) c A' c')) ⟨k, 1, 0⟩ (by simp), X1.out _⟩
      by_cases h2 : f = 2
      · subst h2
        rw [if_pos (.inr rfl)]
        clear h0 h1
        go_enter Try.func16, Try.ntmps16
        go_wp2_with fail
        go_ret
        exact ⟨_, _, rfl, own_one (w.alloc (planO p (some ⟨b, o, none⟩) c A' c')) ⟨k, 2, 0⟩ (by simp), X1.out _⟩
      have d0 : (f == 0) = false := by rw [beq_eq_false_iff_ne]; exact h0
      have d1 : (f == 1) = false := by rw [beq_eq_false_iff_ne]; exact h1
      have d2 : (f == 2) = false := by rw [beq_eq_false_iff_ne]; exact h2
      rw [if_neg (by omega)]
      clear h0 h1 h2
      go_enter Try.func16, Try.ntmps16
      go_wp2_with fail
      go_ret
      exact ⟨none, 0, rfl, World.ownsRow_nil _ _ _ _, X0.out⟩

/-- append, as one step of a region that draws: a row that is nil or lies somewhere, onto a slice of the call's own. -/
theorem step_append_rows {P : Program} {w : World} {ops : Array Oper} {o : Oper} {a : Act} {K : Act → World → Prop} {Q : Exit → Act → World → Prop} {E : Prop} (hgd : o.guard = none) (s x : Operand) (t : TypeId)
    (ho : o.op = .call { callee := .builtin .append, args := #[s, x], argTypes := #[t, t] })
    (base : Nat) (e : TypeId) (i : TypeInfo) (z : Value) (size bytes : Nat) (ht : P.underlying t = some (.slice e)) (hi : P.info? e = some i) (hz : i.zero = some z)
    (hsize : i.size = size) (hby : i.bytes = bytes) (hzs : z.cells.size = size) (hsz : 0 < size)
    (v : Value) (n : Nat) (xs : List Value) (hs : a.eval s = v) (hown : w.ownsRow base e size v n xs)
    (base2 : Nat) (u : Value) (m : Nat) (ys : List Value) (hx : a.eval x = u) (hou : w.ownsRow base2 e size u m ys) (hys : ∀ y ∈ ys, y.oneCell' = true) (hlen : n + m ≤ maxLen) (hbytes : (n + m) * bytes ≤ 140737488355328) (hbase : base ≤ w.heap.size) (hnil : m = 0 → u = .slice none 0 0)
    (h : ∀ v' w', w'.ownsRow base e size v' (n + m) (xs ++ ys) → w.grownBy w' v.ownBlock → K (a.put o.dst v') w') :
    if Region.wanted o (yielded ops a.tmps) = true then Oper.wp P o a w K Q else E := by
  have hl := hou.1
  rcases hou.2 with ⟨rfl, rfl⟩ | ⟨g, cap, cur, rfl, hb2, hg2, hcap, hmax, hcs, htk⟩
  · have h0 : ys = [] := List.eq_nil_of_length_eq_zero (by rw [hl, Nat.zero_mul])
    subst h0
    have hw : Region.wanted o (yielded ops a.tmps) = true := by simp [Region.wanted, hgd]
    rw [if_pos hw]
    have hrun := run_append_owned_none (P := P) (w := w) base t o.type e i size ht hi v n xs hown
    unfold Oper.wp
    simp [execOp, ho, resolve, invoke, builtin, hs, hx, hrun, Result.andThen]
    exact h v w (by rw [List.append_nil]; exact hown) (World.grownBy.refl w _)
  · rcases Nat.eq_zero_or_pos m with rfl | hm
    · cases hnil rfl
    · exact step_append_lies w hgd s x t ho base e i z size bytes ht hi hz hsize hby hzs hsz v n xs hs hown ⟨g, 0, none⟩ m cap ys hx hl (fun j y hj => hou.cells (g := g) rfl j y hj) hys hm hlen hbytes hbase _ rfl fun g' cap' w' h1 h2 _ _ => h _ w' h1 h2
end Go.Proofs.Ytfmpjljddfaggaa
