/-
  Texts of this claim, merged: PlRankB, PlDr, PlList.
-/
import Derived.Test.YtbmmcmdopekccaaMg02
/-
  Plain mathematics of layer 5: where the ends told so far lead, and the whole plan in the order of the names. No program is named here.
-/
namespace Go.Proofs.Ytbmmcmdopekccaa.Pl
open Go It

theorem pos_lt {N : List Nm} {nm : Nm} (h : nm ∈ N) : pos N nm < N.length := by
  have hl : N.findIdx (fun a => decide (a = nm)) < N.length := List.findIdx_lt_length.2 ⟨nm, h, by simp⟩
  unfold pos; omega
theorem gW_lt {M : List Itm} (hM : Ok M) (t : Tp) : (gW M t).goes < (nmS M).length ∧ (gW M t).sig < (nmG M).length := by
  unfold gW enW
  constructor
  · rcases hp : partner M t with _ | _ | u
    · show (-2 : Int) < _; omega
    · show (-1 : Int) < _; omega
    · exact pos_lt (partner_nm hM hp)
  · rcases hs : sigAt M t with _ | g
    · show (-1 : Int) < _; omega
    · obtain ⟨x, hx, -, rfl⟩ := sigAt_some hs
      exact pos_lt (List.mem_map.2 ⟨x, hx, rfl⟩)
theorem nmS_len (M : List Itm) : (nmS M).length = (wS M).length := by simp [nmS, wS]
theorem nmG_len (M : List Itm) : (nmG M).length = (wG M).length := by simp [nmG, wG]
theorem wS_ends {M : List Itm} (hM : Ok M) {i : Nat} {s : Sec} (h : (wS M)[i]? = some s) (e : Nat) : (s.get e).goes < (wS M).length ∧ (s.get e).sig < (wG M).length := by
  obtain ⟨x, -, rfl⟩ := wS_at h
  have g := fun t => gW_lt hM t
  rw [nmS_len, nmG_len] at g
  unfold Sec.get secG
  by_cases h0 : e = 0
  · rw [if_pos h0]; exact g _
  · rw [if_neg h0]
    by_cases h1 : e = 1
    · rw [if_pos h1]; exact g _
    · rw [if_neg h1]
      simp only
      by_cases hp : isPt x = true
      · rw [if_pos hp]; exact g _
      · rw [if_neg hp]
        constructor
        · show (-1 : Int) < _; omega
        · show (-1 : Int) < _; omega
theorem wG_sec {M : List Itm} (hM : Ok M) {i : Nat} {g : Sig} (h : (wG M)[i]? = some g) : 0 ≤ g.sec ∧ g.sec < (wS M).length := by
  rw [wG, List.getElem?_map, Option.map_eq_some_iff] at h
  obtain ⟨x, hx, rfl⟩ := h
  rw [← nmS_len]
  exact ⟨by show 0 ≤ pos _ _; unfold pos; omega, pos_lt (sig_nm hM (List.mem_of_getElem? hx))⟩
theorem ren1_at {N : List Nm} {t : Nat} (h : t < N.length) : (ranks N)[t]? = some (ren1 (ranks N) t) := by
  unfold ren1
  rw [if_pos (by omega), Int.toNat_natCast, List.getD_eq_getElem?_getD, List.getElem?_eq_getElem (by rw [ranks_len]; exact h)]
  rfl
theorem wS_name_mem {M : List Itm} {i : Nat} {s : Sec} (h : (wS M)[i]? = some s) : s.name ∈ nmS M := by
  obtain ⟨x, hx, rfl⟩ := wS_at h
  exact List.mem_map.2 ⟨x, List.mem_of_getElem? hx, rfl⟩
theorem wG_name_mem {M : List Itm} {i : Nat} {g : Sig} (h : (wG M)[i]? = some g) : g.name ∈ nmG M := by
  rw [wG, List.getElem?_map, Option.map_eq_some_iff] at h
  obtain ⟨x, hx, rfl⟩ := h
  exact List.mem_map.2 ⟨x, List.mem_of_getElem? hx, rfl⟩
/-- All sections at their ranks: the plan's. -/
theorem secs_whole {M : List Itm} (hM : Ok M) {X : List Sec} (hl : X.length = (wS M).length)
    (h : ∀ (j : Nat) (s : Sec), (wS M)[j]? = some s → X[(rank (nmS M) s.name).toNat]? = some (renSec (ranks (nmS M)) (ranks (nmG M)) s)) : X = (fin M).secs := by
  apply List.ext_getElem?
  intro p
  by_cases hp : p < (secs M).length
  · obtain ⟨i, hi, hr⟩ := rank_onto (l := secs M) hM.names hp
    have hs := wS_of (M := M) (List.getElem?_eq_getElem hi)
    have e := hr (secs M)[i].name (by rw [List.getElem?_map, List.getElem?_eq_getElem hi]; rfl)
    have h1 := h i _ hs
    have h2 := fin_sec_at hM hs
    have e' : (rank (nmS M) (secG (gW M) (secs M)[i]).name).toNat = p := e
    rw [e'] at h1 h2
    rw [h1, h2]
  · rw [List.getElem?_eq_none (by rw [hl, wS_len]; omega), List.getElem?_eq_none (by rw [fin_secs_len, wS_len]; omega)]
theorem sigs_whole {M : List Itm} (hM : Ok M) {X : List Sig} (hl : X.length = (wG M).length)
    (h : ∀ (j : Nat) (g : Sig), (wG M)[j]? = some g → X[(rank (nmG M) g.name).toNat]? = some (renSig (ranks (nmS M)) g)) : X = (fin M).sigs := by
  apply List.ext_getElem?
  intro p
  by_cases hp : p < (sigs M).length
  · obtain ⟨i, hi, hr⟩ := rank_onto (l := sigs M) hM.gnames hp
    have hs : (wG M)[i]? = some (sigW (pos (nmS M)) M (sigs M)[i]) := by rw [wG, List.getElem?_map, List.getElem?_eq_getElem hi]; rfl
    have e := hr (sigs M)[i].name (by rw [List.getElem?_map, List.getElem?_eq_getElem hi]; rfl)
    have h1 := h i _ hs
    have h2 := fin_sig_at hM hs
    have e' : (rank (nmG M) (sigW (pos (nmS M)) M (sigs M)[i]).name).toNat = p := e
    rw [e'] at h1 h2
    rw [h1, h2]
  · rw [List.getElem?_eq_none (by rw [hl, wG_len]; omega), List.getElem?_eq_none (by rw [fin_sigs_len, wG_len]; omega)]
/-- A place more is told. -/
theorem told_more {α : Type} {L : List α} {n : Nat} (key : α → Nat) (out : α → α) {X : List α} {i : Nat} {a : α} (hi : L[i]? = some a) (hlt : ∀ b ∈ L, key b < n) (hX : X.length = n)
    (hinj : ∀ (j : Nat) (b : α), j < i → L[j]? = some b → key b ≠ key a) (h : ∀ (j : Nat) (b : α), j < i → L[j]? = some b → X[key b]? = some (out b)) :
    ∀ (j : Nat) (b : α), j < i + 1 → L[j]? = some b → (X.set (key a) (out a))[key b]? = some (out b) := fun j b hj hb => by
  rcases Nat.lt_succ_iff_lt_or_eq.1 hj with h1 | rfl
  · rw [List.getElem?_set_ne (Ne.symm (hinj j b h1 hb))]; exact h j b h1 hb
  · rw [hi] at hb
    cases hb
    rw [List.getElem?_set_self (by rw [hX]; exact hlt a (List.mem_of_getElem? hi))]
theorem names_apart {α : Type} {L : List α} (f : α → Nm) (hn : (L.map f).Nodup) {i j : Nat} {a b : α} (hi : L[i]? = some a) (hj : L[j]? = some b) (h : j < i) : rank (L.map f) (f b) ≠ rank (L.map f) (f a) := fun hc => by
  have ha : f a ∈ L.map f := List.mem_map.2 ⟨a, List.mem_of_getElem? hi, rfl⟩
  have hb : f b ∈ L.map f := List.mem_map.2 ⟨b, List.mem_of_getElem? hj, rfl⟩
  have e := rank_inj hb ha hc
  obtain ⟨h1, h1'⟩ := List.getElem?_eq_some_iff.1 hi
  obtain ⟨h2, h2'⟩ := List.getElem?_eq_some_iff.1 hj
  have hp := List.nodup_iff_pairwise_ne.1 hn
  have := List.pairwise_iff_getElem.1 hp j i (by simpa using h2) (by simpa using h1) h
  simp only [List.getElem_map] at this
  rw [h1', h2'] at this
  exact this e
/-- The first e ends are told by the ranks. -/
def Upto (R Q : List Int) (e : Nat) (s t : Sec) : Prop := t.name = s.name ∧ t.pt = s.pt ∧ t.len = s.len ∧ (∀ f, f < 3 → f < e → t.get f = renEn R Q (s.get f)) ∧ ∀ f, f < 3 → e ≤ f → t.get f = s.get f
theorem Upto.zero (R Q : List Int) (s : Sec) : Upto R Q 0 s s := ⟨rfl, rfl, rfl, fun f _ h => absurd h (Nat.not_lt_zero f), fun _ _ _ => rfl⟩
theorem get_put {s : Sec} {e f : Nat} {a : En} (he : e < 3) (hf : f < 3) : (s.put e a).get f = if f = e then a else s.get f := by
  have h1 : e = 0 ∨ e = 1 ∨ e = 2 := by omega
  have h2 : f = 0 ∨ f = 1 ∨ f = 2 := by omega
  rcases h1 with rfl | rfl | rfl <;> rcases h2 with rfl | rfl | rfl <;> rfl
theorem put_name (s : Sec) (e : Nat) (a : En) : (s.put e a).name = s.name ∧ (s.put e a).pt = s.pt ∧ (s.put e a).len = s.len := by
  unfold Sec.put; split
  · exact ⟨rfl, rfl, rfl⟩
  · split <;> exact ⟨rfl, rfl, rfl⟩
theorem Upto.next {R Q : List Int} {e : Nat} {s t : Sec} (h : Upto R Q e s t) (he : e < 3) : Upto R Q (e + 1) s (t.put e (renEn R Q (s.get e))) := by
  obtain ⟨h1, h2, h3, h4, h5⟩ := h
  obtain ⟨p1, p2, p3⟩ := put_name t e (renEn R Q (s.get e))
  refine ⟨p1.trans h1, p2.trans h2, p3.trans h3, fun f hf hlt => ?_, fun f hf hle => ?_⟩
  · rw [get_put he hf]
    by_cases hfe : f = e
    · rw [if_pos hfe, hfe]
    · rw [if_neg hfe]; exact h4 f hf (by omega)
  · rw [get_put he hf, if_neg (by omega)]; exact h5 f hf (by omega)
theorem Upto.done {R Q : List Int} {s t : Sec} (h : Upto R Q 3 s t) : t = renSec R Q s := by
  obtain ⟨h1, h2, h3, h4, -⟩ := h
  have e0 := h4 0 (by decide) (by decide)
  have e1 := h4 1 (by decide) (by decide)
  have e2 := h4 2 (by decide) (by decide)
  cases t
  cases s
  simp only [Sec.get] at e0 e1 e2
  simp only at h1 h2 h3
  subst h1 h2 h3
  unfold renSec
  simp_all
/-- One end, as the walk turns it: where it leads, then its signal. -/
theorem put_ren {R Q : List Int} {e : Nat} {s t : Sec} (h : Upto R Q e s t) (he : e < 3) : (t.put e (renEn R Q (s.get e))) = (t.setTo e (ren1 R (t.get e).goes)).setSig e (ren1 Q (t.get e).sig) := by
  have hg := h.2.2.2.2 e he (Nat.le_refl e)
  rw [← hg]
  unfold Sec.setSig Sec.setTo
  have h1 : e = 0 ∨ e = 1 ∨ e = 2 := by omega
  rcases h1 with rfl | rfl | rfl <;> rfl
theorem setTo_same {t : Sec} {e : Nat} {R : List Int} (he : e < 3) (h : (t.get e).goes < 0) : t.setTo e (ren1 R (t.get e).goes) = t := by
  rw [ren_neg h]
  have h1 : e = 0 ∨ e = 1 ∨ e = 2 := by omega
  rcases h1 with rfl | rfl | rfl <;> rfl
theorem setSig_same {t : Sec} {e : Nat} {Q : List Int} (he : e < 3) (h : (t.get e).sig < 0) : t.setSig e (ren1 Q (t.get e).sig) = t := by
  rw [ren_neg h]
  have h1 : e = 0 ∨ e = 1 ∨ e = 2 := by omega
  rcases h1 with rfl | rfl | rfl <;> rfl
theorem setTo_get_sig {t : Sec} {e : Nat} (v : Int) (he : e < 3) : ((t.setTo e v).get e).sig = (t.get e).sig := by
  have h1 : e = 0 ∨ e = 1 ∨ e = 2 := by omega
  rcases h1 with rfl | rfl | rfl <;> rfl
end Go.Proofs.Ytbmmcmdopekccaa.Pl
/-
  Plain mathematics of layer 5: sections as a draft holds them, which doesn't tell of signals at ends. No program is named here.
-/
namespace Go.Proofs.Ytbmmcmdopekccaa.Pl
open Go It

def clrE (e : En) : En := ⟨e.goes, e.at_, -1⟩
def clr (s : Sec) : Sec := ⟨s.name, s.pt, s.len, clrE s.e0, clrE s.e1, clrE s.e2⟩
/-- The sections as they were told, of which no end tells of a signal. -/
def dS (M : List Itm) : List Sec := (wS M).map clr
end Go.Proofs.Ytbmmcmdopekccaa.Pl
/-
  Plain mathematics of layer 5: a plan's lines as loops over sections and their three ends find them. No program is named here.
-/
namespace Go.Proofs.Ytbmmcmdopekccaa.Pl
open Go It

/-- A plan of which every end and every signal leads where a section is. -/
structure Fit (p : Plan) : Prop where
  ends : ∀ (i : Nat) (s : Sec), p.secs[i]? = some s → ∀ e, e < 3 → -1 ≤ (s.get e).goes ∧ (s.get e).goes < p.secs.length ∧ (0 ≤ (s.get e).goes → 0 ≤ (s.get e).at_ ∧ (s.get e).at_ ≤ 2)
  plain : ∀ (i : Nat) (s : Sec), p.secs[i]? = some s → s.pt = false → (s.get 2).goes = -1
  sigs : ∀ (i : Nat) (g : Sig), p.sigs[i]? = some g → 0 ≤ g.sec ∧ g.sec < p.secs.length ∧ 0 ≤ g.en ∧ g.en ≤ 2
  few : p.secs.length ≤ 24
  gfew : p.sigs.length ≤ 12
theorem fit_fin {L : List Itm} (hL : Ok L) (hS : Shut L) : Fit (fin L) where
  ends i s hs e he := by
    rcases end_cases hL hS hs he with h | ⟨_, -, -, -, -, -, h1, -, -⟩ | ⟨_, j, f, t, -, -, -, -, hj, hf, h1, h2, -⟩
    · rw [h]
      refine ⟨by decide, ?_, fun h0 => absurd h0 (by decide)⟩
      have := (List.getElem?_eq_some_iff.1 hs).1
      show (-1 : Int) < _
      omega
    · refine ⟨by omega, ?_, fun h0 => by omega⟩
      have := (List.getElem?_eq_some_iff.1 hs).1
      omega
    · have := (List.getElem?_eq_some_iff.1 hj).1
      exact ⟨by omega, by omega, fun _ => ⟨by omega, by omega⟩⟩
  plain i s hs hp := by
    show s.e2.goes = -1
    rw [plain_end hL hs hp]; rfl
  sigs i g hg := by
    obtain ⟨j, f, t, hj, hf, h1, h2, -⟩ := sig_cases hL hg
    have := (List.getElem?_eq_some_iff.1 hj).1
    exact ⟨by omega, by omega, by omega, by omega⟩
  few := by rw [secs_len]; exact hL.few
  gfew := by rw [sigs_len]; exact hL.gfew
/-- What a loop over the ends of sections has found ahead of section i's end e. -/
def upTo (f : Nat × Nat → Option Itm) (i e : Nat) : List Itm := ((List.range i).flatMap fun s => (List.range 3).filterMap fun e => f (s, e)) ++ (List.range e).filterMap fun e => f (i, e)
theorem flat_len (f : Nat × Nat → Option Itm) : ∀ i, ((List.range i).flatMap fun s => (List.range 3).filterMap fun e => f (s, e)).length ≤ 3 * i
  | 0 => Nat.le_refl _
  | i + 1 => by
    rw [List.range_succ (n := i), List.flatMap_append, List.length_append]
    have h1 := flat_len f i
    have h2 : ((List.range 3).filterMap fun e => f (i, e)).length ≤ 3 := Nat.le_trans (List.length_filterMap_le _ _) (by simp)
    simp only [List.flatMap_cons, List.flatMap_nil, List.append_nil]
    omega
theorem upTo_len (f : Nat × Nat → Option Itm) (i e : Nat) : (upTo f i e).length ≤ 3 * i + e := by
  unfold upTo
  rw [List.length_append]
  have h1 := flat_len f i
  have h2 : ((List.range e).filterMap fun e => f (i, e)).length ≤ e := Nat.le_trans (List.length_filterMap_le _ _) (by simp)
  omega
/-- An end that a section hasn't adds nothing. -/
theorem upTo_all {p : Plan} {f g : Nat × Nat → Option Itm} (hf : ∀ (i : Nat) (s : Sec), p.secs[i]? = some s → ∀ e, e < 3 → e < nEnds s.pt → f (i, e) = g (i, e)) (hn : ∀ (i : Nat) (s : Sec), p.secs[i]? = some s → s.pt = false → f (i, 2) = none) : upTo f p.secs.length 0 = (endsP p).filterMap g := by
  have e0 : upTo f p.secs.length 0 = (List.range p.secs.length).flatMap fun s => (List.range 3).filterMap fun e => f (s, e) := by unfold upTo; simp
  rw [e0, endsP, List.filterMap_flatMap]
  have : ∀ l : List Nat, (∀ s ∈ l, s < p.secs.length) → (l.flatMap fun s => (List.range 3).filterMap fun e => f (s, e)) = l.flatMap fun s => ((List.range (nEnds (((p.secs[s]?).map Sec.pt).getD false))).map fun e => (s, e)).filterMap g := by
    intro l hl
    induction l with
    | nil => rfl
    | cons s l ih =>
      rw [List.flatMap_cons, List.flatMap_cons, ih fun t ht => hl t (List.mem_cons_of_mem _ ht)]
      congr 1
      have hs := hl s (List.mem_cons_self ..)
      have hx := List.getElem?_eq_getElem hs
      generalize p.secs[s] = x at hx
      rw [hx, Option.map_some, Option.getD_some, List.filterMap_map]
      cases hp : x.pt with
      | true =>
        have h0 := hf s x hx 0 (by decide) (by rw [hp]; decide)
        have h1 := hf s x hx 1 (by decide) (by rw [hp]; decide)
        have h2 := hf s x hx 2 (by decide) (by rw [hp]; decide)
        simp only [nEnds, if_true, List.range, List.range.loop, List.filterMap_cons, List.filterMap_nil, h0, h1, h2, Function.comp]
      | false =>
        have h0 := hf s x hx 0 (by decide) (by rw [hp]; decide)
        have h1 := hf s x hx 1 (by decide) (by rw [hp]; decide)
        have h2 := hn s x hx hp
        simp only [nEnds, Bool.false_eq_true, if_false, List.range, List.range.loop, List.filterMap_cons, List.filterMap_nil, h0, h1, h2, Function.comp]
  exact this _ fun s hs => List.mem_range.1 hs
end Go.Proofs.Ytbmmcmdopekccaa.Pl
