/-
  Texts of this claim, merged: PlRankB, PlDr, PlDrA, ShelfQ, PlDrB, RowMake, PlMemB, PlDrC.
-/
import Derived.Test.YtaheiolbeiofpaaGreatDoorMg09
import Derived.Test.YtaheiolbeiofpaaGreatDoorMg12
import Derived.Test.YtaheiolbeiofpaaGreatDoorMg13
import Derived.Test.YtaheiolbeiofpaaGreatDoorMg14
import Derived.Test.YtaheiolbeiofpaaGreatDoorProg
import Derived.Deep.OwnRows
import Derived.Deep.RegionHeld3
import Derived.Laws.CopyRow
import Derived.Lib.SliceRun
import Derived.Shelf.SlSortCmp.WholeK
import Derived.Shelf.SlicesE.Clone
import Derived.Shelf.SlicesQ.IndexFunc
/-
  Plain mathematics of layer 5: where the ends told so far lead, and the whole plan in the order of the names. No program is named here.
-/
namespace Go.Proofs.YtaheiolbeiofpaaGreatDoor.Pl
open Go It

theorem pos_lt {N : List Nm} {nm : Nm} (h : nm ∈ N) : pos N nm < N.length := by
  have hl : N.findIdx (fun a => decide (a = nm)) < N.length := List.findIdx_lt_length.2 ⟨nm, h, by simp⟩
  unfold pos; omega
theorem gW_lt {M : List Itm} (hM : Ok M) (t : Tp) : (gW M t).goes < (nmS M).length ∧ (gW M t).sig < (nmG M).length := by
  unfold gW enW
  constructor
  · rcases hp : partner M t with _ | _ | u
    · show (-2 : Int) < _; omega
    · show (-1 : Int) < _; omega
    · exact pos_lt (partner_nm hM hp)
  · rcases hs : sigAt M t with _ | g
    · show (-1 : Int) < _; omega
    · obtain ⟨x, hx, -, rfl⟩ := sigAt_some hs
      exact pos_lt (List.mem_map.2 ⟨x, hx, rfl⟩)
theorem nmS_len (M : List Itm) : (nmS M).length = (wS M).length := by simp [nmS, wS]
theorem nmG_len (M : List Itm) : (nmG M).length = (wG M).length := by simp [nmG, wG]
theorem wS_ends {M : List Itm} (hM : Ok M) {i : Nat} {s : Sec} (h : (wS M)[i]? = some s) (e : Nat) : (s.get e).goes < (wS M).length ∧ (s.get e).sig < (wG M).length := by
  obtain ⟨x, -, rfl⟩ := wS_at h
  have g := fun t => gW_lt hM t
  rw [nmS_len, nmG_len] at g
  unfold Sec.get secG
  by_cases h0 : e = 0
  · rw [if_pos h0]; exact g _
  · rw [if_neg h0]
    by_cases h1 : e = 1
    · rw [if_pos h1]; exact g _
    · rw [if_neg h1]
      simp only
      by_cases hp : isPt x = true
      · rw [if_pos hp]; exact g _
      · rw [if_neg hp]
        constructor
        · show (-1 : Int) < _; omega
        · show (-1 : Int) < _; omega
theorem wG_sec {M : List Itm} (hM : Ok M) {i : Nat} {g : Sig} (h : (wG M)[i]? = some g) : 0 ≤ g.sec ∧ g.sec < (wS M).length := by
  rw [wG, List.getElem?_map, Option.map_eq_some_iff] at h
  obtain ⟨x, hx, rfl⟩ := h
  rw [← nmS_len]
  exact ⟨by show 0 ≤ pos _ _; unfold pos; omega, pos_lt (sig_nm hM (List.mem_of_getElem? hx))⟩
theorem ren1_at {N : List Nm} {t : Nat} (h : t < N.length) : (ranks N)[t]? = some (ren1 (ranks N) t) := by
  unfold ren1
  rw [if_pos (by omega), Int.toNat_natCast, List.getD_eq_getElem?_getD, List.getElem?_eq_getElem (by rw [ranks_len]; exact h)]
  rfl
theorem wS_name_mem {M : List Itm} {i : Nat} {s : Sec} (h : (wS M)[i]? = some s) : s.name ∈ nmS M := by
  obtain ⟨x, hx, rfl⟩ := wS_at h
  exact List.mem_map.2 ⟨x, List.mem_of_getElem? hx, rfl⟩
theorem wG_name_mem {M : List Itm} {i : Nat} {g : Sig} (h : (wG M)[i]? = some g) : g.name ∈ nmG M := by
  rw [wG, List.getElem?_map, Option.map_eq_some_iff] at h
  obtain ⟨x, hx, rfl⟩ := h
  exact List.mem_map.2 ⟨x, List.mem_of_getElem? hx, rfl⟩
/-- All sections at their ranks: the plan's. -/
theorem secs_whole {M : List Itm} (hM : Ok M) {X : List Sec} (hl : X.length = (wS M).length)
    (h : ∀ (j : Nat) (s : Sec), (wS M)[j]? = some s → X[(rank (nmS M) s.name).toNat]? = some (renSec (ranks (nmS M)) (ranks (nmG M)) s)) : X = (fin M).secs := by
  apply List.ext_getElem?
  intro p
  by_cases hp : p < (secs M).length
  · obtain ⟨i, hi, hr⟩ := rank_onto (l := secs M) hM.names hp
    have hs := wS_of (M := M) (List.getElem?_eq_getElem hi)
    have e := hr (secs M)[i].name (by rw [List.getElem?_map, List.getElem?_eq_getElem hi]; rfl)
    have h1 := h i _ hs
    have h2 := fin_sec_at hM hs
    have e' : (rank (nmS M) (secG (gW M) (secs M)[i]).name).toNat = p := e
    rw [e'] at h1 h2
    rw [h1, h2]
  · rw [List.getElem?_eq_none (by rw [hl, wS_len]; omega), List.getElem?_eq_none (by rw [fin_secs_len, wS_len]; omega)]
theorem sigs_whole {M : List Itm} (hM : Ok M) {X : List Sig} (hl : X.length = (wG M).length)
    (h : ∀ (j : Nat) (g : Sig), (wG M)[j]? = some g → X[(rank (nmG M) g.name).toNat]? = some (renSig (ranks (nmS M)) g)) : X = (fin M).sigs := by
  apply List.ext_getElem?
  intro p
  by_cases hp : p < (sigs M).length
  · obtain ⟨i, hi, hr⟩ := rank_onto (l := sigs M) hM.gnames hp
    have hs : (wG M)[i]? = some (sigW (pos (nmS M)) M (sigs M)[i]) := by rw [wG, List.getElem?_map, List.getElem?_eq_getElem hi]; rfl
    have e := hr (sigs M)[i].name (by rw [List.getElem?_map, List.getElem?_eq_getElem hi]; rfl)
    have h1 := h i _ hs
    have h2 := fin_sig_at hM hs
    have e' : (rank (nmG M) (sigW (pos (nmS M)) M (sigs M)[i]).name).toNat = p := e
    rw [e'] at h1 h2
    rw [h1, h2]
  · rw [List.getElem?_eq_none (by rw [hl, wG_len]; omega), List.getElem?_eq_none (by rw [fin_sigs_len, wG_len]; omega)]
/-- A place more is told. -/
theorem told_more {α : Type} {L : List α} {n : Nat} (key : α → Nat) (out : α → α) {X : List α} {i : Nat} {a : α} (hi : L[i]? = some a) (hlt : ∀ b ∈ L, key b < n) (hX : X.length = n)
    (hinj : ∀ (j : Nat) (b : α), j < i → L[j]? = some b → key b ≠ key a) (h : ∀ (j : Nat) (b : α), j < i → L[j]? = some b → X[key b]? = some (out b)) :
    ∀ (j : Nat) (b : α), j < i + 1 → L[j]? = some b → (X.set (key a) (out a))[key b]? = some (out b) := fun j b hj hb => by
  rcases Nat.lt_succ_iff_lt_or_eq.1 hj with h1 | rfl
  · rw [List.getElem?_set_ne (Ne.symm (hinj j b h1 hb))]; exact h j b h1 hb
  · rw [hi] at hb
    cases hb
    rw [List.getElem?_set_self (by rw [hX]; exact hlt a (List.mem_of_getElem? hi))]
theorem names_apart {α : Type} {L : List α} (f : α → Nm) (hn : (L.map f).Nodup) {i j : Nat} {a b : α} (hi : L[i]? = some a) (hj : L[j]? = some b) (h : j < i) : rank (L.map f) (f b) ≠ rank (L.map f) (f a) := fun hc => by
  have ha : f a ∈ L.map f := List.mem_map.2 ⟨a, List.mem_of_getElem? hi, rfl⟩
  have hb : f b ∈ L.map f := List.mem_map.2 ⟨b, List.mem_of_getElem? hj, rfl⟩
  have e := rank_inj hb ha hc
  obtain ⟨h1, h1'⟩ := List.getElem?_eq_some_iff.1 hi
  obtain ⟨h2, h2'⟩ := List.getElem?_eq_some_iff.1 hj
  have hp := List.nodup_iff_pairwise_ne.1 hn
  have := List.pairwise_iff_getElem.1 hp j i (by simpa using h2) (by simpa using h1) h
  simp only [List.getElem_map] at this
  rw [h1', h2'] at this
  exact this e
/-- The first e ends are told by the ranks. -/
def Upto (R Q : List Int) (e : Nat) (s t : Sec) : Prop := t.name = s.name ∧ t.pt = s.pt ∧ t.len = s.len ∧ (∀ f, f < 3 → f < e → t.get f = renEn R Q (s.get f)) ∧ ∀ f, f < 3 → e ≤ f → t.get f = s.get f
theorem Upto.zero (R Q : List Int) (s : Sec) : Upto R Q 0 s s := ⟨rfl, rfl, rfl, fun f _ h => absurd h (Nat.not_lt_zero f), fun _ _ _ => rfl⟩
theorem get_put {s : Sec} {e f : Nat} {a : En} (he : e < 3) (hf : f < 3) : (s.put e a).get f = if f = e then a else s.get f := by
  have h1 : e = 0 ∨ e = 1 ∨ e = 2 := by omega
  have h2 : f = 0 ∨ f = 1 ∨ f = 2 := by omega
  rcases h1 with rfl | rfl | rfl <;> rcases h2 with rfl | rfl | rfl <;> rfl
theorem put_name (s : Sec) (e : Nat) (a : En) : (s.put e a).name = s.name ∧ (s.put e a).pt = s.pt ∧ (s.put e a).len = s.len := by
  unfold Sec.put; split
  · exact ⟨rfl, rfl, rfl⟩
  · split <;> exact ⟨rfl, rfl, rfl⟩
theorem Upto.next {R Q : List Int} {e : Nat} {s t : Sec} (h : Upto R Q e s t) (he : e < 3) : Upto R Q (e + 1) s (t.put e (renEn R Q (s.get e))) := by
  obtain ⟨h1, h2, h3, h4, h5⟩ := h
  obtain ⟨p1, p2, p3⟩ := put_name t e (renEn R Q (s.get e))
  refine ⟨p1.trans h1, p2.trans h2, p3.trans h3, fun f hf hlt => ?_, fun f hf hle => ?_⟩
  · rw [get_put he hf]
    by_cases hfe : f = e
    · rw [if_pos hfe, hfe]
    · rw [if_neg hfe]; exact h4 f hf (by omega)
  · rw [get_put he hf, if_neg (by omega)]; exact h5 f hf (by omega)
theorem Upto.done {R Q : List Int} {s t : Sec} (h : Upto R Q 3 s t) : t = renSec R Q s := by
  obtain ⟨h1, h2, h3, h4, -⟩ := h
  have e0 := h4 0 (by decide) (by decide)
  have e1 := h4 1 (by decide) (by decide)
  have e2 := h4 2 (by decide) (by decide)
  cases t
  cases s
  simp only [Sec.get] at e0 e1 e2
  simp only at h1 h2 h3
  subst h1 h2 h3
  unfold renSec
  simp_all
theorem put_self {s : Sec} {e : Nat} (he : e < 3) : s.put e (s.get e) = s := by
  have h1 : e = 0 ∨ e = 1 ∨ e = 2 := by omega
  rcases h1 with rfl | rfl | rfl <;> rfl
/-- One end, as the walk turns it: where it leads, then its signal. -/
theorem put_ren {R Q : List Int} {e : Nat} {s t : Sec} (h : Upto R Q e s t) (he : e < 3) : (t.put e (renEn R Q (s.get e))) = (t.setTo e (ren1 R (t.get e).goes)).setSig e (ren1 Q (t.get e).sig) := by
  have hg := h.2.2.2.2 e he (Nat.le_refl e)
  rw [← hg]
  unfold Sec.setSig Sec.setTo
  have h1 : e = 0 ∨ e = 1 ∨ e = 2 := by omega
  rcases h1 with rfl | rfl | rfl <;> rfl
theorem setTo_same {t : Sec} {e : Nat} {R : List Int} (he : e < 3) (h : (t.get e).goes < 0) : t.setTo e (ren1 R (t.get e).goes) = t := by
  rw [ren_neg h]
  have h1 : e = 0 ∨ e = 1 ∨ e = 2 := by omega
  rcases h1 with rfl | rfl | rfl <;> rfl
theorem setSig_same {t : Sec} {e : Nat} {Q : List Int} (he : e < 3) (h : (t.get e).sig < 0) : t.setSig e (ren1 Q (t.get e).sig) = t := by
  rw [ren_neg h]
  have h1 : e = 0 ∨ e = 1 ∨ e = 2 := by omega
  rcases h1 with rfl | rfl | rfl <;> rfl
theorem setTo_get_sig {t : Sec} {e : Nat} (v : Int) (he : e < 3) : ((t.setTo e v).get e).sig = (t.get e).sig := by
  have h1 : e = 0 ∨ e = 1 ∨ e = 2 := by omega
  rcases h1 with rfl | rfl | rfl <;> rfl
end Go.Proofs.YtaheiolbeiofpaaGreatDoor.Pl
/-
  Plain mathematics of layer 5: sections as a draft holds them, which doesn't tell of signals at ends. No program is named here.
-/
namespace Go.Proofs.YtaheiolbeiofpaaGreatDoor.Pl
open Go It

def clrE (e : En) : En := ⟨e.goes, e.at_, -1⟩
def clr (s : Sec) : Sec := ⟨s.name, s.pt, s.len, clrE s.e0, clrE s.e1, clrE s.e2⟩
/-- The sections as they were told, of which no end tells of a signal. -/
def dS (M : List Itm) : List Sec := (wS M).map clr
theorem dS_len (M : List Itm) : (dS M).length = (secs M).length := by simp [dS, wS_len]
theorem dS_at {M : List Itm} {i : Nat} {s : Sec} (h : (dS M)[i]? = some s) : ∃ x, (secs M)[i]? = some x ∧ s = clr (secG (gW M) x) := by
  rw [dS, List.getElem?_map, Option.map_eq_some_iff] at h
  obtain ⟨y, hy, rfl⟩ := h
  obtain ⟨x, hx, rfl⟩ := wS_at hy
  exact ⟨x, hx, rfl⟩
theorem dS_of {M : List Itm} {i : Nat} {x : Itm} (h : (secs M)[i]? = some x) : (dS M)[i]? = some (clr (secG (gW M) x)) := by rw [dS, List.getElem?_map, wS_of h]; rfl
theorem clr_get (s : Sec) (e : Nat) : (clr s).get e = clrE (s.get e) := by
  unfold Sec.get
  split
  · rfl
  · split <;> rfl
theorem clr_put (s : Sec) (e : Nat) (a : En) : clr (s.put e a) = (clr s).put e (clrE a) := by
  unfold Sec.put
  split
  · rfl
  · split <;> rfl
theorem map_modify {α β : Type} (g : α → β) (f : α → α) (h : β → β) (hg : ∀ a, g (f a) = h (g a)) (L : List α) (i : Nat) : (L.modify i f).map g = (L.map g).modify i h := by
  apply List.ext_getElem?
  intro k
  rw [List.getElem?_map, modify_at, modify_at, List.getElem?_map]
  by_cases hik : i = k
  · rw [if_pos hik, if_pos hik]
    cases L[k]? with
    | none => rfl
    | some a => simp [hg]
  · rw [if_neg hik, if_neg hik]
theorem find_dS (M : List Itm) (nm : Nm) : (nm ∉ nmS M ∧ find (dS M) nm = -1) ∨ ∃ (i : Nat) (x : Itm), find (dS M) nm = i ∧ (secs M)[i]? = some x ∧ x.name = nm := by
  rcases find_cases (dS M) nm with ⟨h1, h2⟩ | ⟨i, s, h1, h2, h3⟩
  · refine .inl ⟨fun h => ?_, h1⟩
    obtain ⟨x, hx, e⟩ := mem_nmS.1 h
    exact h2 _ (List.mem_map.2 ⟨_, List.mem_map.2 ⟨x, hx, rfl⟩, rfl⟩) e
  · obtain ⟨x, hx, rfl⟩ := dS_at h2
    exact .inr ⟨i, x, h1, hx, h3⟩
theorem d_num {M : List Itm} {x : Itm} (hx : isNum x.k = true) : dS (M ++ [x]) = dS M ∧ wG (M ++ [x]) = wG M := ⟨by rw [dS, (w_num hx).1]; rfl, (w_num hx).2⟩
theorem d_sec {M : List Itm} {x : Itm} (hM : Ok M) (hx : isS x = true) (hn : x.name ∉ nmS M) : dS (M ++ [x]) = dS M ++ [⟨x.name, isPt x, x.n, openE, openE, if isPt x then openE else stop⟩] ∧ wG (M ++ [x]) = wG M := by
  obtain ⟨h1, h2⟩ := w_sec hM hx hn
  refine ⟨?_, h2⟩
  rw [dS, h1, List.map_append]
  unfold dS
  congr 1
  show [clr _] = _
  unfold clr
  cases isPt x <;> rfl
/-- An end that is told to lead somewhere. -/
def ledTo (e : Nat) (goes at_ : Int) (s : Sec) : Sec := s.put e ⟨goes, at_, -1⟩
theorem at0 {M : List Itm} {t : Tp} (h : t ∉ ments M) : (gW M t).at_ = 0 ∧ (gW M t).goes = -2 := by
  unfold gW enW
  rw [partner_none.2 h]
  exact ⟨rfl, rfl⟩
theorem modify_congr {α : Type} {L : List α} {i : Nat} {f g : α → α} {a : α} (hi : L[i]? = some a) (h : f a = g a) : L.modify i f = L.modify i g := by
  apply List.ext_getElem?
  intro k
  rw [modify_at, modify_at]
  by_cases hik : i = k
  · subst hik
    rw [if_pos rfl, if_pos rfl, hi]
    simp [h]
  · rw [if_neg hik, if_neg hik]
theorem d_stop {M : List Itm} {x : Itm} (hM : Ok M) (h8 : x.k = 8) (hm : x.e0 ∉ ments M) {i : Nat} {y : Itm} (hy : (secs M)[i]? = some y) {e : Nat} (he : e < nEnds (isPt y)) (ht : x.e0 = tip y e) :
    dS (M ++ [x]) = (dS M).modify i (ledTo e (-1) 0) ∧ wG (M ++ [x]) = wG M := by
  obtain ⟨h1, h2⟩ := w_stop hM h8 hm hy he ht
  refine ⟨?_, h2⟩
  rw [dS, h1, modify_congr (wS_of hy) (g := fun s => s.put e ⟨-1, 0, (s.get e).sig⟩)]
  · exact map_modify clr _ (ledTo e (-1) 0) (fun a => clr_put a e _) _ _
  · unfold Sec.setTo
    rw [get_secG _ he]
    rw [ht] at hm
    obtain ⟨q1, -⟩ := at0 hm
    cases hg : gW M (tip y e) with
    | mk a b c => rw [hg] at q1; simp only at q1; rw [q1]
theorem d_join {M : List Itm} {x : Itm} (hM : Ok M) (h7 : x.k = 7) (hm : x.e0 ∉ ments M) (hm1 : x.e1 ∉ ments M) (hne : x.e0 ≠ x.e1) {i j : Nat} {y z : Itm} (hy : (secs M)[i]? = some y) (hz : (secs M)[j]? = some z) {e f : Nat} (he : e < nEnds (isPt y)) (hf : f < nEnds (isPt z)) (ht : x.e0 = tip y e) (hu : x.e1 = tip z f) :
    dS (M ++ [x]) = ((dS M).modify i (ledTo e j f)).modify j (ledTo f i e) ∧ wG (M ++ [x]) = wG M := by
  obtain ⟨h1, h2⟩ := w_join hM h7 hm hm1 hne hy hz he hf ht hu
  refine ⟨?_, h2⟩
  rw [dS, h1, map_modify clr _ (ledTo f i e) (fun a => clr_put a f _), map_modify clr _ (ledTo e j f) (fun a => clr_put a e _)]
  rfl
theorem d_sig {M : List Itm} {x : Itm} (hM : Ok M) (hg : isG x = true) (hn : x.name ∉ nmG M) (hs : x.e0 ∉ (sigs M).map (·.e0)) {i : Nat} {y : Itm} (hy : (secs M)[i]? = some y) {e : Nat} (he : e < nEnds (isPt y)) (ht : x.e0 = tip y e) :
    dS (M ++ [x]) = dS M ∧ wG (M ++ [x]) = wG M ++ [⟨x.name, i, e⟩] := by
  obtain ⟨h1, h2⟩ := w_sig hM hg hn hs hy he ht
  refine ⟨?_, h2⟩
  rw [dS, h1, modify_congr (wS_of hy) (g := Sec.setSig e (wG M).length) rfl, map_modify clr _ id (fun a => ?_)]
  · apply List.ext_getElem?
    intro k
    rw [modify_at]
    by_cases hik : i = k
    · rw [if_pos hik]; simp [dS]
    · rw [if_neg hik]; rfl
  · unfold Sec.setSig
    rw [clr_put]
    by_cases h0 : e = 0
    · subst h0; rfl
    · by_cases h1 : e = 1
      · subst h1; rfl
      · unfold Sec.put Sec.get
        rw [if_neg h0, if_neg h1, if_neg h0, if_neg h1]; rfl
theorem d_get {M : List Itm} {y : Itm} {e : Nat} (he : e < nEnds (isPt y)) : (clr (secG (gW M) y)).get e = ⟨(gW M (tip y e)).goes, (gW M (tip y e)).at_, -1⟩ := by
  rw [clr_get, get_secG _ he]; rfl
/-- A signal stands where a signal's line names an end: the same, by places. -/
theorem stands_iff {M : List Itm} (hM : Ok M) {i : Nat} {y : Itm} (hy : (secs M)[i]? = some y) {e : Nat} (he : e < nEnds (isPt y)) :
    (wG M).any (fun g => decide (g.sec = i ∧ g.en = e)) = (sigAt M (tip y e)).isSome := by
  have hys : y ∈ secs M := List.mem_of_getElem? hy
  apply Bool.eq_iff_iff.2
  rw [List.any_eq_true]
  constructor
  · rintro ⟨g, hg, h⟩
    obtain ⟨h1, h2⟩ := of_decide_eq_true h
    obtain ⟨x, hx, rfl⟩ := List.mem_map.1 hg
    have h9 := (sig_facts (mem_sigs.1 hx).2).2.2.2.2
    obtain ⟨z, hz, f, hf, hzf⟩ := told_all hM (mem_sigs.1 hx).1 (t := x.e0) (by unfold tips; rw [if_neg (by omega), if_neg (by omega), if_pos h9]; simp)
    obtain ⟨j, hj, rfl⟩ := List.getElem_of_mem hz
    have hz' := List.getElem?_eq_getElem hj
    have p1 : pos (nmS M) x.e0.n = j := by rw [hzf]; exact pos_sec hM.names hz'
    have e1 : (j : Int) = i := p1.symm.trans h1
    have e2 : (f : Int) = e := by
      have : ((endAt (ptOf M x.e0.n) x.e0.c).getD 0 : Int) = e := by simpa [sigW] using h2
      rw [hzf, tip_at hM hz hf] at this
      simpa using this
    have ej : j = i := by omega
    have ef : f = e := by omega
    subst ej ef
    rw [hy] at hz'
    cases hz'
    rw [← hzf, sigAt_eq hM.gends hx]
    rfl
  · intro h
    cases hs : sigAt M (tip y e) with
    | none => rw [hs] at h; cases h
    | some nm =>
      obtain ⟨x, hx, h3, -⟩ := sigAt_some hs
      refine ⟨sigW (pos (nmS M)) M x, List.mem_map.2 ⟨x, hx, rfl⟩, ?_⟩
      apply decide_eq_true
      constructor
      · show pos (nmS M) x.e0.n = i
        rw [h3]; exact pos_sec hM.names hy
      · show (((endAt (ptOf M x.e0.n) x.e0.c).getD 0 : Nat) : Int) = e
        rw [h3, tip_at hM hys he]; rfl
theorem named_iff (M : List Itm) (nm : Nm) : (wG M).any (fun g => decide (g.name = nm)) = decide (nm ∈ nmG M) := by
  apply Bool.eq_iff_iff.2
  rw [List.any_eq_true, decide_eq_true_iff]
  constructor
  · rintro ⟨g, hg, h⟩
    obtain ⟨x, hx, rfl⟩ := List.mem_map.1 hg
    exact List.mem_map.2 ⟨x, hx, of_decide_eq_true h⟩
  · intro h
    obtain ⟨x, hx, e⟩ := List.mem_map.1 h
    exact ⟨_, List.mem_map.2 ⟨x, hx, rfl⟩, decide_eq_true e⟩
end Go.Proofs.YtaheiolbeiofpaaGreatDoor.Pl
/-
  The program's draft of layer 5 in memory: its numbers, its sections and signals as they were told.
-/
namespace Go.Proofs.YtaheiolbeiofpaaGreatDoor
open Go.RowKit

/-- A draft's cells: which numbers are told, the numbers, its sections, its signals. -/
def draftCells (M : List It.Itm) (vS vG : Value) : Array Value :=
  #[.bool false, .bool (toldB M 1), .bool (toldB M 2), .bool (toldB M 3), .bool (toldB M 4), .int .i64 0, .int .i64 (Pl.num M 1), .int .i64 (Pl.num M 2), .int .i64 (Pl.num M 3), .int .i64 (Pl.num M 4), vS, vG]
/-- Block g is a draft, with the numbers of M, and these sections and signals. -/
def DrX (tD tS tG : TypeId) (w : World) (g : Nat) (M : List It.Itm) (vS vG : Value) (LS : List Pl.Sec) (LG : List Pl.Sig) : Prop :=
  w.heap[g]? = some (.cells (draftCells M vS vG) tD (0, 0)) ∧ w.ownsRow (g + 1) tS LSec.m vS LS.length (LSec.all LS) ∧ w.ownsRow (g + 1) tG LSig.m vG LG.length (LSig.all LG) ∧ ∀ k, vS.ownBlock = some k → vG.ownBlock ≠ some k
/-- Block g is the draft behind the lines M. -/
def DrAt (tD tS tG : TypeId) (w : World) (g : Nat) (M : List It.Itm) : Prop := ∃ vS vG, DrX tD tS tG w g M vS vG (Pl.dS M) (Pl.wG M)
theorem DrX.below {tD tS tG : TypeId} {w w' : World} {g : Nat} {M : List It.Itm} {vS vG : Value} {LS : List Pl.Sec} {LG : List Pl.Sig} (h : DrX tD tS tG w g M vS vG LS LG) (hb : Below w.heap.size w w') : DrX tD tS tG w' g M vS vG LS LG := by
  obtain ⟨h1, h2, h3, h4⟩ := h
  exact ⟨(hb.block _ (Array.getElem?_eq_some_iff.1 h1).1).trans h1, ownsRow_below h2 hb, ownsRow_below h3 hb, h4⟩
theorem DrAt.below {tD tS tG : TypeId} {w w' : World} {g : Nat} {M : List It.Itm} (h : DrAt tD tS tG w g M) (hb : Below w.heap.size w w') : DrAt tD tS tG w' g M := by
  obtain ⟨vS, vG, h⟩ := h
  exact ⟨vS, vG, h.below hb⟩
theorem DrX.drew {tD tS tG : TypeId} {w : World} {g : Nat} {M : List It.Itm} {vS vG : Value} {LS : List Pl.Sec} {LG : List Pl.Sig} (h : DrX tD tS tG w g M vS vG LS LG) : DrX tD tS tG w.drew g M vS vG LS LG :=
  ⟨h.1, h.2.1.drew, h.2.2.1.drew, h.2.2.2⟩
theorem draft_row {w : World} {g : Nat} {t : TypeId} {M : List It.Itm} {vS vG : Value} (h : w.heap[g]? = some (.cells (draftCells M vS vG) t (0, 0))) :
    (w.cell? ⟨g, 1, none⟩ = some (.bool (toldB M 1)) ∧ w.cell? ⟨g, 2, none⟩ = some (.bool (toldB M 2)) ∧ w.cell? ⟨g, 3, none⟩ = some (.bool (toldB M 3)) ∧ w.cell? ⟨g, 4, none⟩ = some (.bool (toldB M 4))) ∧
    (w.cell? ⟨g, 6, none⟩ = some (.int .i64 (Pl.num M 1)) ∧ w.cell? ⟨g, 7, none⟩ = some (.int .i64 (Pl.num M 2)) ∧ w.cell? ⟨g, 8, none⟩ = some (.int .i64 (Pl.num M 3)) ∧ w.cell? ⟨g, 9, none⟩ = some (.int .i64 (Pl.num M 4))) ∧
    (w.cell? ⟨g, 10, none⟩ = some vS ∧ w.cell? ⟨g, 11, none⟩ = some vG) ∧ (∀ j, w.frozen? ⟨g, j, none⟩ = false) ∧ g < w.heap.size :=
  ⟨⟨cell_of_row w g 1 _ t _ h, cell_of_row w g 2 _ t _ h, cell_of_row w g 3 _ t _ h, cell_of_row w g 4 _ t _ h⟩,
    ⟨cell_of_row w g 6 _ t _ h, cell_of_row w g 7 _ t _ h, cell_of_row w g 8 _ t _ h, cell_of_row w g 9 _ t _ h⟩,
    ⟨cell_of_row w g 10 _ t _ h, cell_of_row w g 11 _ t _ h⟩, fun j => frozen_of_row w g j _ t h, (Array.getElem?_eq_some_iff.1 h).1⟩
/-- One cell of one section is written. -/
theorem DrX.store {tD tS tG : TypeId} {w : World} {g gb n cap : Nat} {M : List It.Itm} {vG : Value} {LS : List Pl.Sec} {LG : List Pl.Sig} (h : DrX tD tS tG w g M (.slice (some ⟨gb, 0, none⟩) n cap) vG LS LG) {i j : Nat} {s : Pl.Sec} (hs : LS[i]? = some s) (hj : j < 12) (F : Pl.Sec → Pl.Sec) (u : Value) (hu : (secCells s).set j u = secCells (F s)) :
    DrX tD tS tG (w.setCell ⟨gb, i * 12 + j, none⟩ u) g M (.slice (some ⟨gb, 0, none⟩) n cap) vG (LS.modify i F) LG := by
  obtain ⟨h1, h2, h3, h4⟩ := h
  have hn : n = LS.length := by
    rcases h2.2 with ⟨h, _⟩ | ⟨g', cap', cur, h, _⟩
    · cases h
    · cases h; rfl
  subst hn
  have hgb := h2.lt gb rfl
  have hne : gb ≠ g := by omega
  refine ⟨?_, ?_, ?_, h4⟩
  · rw [heap_setCell_other _ ⟨gb, i * 12 + j, none⟩ g u (by simpa using fun e => hne e.symm)]; exact h1
  · have := (h2.stored (i * 12 + j) u).1
    rw [all_modify LS i j F s hs hj u hu] at this
    rw [List.length_modify]
    exact this
  · refine own_kept h3 fun b hb => heap_setCell_other _ ⟨gb, i * 12 + j, none⟩ b u ?_
    have := h4 gb rfl
    simpa using fun e => this (by rw [hb, e])
/-- One end of one section is written. -/
theorem DrX.lead {tD tS tG : TypeId} {w : World} {g gb n cap : Nat} {M : List It.Itm} {vG : Value} {LS : List Pl.Sec} {LG : List Pl.Sig} (h : DrX tD tS tG w g M (.slice (some ⟨gb, 0, none⟩) n cap) vG LS LG) {i e : Nat} {s : Pl.Sec} (hs : LS[i]? = some s) (he : e < 3) (a1 a2 : Int) :
    DrX tD tS tG (((w.setCell ⟨gb, i * 12 + 3 + e * 3, none⟩ (.int .i64 a1)).setCell ⟨gb, i * 12 + 3 + e * 3 + 1, none⟩ (.int .i64 a2)).setCell ⟨gb, i * 12 + 3 + e * 3 + 2, none⟩ (.int .i64 (-1))) g M (.slice (some ⟨gb, 0, none⟩) n cap) vG (LS.modify i (Pl.ledTo e a1 a2)) LG := by
  have m1 : ∀ (L : List Pl.Sec) (t : Pl.Sec) (F : Pl.Sec → Pl.Sec), L[i]? = some t → (L.modify i F)[i]? = some (F t) := fun L t F ht => by rw [Pl.modify_at, if_pos rfl, ht]; rfl
  have a := h.store hs (j := 3 + e * 3) (by omega) (Pl.Sec.setTo e a1) (.int .i64 a1) (setTo_cells he a1 s)
  have b := a.store (m1 _ _ _ hs) (j := 3 + e * 3 + 1) (by omega) (Pl.Sec.setAt e a2) (.int .i64 a2) (setAt_cells he a2 _)
  have c := b.store (m1 _ _ _ (m1 _ _ _ hs)) (j := 3 + e * 3 + 2) (by omega) (Pl.Sec.setSig e (-1)) (.int .i64 (-1)) (setSig_cells he (-1) _)
  simp only [← Nat.add_assoc] at c
  have e1 : (((LS.modify i (Pl.Sec.setTo e a1)).modify i (Pl.Sec.setAt e a2)).modify i (Pl.Sec.setSig e (-1))) = LS.modify i (Pl.ledTo e a1 a2) := by
    apply List.ext_getElem?
    intro k
    rw [Pl.modify_at, Pl.modify_at, Pl.modify_at, Pl.modify_at]
    by_cases hik : i = k
    · subst hik
      rw [if_pos rfl, if_pos rfl, if_pos rfl, if_pos rfl, hs]
      simp only [Option.map_some]
      congr 1
      have : e = 0 ∨ e = 1 ∨ e = 2 := by omega
      rcases this with rfl | rfl | rfl <;> rfl
    · rw [if_neg hik, if_neg hik, if_neg hik, if_neg hik]
  rw [e1] at c
  exact c
theorem DrX.slice {tD tS tG : TypeId} {w : World} {g : Nat} {M : List It.Itm} {vS vG : Value} {LS : List Pl.Sec} {LG : List Pl.Sig} (h : DrX tD tS tG w g M vS vG LS LG) (hn : 0 < LS.length) : ∃ gb cap, vS = .slice (some ⟨gb, 0, none⟩) LS.length cap := by
  obtain ⟨gb, cap, e, _⟩ := h.2.1.form hn
  exact ⟨gb, cap, e⟩
/-- What a walk reads of the draft, and of a section of it. -/
theorem DrX.reads {tD tS tG : TypeId} {w : World} {g gb n cap : Nat} {M : List It.Itm} {vG : Value} {LS : List Pl.Sec} {LG : List Pl.Sig} (h : DrX tD tS tG w g M (.slice (some ⟨gb, 0, none⟩) n cap) vG LS LG) {i e : Nat} {s : Pl.Sec} (hs : LS[i]? = some s) (he : e < 3) :
    w.cell? ⟨g, 10, none⟩ = some (.slice (some ⟨gb, 0, none⟩) n cap) ∧ w.cell? ⟨gb, i * 12 + 3 + e * 3, none⟩ = some (.int .i64 (s.get e).goes) ∧ w.cell? ⟨gb, i * 12 + 3 + e * 3 + 1, none⟩ = some (.int .i64 (s.get e).at_) ∧ w.cell? ⟨gb, i * 12 + 3 + e * 3 + 2, none⟩ = some (.int .i64 (s.get e).sig) ∧
      (∀ o, w.frozen? ⟨gb, o, none⟩ = false) ∧ g < w.heap.size ∧ gb < w.heap.size ∧ g < gb ∧ n = LS.length ∧ i < n := by
  obtain ⟨h1, h2, h3, h4⟩ := h
  have hn : n = LS.length := by
    rcases h2.2 with ⟨h, _⟩ | ⟨g', cap', cur, h, _⟩
    · cases h
    · cases h; rfl
  subst hn
  have on := Lies.own_on h2 hs
  have hgb := h2.lt gb rfl
  exact ⟨(draft_row h1).2.2.1.1, on_to on he, on_at on he, on_sig on he, fun o => h2.frozenAt o, (draft_row h1).2.2.2.2, hgb.2, by omega, rfl, (List.getElem?_eq_some_iff.1 hs).1⟩
/-- What a line more leaves. -/
def DrGives (tD tS tG : TypeId) (g : Nat) (M : List It.Itm) (x : It.Itm) (er : Int) (w : World) (e : Ending) (w' : World) : Prop :=
  e = .returned (.int .i64 er) ∧ (er = 0 → DrAt tD tS tG w' g (M ++ [x])) ∧ Below g w w'
theorem draft_keep {M : List It.Itm} {x : It.Itm} (h : It.isNum x.k = false) (vS vG : Value) : draftCells (M ++ [x]) vS vG = draftCells M vS vG := by
  have hk : ∀ k : Int, 1 ≤ k → k ≤ 4 → x.k ≠ k := fun k h1 h2 e => by
    unfold It.isNum at h
    exact absurd (show 1 ≤ x.k ∧ x.k ≤ 4 by omega) (of_decide_eq_false h)
  have n1 := hk 1 (by decide) (by decide)
  have n2 := hk 2 (by decide) (by decide)
  have n3 := hk 3 (by decide) (by decide)
  have n4 := hk 4 (by decide) (by decide)
  simp [draftCells, toldB_snoc, Pl.num_other n1, Pl.num_other n2, Pl.num_other n3, Pl.num_other n4, n1, n2, n3, n4]
end Go.Proofs.YtaheiolbeiofpaaGreatDoor
/-
  The library contracts over structs that this seat uses, laid at its translation in plain words by the kit's own script.
-/
namespace Go.Proofs
open Go.Shelf
def Tryz.layFindSec_ren : Go.Shelf.Ren := ⟨fun | 6 => 31 | n => n, fun | 22 => 25 | 23 => 51 | 25 => 71 | 3 => 3 | 0 => 0 | 4 => 4 | n => n, fun | n => n⟩
theorem Tryz.layFindSec : Go.Proofs.SlLaysH0.n6 Tryz.prog Tryz.layFindSec_ren := {
  mixed := by kernel_rfl
  f6 := ⟨Tryz.f31.name, by decide, Tryz.func31.trans (congrArg some (by kernel_rfl))⟩
  t0 := Tryz.underlying0
  a0 := Tryz.isAgg0
  z0 := Tryz.sizeOf0
  v0 := Tryz.zeroValue0
  t3 := Tryz.underlying3
  a3 := Tryz.isAgg3
  z3 := Tryz.sizeOf3
  v3 := Tryz.zeroValue3
  t4 := Tryz.underlying4
  a4 := Tryz.isAgg4
  z4 := Tryz.sizeOf4
  v4 := Tryz.zeroValue4
  t22 := Tryz.underlying25
  a22 := Tryz.isAgg25
  z22 := Tryz.sizeOf25
  v22 := Tryz.zeroValue25
  t25 := Tryz.underlying71
  a25 := Tryz.isAgg71
  z25 := Tryz.sizeOf71
  v25 := Tryz.zeroValue71 }
def Tryz.layCloneSec_ren : Go.Shelf.Ren := ⟨fun | 41 => 53 | n => n, fun | 22 => 25 | 23 => 51 | 4 => 4 | n => n, fun | n => n⟩
theorem Tryz.layCloneSec : Go.Proofs.SlLaysE0.n41 Tryz.prog Tryz.layCloneSec_ren := {
  mixed := by kernel_rfl
  f41 := ⟨Tryz.f53.name, by decide, Tryz.func53.trans (congrArg some (by kernel_rfl))⟩
  t4 := Tryz.underlying4
  a4 := Tryz.isAgg4
  z4 := Tryz.sizeOf4
  v4 := Tryz.zeroValue4
  t22 := Tryz.underlying25
  a22 := Tryz.isAgg25
  z22 := Tryz.sizeOf25
  v22 := Tryz.zeroValue25 }
def Tryz.laySortSec_ren : Go.Shelf.Ren := ⟨fun | 6 => 55 | 15 => 86 | 14 => 85 | 28 => 108 | 29 => 109 | 20 => 100 | 21 => 101 | 22 => 102 | 23 => 103 | 24 => 104 | 25 => 105 | 26 => 106 | 27 => 107 | 46 => 126 | 47 => 127 | 48 => 128 | 49 => 129 | 50 => 130 | 57 => 142 | n => n, fun | 22 => 25 | 24 => 51 | 25 => 98 | 3 => 3 | 39 => 121 | 0 => 0 | 53 => 137 | 55 => 139 | 4 => 4 | 46 => 131 | 45 => 130 | 50 => 108 | 5 => 5 | 9 => 9 | 66 => 148 | 70 => 152 | 76 => 158 | 77 => 106 | n => n, fun | n => n⟩
theorem Tryz.laySortSec : Go.Proofs.SlLaysF0.n6 Tryz.prog Tryz.laySortSec_ren := {
  mixed := by kernel_rfl
  f6 := ⟨Tryz.f55.name, by decide, Tryz.func55.trans (congrArg some (by kernel_rfl))⟩
  f14 := ⟨Tryz.f85.name, by decide, Tryz.func85.trans (congrArg some (by kernel_rfl))⟩
  f15 := Tryz.func86.trans (congrArg some (by kernel_rfl))
  f20 := ⟨Tryz.f100.name, by decide, Tryz.func100.trans (congrArg some (by kernel_rfl))⟩
  f21 := ⟨Tryz.f101.name, by decide, Tryz.func101.trans (congrArg some (by kernel_rfl))⟩
  f22 := ⟨Tryz.f102.name, by decide, Tryz.func102.trans (congrArg some (by kernel_rfl))⟩
  f23 := ⟨Tryz.f103.name, by decide, Tryz.func103.trans (congrArg some (by kernel_rfl))⟩
  f24 := ⟨Tryz.f104.name, by decide, Tryz.func104.trans (congrArg some (by kernel_rfl))⟩
  f25 := ⟨Tryz.f105.name, by decide, Tryz.func105.trans (congrArg some (by kernel_rfl))⟩
  f26 := ⟨Tryz.f106.name, by decide, Tryz.func106.trans (congrArg some (by kernel_rfl))⟩
  f27 := ⟨Tryz.f107.name, by decide, Tryz.func107.trans (congrArg some (by kernel_rfl))⟩
  f28 := Tryz.func108.trans (congrArg some (by kernel_rfl))
  f29 := Tryz.func109.trans (congrArg some (by kernel_rfl))
  f46 := ⟨Tryz.f126.name, by decide, Tryz.func126.trans (congrArg some (by kernel_rfl))⟩
  f47 := Tryz.func127.trans (congrArg some (by kernel_rfl))
  f48 := Tryz.func128.trans (congrArg some (by kernel_rfl))
  f49 := ⟨Tryz.f129.name, by decide, Tryz.func129.trans (congrArg some (by kernel_rfl))⟩
  f50 := ⟨Tryz.f130.name, by decide, Tryz.func130.trans (congrArg some (by kernel_rfl))⟩
  f57 := ⟨Tryz.f142.name, by decide, Tryz.func142.trans (congrArg some (by kernel_rfl))⟩
  t0 := Tryz.underlying0
  a0 := Tryz.isAgg0
  z0 := Tryz.sizeOf0
  v0 := Tryz.zeroValue0
  t3 := Tryz.underlying3
  a3 := Tryz.isAgg3
  z3 := Tryz.sizeOf3
  v3 := Tryz.zeroValue3
  t4 := Tryz.underlying4
  a4 := Tryz.isAgg4
  z4 := Tryz.sizeOf4
  v4 := Tryz.zeroValue4
  t5 := Tryz.underlying5
  a5 := Tryz.isAgg5
  z5 := Tryz.sizeOf5
  v5 := Tryz.zeroValue5
  t9 := Tryz.underlying9
  a9 := Tryz.isAgg9
  z9 := Tryz.sizeOf9
  v9 := Tryz.zeroValue9
  t22 := Tryz.underlying25
  a22 := Tryz.isAgg25
  z22 := Tryz.sizeOf25
  v22 := Tryz.zeroValue25
  t25 := Tryz.underlying98
  a25 := Tryz.isAgg98
  z25 := Tryz.sizeOf98
  v25 := Tryz.zeroValue98
  t39 := Tryz.underlying121
  a39 := Tryz.isAgg121
  z39 := Tryz.sizeOf121
  v39 := Tryz.zeroValue121
  t45 := Tryz.underlying130
  a45 := Tryz.isAgg130
  z45 := Tryz.sizeOf130
  v45 := Tryz.zeroValue130
  t46 := Tryz.underlying131
  a46 := Tryz.isAgg131
  z46 := Tryz.sizeOf131
  v46 := Tryz.zeroValue131
  t50 := Tryz.underlying108
  a50 := Tryz.isAgg108
  z50 := Tryz.sizeOf108
  v50 := Tryz.zeroValue108
  t53 := Tryz.underlying137
  a53 := Tryz.isAgg137
  z53 := Tryz.sizeOf137
  v53 := Tryz.zeroValue137
  t55 := Tryz.underlying139
  a55 := Tryz.isAgg139
  z55 := Tryz.sizeOf139
  v55 := Tryz.zeroValue139
  t66 := Tryz.underlying148
  a66 := Tryz.isAgg148
  z66 := Tryz.sizeOf148
  v66 := Tryz.zeroValue148
  t70 := Tryz.underlying152
  a70 := Tryz.isAgg152
  z70 := Tryz.sizeOf152
  v70 := Tryz.zeroValue152
  t76 := Tryz.underlying158
  a76 := Tryz.isAgg158
  z76 := Tryz.sizeOf158
  v76 := Tryz.zeroValue158
  t77 := Tryz.underlying106
  a77 := Tryz.isAgg106
  z77 := Tryz.sizeOf106
  v77 := Tryz.zeroValue106 }
def Tryz.layFindSig_ren : Go.Shelf.Ren := ⟨fun | 6 => 99 | n => n, fun | 22 => 26 | 23 => 53 | 25 => 116 | 3 => 3 | 0 => 0 | 4 => 4 | n => n, fun | n => n⟩
theorem Tryz.layFindSig : Go.Proofs.SlLaysH0.n6 Tryz.prog Tryz.layFindSig_ren := {
  mixed := by kernel_rfl
  f6 := ⟨Tryz.f99.name, by decide, Tryz.func99.trans (congrArg some (by kernel_rfl))⟩
  t0 := Tryz.underlying0
  a0 := Tryz.isAgg0
  z0 := Tryz.sizeOf0
  v0 := Tryz.zeroValue0
  t3 := Tryz.underlying3
  a3 := Tryz.isAgg3
  z3 := Tryz.sizeOf3
  v3 := Tryz.zeroValue3
  t4 := Tryz.underlying4
  a4 := Tryz.isAgg4
  z4 := Tryz.sizeOf4
  v4 := Tryz.zeroValue4
  t22 := Tryz.underlying26
  a22 := Tryz.isAgg26
  z22 := Tryz.sizeOf26
  v22 := Tryz.zeroValue26
  t25 := Tryz.underlying116
  a25 := Tryz.isAgg116
  z25 := Tryz.sizeOf116
  v25 := Tryz.zeroValue116 }
def Tryz.layHasSig_ren : Go.Shelf.Ren := ⟨fun | 8 => 80 | 6 => 99 | n => n, fun | 22 => 26 | 23 => 53 | 25 => 116 | 4 => 4 | 3 => 3 | 0 => 0 | n => n, fun | n => n⟩
theorem Tryz.layHasSig : Go.Proofs.SlLaysH0.n8 Tryz.prog Tryz.layHasSig_ren := {
  mixed := by kernel_rfl
  f6 := ⟨Tryz.f99.name, by decide, Tryz.func99.trans (congrArg some (by kernel_rfl))⟩
  f8 := ⟨Tryz.f80.name, by decide, Tryz.func80.trans (congrArg some (by kernel_rfl))⟩
  t0 := Tryz.underlying0
  a0 := Tryz.isAgg0
  z0 := Tryz.sizeOf0
  v0 := Tryz.zeroValue0
  t3 := Tryz.underlying3
  a3 := Tryz.isAgg3
  z3 := Tryz.sizeOf3
  v3 := Tryz.zeroValue3
  t4 := Tryz.underlying4
  a4 := Tryz.isAgg4
  z4 := Tryz.sizeOf4
  v4 := Tryz.zeroValue4
  t22 := Tryz.underlying26
  a22 := Tryz.isAgg26
  z22 := Tryz.sizeOf26
  v22 := Tryz.zeroValue26
  t25 := Tryz.underlying116
  a25 := Tryz.isAgg116
  z25 := Tryz.sizeOf116
  v25 := Tryz.zeroValue116 }
def Tryz.layCloneSig_ren : Go.Shelf.Ren := ⟨fun | 41 => 54 | n => n, fun | 22 => 26 | 23 => 53 | 4 => 4 | n => n, fun | n => n⟩
theorem Tryz.layCloneSig : Go.Proofs.SlLaysE0.n41 Tryz.prog Tryz.layCloneSig_ren := {
  mixed := by kernel_rfl
  f41 := ⟨Tryz.f54.name, by decide, Tryz.func54.trans (congrArg some (by kernel_rfl))⟩
  t4 := Tryz.underlying4
  a4 := Tryz.isAgg4
  z4 := Tryz.sizeOf4
  v4 := Tryz.zeroValue4
  t22 := Tryz.underlying26
  a22 := Tryz.isAgg26
  z22 := Tryz.sizeOf26
  v22 := Tryz.zeroValue26 }
def Tryz.laySortSig_ren : Go.Shelf.Ren := ⟨fun | 6 => 58 | 15 => 86 | 14 => 88 | 28 => 108 | 29 => 109 | 20 => 110 | 21 => 111 | 22 => 112 | 23 => 113 | 24 => 114 | 25 => 115 | 26 => 116 | 27 => 117 | 46 => 131 | 47 => 127 | 48 => 128 | 49 => 132 | 50 => 133 | 57 => 143 | n => n, fun | 22 => 26 | 24 => 53 | 25 => 100 | 3 => 3 | 39 => 121 | 0 => 0 | 53 => 137 | 55 => 139 | 4 => 4 | 46 => 131 | 45 => 130 | 50 => 108 | 5 => 5 | 9 => 9 | 66 => 148 | 70 => 152 | 76 => 158 | 77 => 106 | n => n, fun | n => n⟩
theorem Tryz.laySortSig : Go.Proofs.SlLaysF0.n6 Tryz.prog Tryz.laySortSig_ren := {
  mixed := by kernel_rfl
  f6 := ⟨Tryz.f58.name, by decide, Tryz.func58.trans (congrArg some (by kernel_rfl))⟩
  f14 := ⟨Tryz.f88.name, by decide, Tryz.func88.trans (congrArg some (by kernel_rfl))⟩
  f15 := Tryz.func86.trans (congrArg some (by kernel_rfl))
  f20 := ⟨Tryz.f110.name, by decide, Tryz.func110.trans (congrArg some (by kernel_rfl))⟩
  f21 := ⟨Tryz.f111.name, by decide, Tryz.func111.trans (congrArg some (by kernel_rfl))⟩
  f22 := ⟨Tryz.f112.name, by decide, Tryz.func112.trans (congrArg some (by kernel_rfl))⟩
  f23 := ⟨Tryz.f113.name, by decide, Tryz.func113.trans (congrArg some (by kernel_rfl))⟩
  f24 := ⟨Tryz.f114.name, by decide, Tryz.func114.trans (congrArg some (by kernel_rfl))⟩
  f25 := ⟨Tryz.f115.name, by decide, Tryz.func115.trans (congrArg some (by kernel_rfl))⟩
  f26 := ⟨Tryz.f116.name, by decide, Tryz.func116.trans (congrArg some (by kernel_rfl))⟩
  f27 := ⟨Tryz.f117.name, by decide, Tryz.func117.trans (congrArg some (by kernel_rfl))⟩
  f28 := Tryz.func108.trans (congrArg some (by kernel_rfl))
  f29 := Tryz.func109.trans (congrArg some (by kernel_rfl))
  f46 := ⟨Tryz.f131.name, by decide, Tryz.func131.trans (congrArg some (by kernel_rfl))⟩
  f47 := Tryz.func127.trans (congrArg some (by kernel_rfl))
  f48 := Tryz.func128.trans (congrArg some (by kernel_rfl))
  f49 := ⟨Tryz.f132.name, by decide, Tryz.func132.trans (congrArg some (by kernel_rfl))⟩
  f50 := ⟨Tryz.f133.name, by decide, Tryz.func133.trans (congrArg some (by kernel_rfl))⟩
  f57 := ⟨Tryz.f143.name, by decide, Tryz.func143.trans (congrArg some (by kernel_rfl))⟩
  t0 := Tryz.underlying0
  a0 := Tryz.isAgg0
  z0 := Tryz.sizeOf0
  v0 := Tryz.zeroValue0
  t3 := Tryz.underlying3
  a3 := Tryz.isAgg3
  z3 := Tryz.sizeOf3
  v3 := Tryz.zeroValue3
  t4 := Tryz.underlying4
  a4 := Tryz.isAgg4
  z4 := Tryz.sizeOf4
  v4 := Tryz.zeroValue4
  t5 := Tryz.underlying5
  a5 := Tryz.isAgg5
  z5 := Tryz.sizeOf5
  v5 := Tryz.zeroValue5
  t9 := Tryz.underlying9
  a9 := Tryz.isAgg9
  z9 := Tryz.sizeOf9
  v9 := Tryz.zeroValue9
  t22 := Tryz.underlying26
  a22 := Tryz.isAgg26
  z22 := Tryz.sizeOf26
  v22 := Tryz.zeroValue26
  t25 := Tryz.underlying100
  a25 := Tryz.isAgg100
  z25 := Tryz.sizeOf100
  v25 := Tryz.zeroValue100
  t39 := Tryz.underlying121
  a39 := Tryz.isAgg121
  z39 := Tryz.sizeOf121
  v39 := Tryz.zeroValue121
  t45 := Tryz.underlying130
  a45 := Tryz.isAgg130
  z45 := Tryz.sizeOf130
  v45 := Tryz.zeroValue130
  t46 := Tryz.underlying131
  a46 := Tryz.isAgg131
  z46 := Tryz.sizeOf131
  v46 := Tryz.zeroValue131
  t50 := Tryz.underlying108
  a50 := Tryz.isAgg108
  z50 := Tryz.sizeOf108
  v50 := Tryz.zeroValue108
  t53 := Tryz.underlying137
  a53 := Tryz.isAgg137
  z53 := Tryz.sizeOf137
  v53 := Tryz.zeroValue137
  t55 := Tryz.underlying139
  a55 := Tryz.isAgg139
  z55 := Tryz.sizeOf139
  v55 := Tryz.zeroValue139
  t66 := Tryz.underlying148
  a66 := Tryz.isAgg148
  z66 := Tryz.sizeOf148
  v66 := Tryz.zeroValue148
  t70 := Tryz.underlying152
  a70 := Tryz.isAgg152
  z70 := Tryz.sizeOf152
  v70 := Tryz.zeroValue152
  t76 := Tryz.underlying158
  a76 := Tryz.isAgg158
  z76 := Tryz.sizeOf158
  v76 := Tryz.zeroValue158
  t77 := Tryz.underlying106
  a77 := Tryz.isAgg106
  z77 := Tryz.sizeOf106
  v77 := Tryz.zeroValue106 }
def Tryz.layFindEnd_ren : Go.Shelf.Ren := ⟨fun | 6 => 84 | n => n, fun | 22 => 87 | 23 => 48 | 25 => 88 | 3 => 3 | 0 => 0 | 4 => 4 | n => n, fun | n => n⟩
theorem Tryz.layFindEnd : Go.Proofs.SlLaysH0.n6 Tryz.prog Tryz.layFindEnd_ren := {
  mixed := by kernel_rfl
  f6 := ⟨Tryz.f84.name, by decide, Tryz.func84.trans (congrArg some (by kernel_rfl))⟩
  t0 := Tryz.underlying0
  a0 := Tryz.isAgg0
  z0 := Tryz.sizeOf0
  v0 := Tryz.zeroValue0
  t3 := Tryz.underlying3
  a3 := Tryz.isAgg3
  z3 := Tryz.sizeOf3
  v3 := Tryz.zeroValue3
  t4 := Tryz.underlying4
  a4 := Tryz.isAgg4
  z4 := Tryz.sizeOf4
  v4 := Tryz.zeroValue4
  t22 := Tryz.underlying87
  a22 := Tryz.isAgg87
  z22 := Tryz.sizeOf87
  v22 := Tryz.zeroValue87
  t25 := Tryz.underlying88
  a25 := Tryz.isAgg88
  z25 := Tryz.sizeOf88
  v25 := Tryz.zeroValue88 }
def Tryz.layHasEnd_ren : Go.Shelf.Ren := ⟨fun | 8 => 49 | 6 => 84 | n => n, fun | 22 => 87 | 23 => 48 | 25 => 88 | 4 => 4 | 3 => 3 | 0 => 0 | n => n, fun | n => n⟩
theorem Tryz.layHasEnd : Go.Proofs.SlLaysH0.n8 Tryz.prog Tryz.layHasEnd_ren := {
  mixed := by kernel_rfl
  f6 := ⟨Tryz.f84.name, by decide, Tryz.func84.trans (congrArg some (by kernel_rfl))⟩
  f8 := ⟨Tryz.f49.name, by decide, Tryz.func49.trans (congrArg some (by kernel_rfl))⟩
  t0 := Tryz.underlying0
  a0 := Tryz.isAgg0
  z0 := Tryz.sizeOf0
  v0 := Tryz.zeroValue0
  t3 := Tryz.underlying3
  a3 := Tryz.isAgg3
  z3 := Tryz.sizeOf3
  v3 := Tryz.zeroValue3
  t4 := Tryz.underlying4
  a4 := Tryz.isAgg4
  z4 := Tryz.sizeOf4
  v4 := Tryz.zeroValue4
  t22 := Tryz.underlying87
  a22 := Tryz.isAgg87
  z22 := Tryz.sizeOf87
  v22 := Tryz.zeroValue87
  t25 := Tryz.underlying88
  a25 := Tryz.isAgg88
  z25 := Tryz.sizeOf88
  v25 := Tryz.zeroValue88 }
end Go.Proofs
/-
  The walks of the program's layer 5: an end's letter, the place of a name.
-/
namespace Go.Proofs.YtaheiolbeiofpaaGreatDoor
open Go.RowKit

set_option maxHeartbeats 4000000 in
set_option maxRecDepth 100000 in
theorem pLetter_any (pt : Bool) (e : Int) (w : World) :
    Calls Tryz.prog 15 #[.bool pt, .int .i64 e] w fun x w' => x = .returned (.int .u8 (letterI pt e).toNat) ∧ w = w' := by
  by_cases h0 : e < 0
  · have d0 : decide (e < 0) = true := dec_t h0
    have P := Lib.hid (show letterI pt e = 0 by unfold letterI; rw [if_neg (by omega)])
    clear h0
    cases pt
    all_goals
      go_enter Tryz.func15, Tryz.ntmps15
      go_wp2
      go_ret
      exact ⟨by rw [P.out]; rfl, rfl⟩
  · have d0 : decide (e < 0) = false := dec_f h0
    by_cases h2 : 2 < e
    · have P := Lib.hid (show letterI pt e = 0 by unfold letterI; rw [if_neg (by omega)])
      have d2 : decide (e ≥ 3) = true := dec_t (by omega)
      have d3 : decide (3 ≤ e) = true := dec_t (by omega)
      have d4 : decide (e ≥ 2) = true := dec_t (by omega)
      have d5 : decide (2 ≤ e) = true := dec_t (by omega)
      clear h0 h2
      cases pt
      all_goals
        go_enter Tryz.func15, Tryz.ntmps15
        go_wp2
        go_ret
        exact ⟨by rw [P.out]; rfl, rfl⟩
    · have he : e = 0 ∨ e = 1 ∨ e = 2 := by omega
      clear d0 h0 h2
      rcases he with rfl | rfl | rfl
      all_goals
        cases pt
        all_goals
          go_enter Tryz.func15, Tryz.ntmps15
          go_wp2
          go_ret
          exact ⟨rfl, rfl⟩
instance instInhSec : Inhabited Pl.Sec := ⟨⟨[], false, 0, Pl.stop, Pl.stop, Pl.stop⟩⟩
instance instInhSig : Inhabited Pl.Sig := ⟨⟨[], 0, 0⟩⟩
theorem idx_from (nm : Pl.Nm) (d : Pl.Sec) : ∀ (l : List Pl.Sec) (i : Nat), Lib.idxByFrom (fun _ y => decide (y.name = nm)) d l i = match l.findIdx? fun s => decide (s.name = nm) with | some k => ((i + k : Nat) : Int) | none => -1
  | [], i => rfl
  | y :: r, i => by
    rw [Lib.idxByFrom, List.findIdx?_cons, idx_from nm d r (i + 1)]
    by_cases h : y.name = nm
    · simp [h]
    · simp only [h, decide_false, Bool.false_eq_true, ↓reduceIte]
      cases r.findIdx? fun s => decide (s.name = nm) with
      | none => rfl
      | some k =>
        show ((i + 1 + k : Nat) : Int) = ((i + (k + 1) : Nat) : Int)
        congr 1; omega
theorem idx_find (l : List Pl.Sec) (nm : Pl.Nm) : Lib.idxBy (fun _ y => decide (y.name = nm)) (l.take l.length) default = Pl.find l nm := by
  rw [List.take_of_length_le (Nat.le_refl _), Lib.idxBy, idx_from]
  unfold Pl.find
  cases l.findIdx? fun s => decide (s.name = nm) <;> simp
set_option maxHeartbeats 4000000 in
set_option maxRecDepth 100000 in
theorem pNamed (nm : Pl.Nm) (B : Nat) (w : World) (hB : B < w.heap.size) (hcell : w.cell? ⟨B, 0, none⟩ = some (.string (txt nm))) :
    PredBelow Tryz.prog 32 #[.pointer (some ⟨B, 0, none⟩)] (fun x => .agg (secCells x).toArray) (fun x => decide (x.name = nm)) w := fun W x hb => by
  have hc : W.cell? ⟨B, 0, none⟩ = some (.string (txt nm)) := (hb.cell (p := ⟨B, 0, none⟩) hB).trans hcell
  have hBW : B < W.heap.size := Nat.lt_of_lt_of_le hB hb.size
  have hne : B ≠ W.heap.size := by omega
  have HB := Lib.hid hb
  have hs := hb.size
  show Calls Tryz.prog 32 #[.agg #[.string (txt x.name), .bool x.pt, .int .i64 x.len, .int .i64 x.e0.goes, .int .i64 x.e0.at_, .int .i64 x.e0.sig, .int .i64 x.e1.goes, .int .i64 x.e1.at_, .int .i64 x.e1.sig, .int .i64 x.e2.goes, .int .i64 x.e2.at_, .int .i64 x.e2.sig], .pointer (some ⟨B, 0, none⟩)] W _
  clear hb hcell
  by_cases h : x.name = nm
  · have h1 := txt_eqB h
    have P := Lib.hid (decide_eq_true h)
    clear h
    go_enter Tryz.func32, Tryz.ntmps32
    go_wp2
    go_ret
    exact ⟨by rw [P.out]; rfl, HB.out.alloc hs _⟩
  · have h1 := txt_neB h
    have P := Lib.hid (decide_eq_false h)
    clear h
    go_enter Tryz.func32, Tryz.ntmps32
    go_wp2
    go_ret
    exact ⟨by rw [P.out]; rfl, HB.out.alloc hs _⟩
theorem row_cells {α : Type} [Inhabited α] {E : Lies α} {w : World} {b o : Nat} {L : List α} (h : ∀ k y, L[k]? = some y → E.On w b (o + k * E.m) y) :
    ∀ j, j < L.length → ∀ i v, (E.enc L[j]!)[i]? = some v → w.cell? ⟨b, o + j * E.m + i, none⟩ = some v := fun j hj i v hi =>
  h j L[j]! (by rw [getElem!_pos L j hj]; exact List.getElem?_eq_getElem hj) i v hi
set_option maxHeartbeats 4000000 in
set_option maxRecDepth 100000 in
theorem pIndexSec_none (A : Option Addr) (c : Nat) (fv : Value) (w : World) :
    Calls Tryz.prog 31 #[.slice A 0 c, fv] w fun e w' => e = .returned (.int .i64 (-1)) ∧ w = w' := by
  go_enter Tryz.func31, Tryz.ntmps31
  go_wp2
  go_loopg [5, 8] 0 (fun gg _ s8 wr => s8 = .int .i64 0 ∧ w = wr)
  case atStart => exact ⟨rfl, rfl⟩
  case round =>
    obtain ⟨rfl, rfl⟩ := hrel
    go_wp2
    go_ret
    exact ⟨rfl, rfl⟩
set_option maxHeartbeats 4000000 in
set_option maxRecDepth 100000 in
theorem pFind_any (A : Option Addr) (c : Nat) (L : List Pl.Sec) (nm : Pl.Nm) (w : World) (h : LSec.Row w A L) (hl : L.length ≤ 1000000) :
    Calls Tryz.prog 13 #[.slice A L.length c, .string (txt nm)] w fun e w' => e = .returned (.int .i64 (Pl.find L nm)) ∧ Below w.heap.size w w' := by
  have eg : ∀ args w, (callFunc 32 args).run Tryz.prog w = .ok (.enter 32 args) w := enters_of Tryz.func32 (by kernel_rfl) rfl
  have hb0 := Lib.hid ((Below.refl w.heap.size w).alloc (Nat.le_refl _) (.cells #[.string (txt nm)] 9))
  have hcon : Calls Tryz.prog 31 #[.slice A L.length c, .func (.func 32) #[] #[.pointer (some ⟨w.heap.size, 0, none⟩)]] (w.alloc (.cells #[.string (txt nm)] 9)) fun e w' => e = .returned (.int .i64 (Pl.find L nm)) ∧ Below w.heap.size w w' := by
    rcases h with rfl | ⟨b, o, rfl, hb, hR⟩
    · refine (pIndexSec_none A c _ _).mono ?_
      rintro e w' ⟨rfl, rfl⟩
      exact ⟨rfl, hb0.out⟩
    · have hR' : ∀ k y, L[k]? = some y → LSec.On (w.alloc (.cells #[.string (txt nm)] 9)) b (o + k * LSec.m) y := fun k y hk => (hR k y hk).below hb hb0.out
      have := AnyQ.slices_IndexFunc Tryz.layFindSec 12 Tryz.isAgg51 Tryz.sizeOf51 secCells (fun _ => rfl) (fun x => decide (x.name = nm)) 32 #[.pointer (some ⟨w.heap.size, 0, none⟩)] eg b o L.length c L (w.alloc (.cells #[.string (txt nm)] 9))
        (pNamed nm w.heap.size _ (by simp) (cell_of_row _ _ 0 _ _ _ (heap_alloc_new _ _))) (Nat.le_refl _) (by omega) (by simp; omega) (row_cells hR')
      rw [idx_find] at this
      refine Calls.mono this ?_
      rintro e w' ⟨rfl, hb'⟩
      exact ⟨rfl, hb0.out.trans (hb'.mono (by simp))⟩
  have HC := Lib.hid hcon
  clear hcon h
  go_enter Tryz.func13, Tryz.ntmps13
  go_wp2_with fail
  refine HC.out.mono ?_; rintro e w' ⟨rfl, hb'⟩
  go_wp2_with fail
  go_ret
  exact ⟨rfl, hb'⟩
end Go.Proofs.YtaheiolbeiofpaaGreatDoor
/-
  Slices of structs: made of noughts, and one element stored whole. No function of the program is named here.
-/
namespace Go.Proofs.YtaheiolbeiofpaaGreatDoor
open Go.RowKit

section
variable {α : Type} (E : Lies α)
theorem Lies.made (z : α) (zs : Array Value) (hz : zs = (E.enc z).toArray) (n : Nat) : madeCells zs (n * E.m) = (E.all (List.replicate n z)).toArray := by
  apply Array.toList_inj.1
  apply List.ext_getElem?
  intro i
  have hs : zs.size = E.m := by rw [hz]; simp [E.len]
  by_cases hi : i < n * E.m
  · have hp := E.pos
    have hk : i / E.m < n := (Nat.div_lt_iff_lt_mul hp).2 hi
    have e := E.all_at (List.replicate n z) (i / E.m) (i % E.m) z (by simp [hk]) (Nat.mod_lt _ hp)
    have hj : i / E.m * E.m + i % E.m = i := by rw [Nat.mul_comm]; exact Nat.div_add_mod i E.m
    rw [hj] at e
    rw [e]
    have hm : i % E.m < zs.size := by rw [hs]; exact Nat.mod_lt _ hp
    unfold madeCells
    rw [hs]
    subst hz
    simp only [Array.toList_map, Array.toList_range, List.getElem?_map]
    rw [List.getElem?_eq_getElem (by simpa using hi)]
    simp only [List.getElem_range, Option.map_some]
    have hm' : i % E.m < (E.enc z).length := by rw [E.len]; exact Nat.mod_lt _ hp
    rw [List.getElem?_eq_getElem hm']
    simp [hm']
  · rw [List.getElem?_eq_none (by simp [size_madeCells]; omega), List.getElem?_eq_none (by simp [E.all_len]; omega)]
variable {P : Program}
/-- make of so many. -/
theorem run_make_k (y : α) (t e : TypeId) (z : Value) (bytes : Nat) (ht : P.underlying t = some (.slice e)) (hinfo : (P.info? e).map (fun i => (i.zero, i.size, i.bytes)) = some (some z, E.m, bytes)) (hz1 : z.cells = (E.enc y).toArray)
    (kl kc : IntKind) (n : Nat) (hbytes : bytes * n ≤ 281474976710656) (h63 : n ≤ 9223372036854775807) (w : World) :
    (Instr.makeSlice t (.int kl (n : Int)) (.int kc (n : Int))).run P w = .ok (.slice (some ⟨w.heap.size, 0, none⟩) n n) (w.alloc (.cells (E.all (List.replicate n y)).toArray e)) := by
  obtain ⟨i, hi, hzz⟩ := Option.map_eq_some_iff.1 hinfo
  simp only [Prod.mk.injEq] at hzz
  obtain ⟨hz, hs, hb⟩ := hzz
  have hb' : (i.bytes : Int) * (n : Int) ≤ 281474976710656 := by
    have h : ((i.bytes * n : Nat) : Int) ≤ 281474976710656 := by rw [hb]; omega
    rwa [Int.natCast_mul] at h
  have hr := run_make (P := P) w t e i z ht hi hz kl kc n n (by omega) (Int.le_refl _) hb' (by omega)
  simp only [Int.toNat_natCast, hs] at hr
  rw [E.made y _ hz1] at hr
  exact hr
theorem Lies.all_split (X : List α) (k : Nat) (y : α) (hk : k < X.length) : (E.all X).take (k * E.m) ++ E.enc y ++ (E.all X).drop (k * E.m + E.m) = E.all (X.set k y) := by
  have h1 : X = X.take k ++ X[k] :: X.drop (k + 1) := by simp
  have e1 : E.all X = E.all (X.take k) ++ (E.enc X[k] ++ E.all (X.drop (k + 1))) := by rw [← E.all_cons, ← E.all_append, ← h1]
  have l1 : (E.all (X.take k)).length = k * E.m := by rw [E.all_len, List.length_take, Nat.min_eq_left (by omega)]
  have e2 : X.set k y = X.take k ++ y :: X.drop (k + 1) := by rw [List.set_eq_take_append_cons_drop, if_pos hk]
  rw [e2, E.all_append, E.all_cons, e1, List.take_append_of_le_length (by omega), List.take_of_length_le (by omega), List.append_assoc]
  congr 2
  rw [← l1, List.drop_append, List.drop_of_length_le (by omega)]
  rw [show (E.all (X.take k)).length + E.m - (E.all (X.take k)).length = (E.enc X[k]).length by rw [E.len]; omega, List.nil_append]
  exact List.drop_left
/-- A store of a whole element. -/
theorem run_store_k (w : World) (g k : Nat) (t : TypeId) (X : List α) (y : α) (h : w.heap[g]? = some (.cells (E.all X).toArray t (0, 0))) (hk : k < X.length) :
    (storeCells ⟨g, k * E.m, none⟩ (E.enc y)).run P w = .ok () (w.setRow g (E.all (X.set k y)).toArray) := by
  have hle : k * E.m + E.m ≤ X.length * E.m := by
    have := Nat.mul_le_mul_right E.m (show k + 1 ≤ X.length by omega)
    rwa [Nat.succ_mul] at this
  have := run_storeCells_at (P := P) g (k * E.m) t (E.enc y) 0 _ w h (by simp [E.all_len, E.len]; omega) (E.one y)
  rw [Nat.add_zero, E.len] at this
  rw [this]
  congr 2
  simp only
  rw [E.all_split X k y hk]
end
/-- Cells written one behind the other. -/
def setCells (w : World) (g o : Nat) : List Value → World
  | [] => w
  | v :: vs => setCells (w.setCell ⟨g, o, none⟩ v) g (o + 1) vs
theorem setCells_other (g b : Nat) (h : b ≠ g) : ∀ (vs : List Value) (o : Nat) (w : World), (setCells w g o vs).heap[b]? = w.heap[b]?
  | [], _, _ => rfl
  | v :: vs, o, w => by rw [setCells, setCells_other g b h vs, heap_setCell_other _ _ _ _ (by simpa using h)]
theorem setCells_below {B g : Nat} (hB : B ≤ g) {w0 : World} : ∀ (vs : List Value) (o : Nat) (w : World), Below B w0 w → Below B w0 (setCells w g o vs)
  | [], _, _, h => h
  | v :: vs, o, _, h => setCells_below hB vs (o + 1) _ (h.setCell (p := ⟨g, o, none⟩) hB v)
theorem setCells_size (g : Nat) : ∀ (vs : List Value) (o : Nat) (w : World), (setCells w g o vs).heap.size = w.heap.size
  | [], _, _ => rfl
  | v :: vs, o, w => by rw [setCells, setCells_size g vs]; simp
theorem setCells_row (g : Nat) (ty : TypeId) : ∀ (vs : List Value) (o : Nat) (cur : List Value) (w : World), w.heap[g]? = some (.cells cur.toArray ty (0, 0)) → o + vs.length ≤ cur.length →
    (setCells w g o vs).heap[g]? = some (.cells (cur.take o ++ vs ++ cur.drop (o + vs.length)).toArray ty (0, 0))
  | [], o, cur, w, h, _ => by simpa [setCells] using h
  | v :: vs, o, cur, w, h, hl => by
    have hl' : o + (vs.length + 1) ≤ cur.length := by simpa using hl
    have h1 : (w.setCell ⟨g, o, none⟩ v).heap[g]? = some (.cells (cur.set o v).toArray ty (0, 0)) := by
      rw [heap_setCell_same _ _ _ _ _ _ h]; simp
    rw [setCells, setCells_row g ty vs (o + 1) (cur.set o v) _ h1 (by rw [List.length_set]; omega)]
    congr 3
    have e1 : (cur.set o v).take (o + 1) = cur.take o ++ [v] := by
      rw [List.take_succ_eq_append_getElem (by rw [List.length_set]; omega), List.getElem_set_self, List.take_set_of_le (Nat.le_refl o)]
    have e2 : (cur.set o v).drop (o + 1 + vs.length) = cur.drop (o + (v :: vs).length) := by
      rw [List.drop_set_of_lt (by omega), List.length_cons]; congr 1; omega
    rw [e1, e2]; simp
/-- One element written. -/
theorem setCells_elem {α : Type} (E : Lies α) {w : World} {g : Nat} {ty : TypeId} {X : List α} (h : w.heap[g]? = some (.cells (E.all X).toArray ty (0, 0))) {k : Nat} (hk : k < X.length) (y : α) :
    (setCells w g (k * E.m) (E.enc y)).heap[g]? = some (.cells (E.all (X.set k y)).toArray ty (0, 0)) := by
  have hle : k * E.m + E.m ≤ X.length * E.m := by
    have := Nat.mul_le_mul_right E.m (show k + 1 ≤ X.length by omega)
    rwa [Nat.succ_mul] at this
  rw [setCells_row g ty _ _ _ _ h (by rw [E.len, E.all_len]; exact hle), E.len, E.all_split X k y hk]
theorem row_on {α : Type} {E : Lies α} {w : World} {g : Nat} {X : List α} {ty : TypeId} (h : w.heap[g]? = some (.cells (E.all X).toArray ty (0, 0))) {k : Nat} {y : α} (hk : X[k]? = some y) : E.On w g (k * E.m) y := fun j v hj => by
  have hjl : j < E.m := by
    have := (List.getElem?_eq_some_iff.1 hj).1
    rwa [E.len] at this
  rw [cell_of_row w g _ _ ty _ h, List.getElem?_toArray, E.all_at X k j y hk hjl]; exact hj
theorem row_made {α : Type} {E : Lies α} {w : World} {g : Nat} {X : List α} {ty : TypeId} (h : w.heap[g]? = some (.cells (E.all X).toArray ty (0, 0))) : E.Row w (some ⟨g, 0, none⟩) X :=
  .inr ⟨g, 0, rfl, (Array.getElem?_eq_some_iff.1 h).1, fun k y hk => by rw [Nat.zero_add]; exact row_on h hk⟩
end Go.Proofs.YtaheiolbeiofpaaGreatDoor
/-
  A section in a block of its own.
-/
namespace Go.Proofs.YtaheiolbeiofpaaGreatDoor
open Go.RowKit

theorem heap_sec {w : World} {g : Nat} {t : Pl.Sec} {ty : TypeId} (h : w.heap[g]? = some (.cells (secCells t).toArray ty (0, 0))) : LSec.On w g 0 t := fun j v hj => by
  rw [Nat.zero_add, cell_of_row w g j _ ty _ h, List.getElem?_toArray]; exact hj
theorem set_sec {w : World} {g j : Nat} {t u : Pl.Sec} {ty : TypeId} {v : Value} (h : w.heap[g]? = some (.cells (secCells t).toArray ty (0, 0))) (hu : (secCells t).set j v = secCells u) : (w.setCell ⟨g, j, none⟩ v).heap[g]? = some (.cells (secCells u).toArray ty (0, 0)) := by
  rw [heap_setCell_same _ _ _ _ _ _ h, ← hu]
  simp
end Go.Proofs.YtaheiolbeiofpaaGreatDoor
/-
  The walks of the program's draft of layer 5: where an end leads, an end that is told to lead somewhere, the end that is named.
-/
namespace Go.Proofs.YtaheiolbeiofpaaGreatDoor
open Go.RowKit

/-- Nothing changes but what the slice owns. -/
def Aside (v : Value) (w w' : World) : Prop := (∀ b, b < w.heap.size → v.ownBlock ≠ some b → w'.heap[b]? = w.heap[b]?) ∧ w.heap.size ≤ w'.heap.size
abbrev tyD : TypeId := 63
abbrev tyS : TypeId := 51
abbrev tyG : TypeId := 53
set_option maxHeartbeats 8000000 in
set_option maxRecDepth 100000 in
theorem pTo_any (g : Nat) (M : List It.Itm) (vS vG : Value) (LS : List Pl.Sec) (LG : List Pl.Sig) (w : World) (h : DrX tyD tyS tyG w g M vS vG LS LG) {i e : Nat} {s : Pl.Sec} (hs : LS[i]? = some s) (he : e < 3) (hl : LS.length ≤ 1000) :
    Calls Tryz.prog 52 #[.pointer (some ⟨g, 0, none⟩), .agg #[.int .i64 i, .int .i64 e]] w fun x w' => x = .returned (.int .i64 (s.get e).goes) ∧ Below w.heap.size w w' := by
  have hi := (List.getElem?_eq_some_iff.1 hs).1
  obtain ⟨gb, cap, rfl⟩ := h.slice (by omega)
  obtain ⟨s4, t0, -, -, -, g1, gb1, ggb, -, hin⟩ := h.reads hs he
  have hb0 := Lib.hid ((Below.refl w.heap.size w).alloc (Nat.le_refl _) (.cells #[.int .i64 i, .int .i64 e] 90))
  have he' : (e : Int) < 3 := by omega
  clear h
  go_enter Tryz.func52, Tryz.ntmps52
  go_wp2_with fail
  go_quiet (fail)
  go_wp2_with fail
  go_ret
  exact ⟨rfl, below_drewN hb0.out _⟩
set_option maxHeartbeats 8000000 in
set_option maxRecDepth 100000 in
theorem pLead_any (g : Nat) (M : List It.Itm) (vS vG : Value) (LS : List Pl.Sec) (LG : List Pl.Sig) (w : World) (h : DrX tyD tyS tyG w g M vS vG LS LG) {i e : Nat} {s : Pl.Sec} (hs : LS[i]? = some s) (he : e < 3) (hl : LS.length ≤ 1000) (u v : Int) :
    Calls Tryz.prog 79 #[.pointer (some ⟨g, 0, none⟩), .agg #[.int .i64 i, .int .i64 e], .int .i64 u, .int .i64 v] w fun x w' => x = .returned (.tuple #[]) ∧ DrX tyD tyS tyG w' g M vS vG (LS.modify i (Pl.ledTo e u v)) LG ∧ Below g w w' ∧ Aside vS w w' := by
  have hi := (List.getElem?_eq_some_iff.1 hs).1
  obtain ⟨gb, cap, rfl⟩ := h.slice (by omega)
  have hb0 := (Below.refl w.heap.size w).alloc (Nat.le_refl _) (.cells #[.int .i64 i, .int .i64 e] 90)
  have hA := h.below hb0
  obtain ⟨s4, t0, t1, t2, fz, g1, gb1, ggb, -, hin⟩ := h.reads hs he
  have he' : (e : Int) < 3 := by omega
  have f0 := fz (i * 12 + 3 + e * 3)
  have f1 := fz (i * 12 + 3 + e * 3 + 1)
  have f2 := fz (i * 12 + 3 + e * 3 + 2)
  have LD := Lib.hid ((h.lead hs he u v).below ((Below.refl _ _).alloc (Nat.le_refl _) (.cells #[.int .i64 i, .int .i64 e] 90)))
  have BF := Lib.hid ((((((Below.refl g w).setCell (p := ⟨gb, i * 12 + 3 + e * 3, none⟩) (Nat.le_of_lt ggb) (.int .i64 u)).setCell (p := ⟨gb, i * 12 + 3 + e * 3 + 1, none⟩) (Nat.le_of_lt ggb) (.int .i64 v)).setCell (p := ⟨gb, i * 12 + 3 + e * 3 + 2, none⟩) (Nat.le_of_lt ggb) (.int .i64 (-1))).alloc (by simp; omega) (.cells #[.int .i64 i, .int .i64 e] 90)))
  have AS := Lib.hid (show Aside (.slice (some ⟨gb, 0, none⟩) LS.length cap) w (((((w.setCell ⟨gb, i * 12 + 3 + e * 3, none⟩ (.int .i64 u)).setCell ⟨gb, i * 12 + 3 + e * 3 + 1, none⟩ (.int .i64 v)).setCell ⟨gb, i * 12 + 3 + e * 3 + 2, none⟩ (.int .i64 (-1))).alloc (.cells #[.int .i64 i, .int .i64 e] 90)).drew) from
    ⟨fun b hb hne => by
      have hb' : b ≠ gb := fun h => hne (by rw [h]; rfl)
      show (((((w.setCell ⟨gb, i * 12 + 3 + e * 3, none⟩ (.int .i64 u)).setCell ⟨gb, i * 12 + 3 + e * 3 + 1, none⟩ (.int .i64 v)).setCell ⟨gb, i * 12 + 3 + e * 3 + 2, none⟩ (.int .i64 (-1))).alloc (.cells #[.int .i64 i, .int .i64 e] 90))).heap[b]? = _
      rw [heap_alloc_old _ _ (by simpa using hb), heap_setCell_other _ _ _ _ (by simpa using hb'), heap_setCell_other _ _ _ _ (by simpa using hb'), heap_setCell_other _ _ _ _ (by simpa using hb')], by simp⟩)
  clear h fz hA hb0
  go_enter Tryz.func79, Tryz.ntmps79
  go_wp2_with fail
  go_region
  go_wp2_with fail
  go_end0
  exact ⟨rfl, LD.out.drew, BF.out.drew, AS.out⟩
end Go.Proofs.YtaheiolbeiofpaaGreatDoor
