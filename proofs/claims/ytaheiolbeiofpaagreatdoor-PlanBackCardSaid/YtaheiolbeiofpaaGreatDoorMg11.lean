/-
  Texts of this claim, merged: PlItems, PlBack, PlAgain, PlFacts.
-/
import Derived.Test.YtaheiolbeiofpaaGreatDoorMg10
/-
  Plain mathematics of layer 5: a station's lines build it again, in whatever order, from whichever end joins are told. No program is named here.
-/
namespace Go.Proofs.YtaheiolbeiofpaaGreatDoor.Pl
open Go It

theorem letter_inj {pt : Bool} {e f : Nat} (he : e < nEnds pt) (hf : f < nEnds pt) (h : letter pt e = letter pt f) : e = f := by
  cases pt
  · have : e = 0 ∨ e = 1 := by simp [nEnds] at he; omega
    have : f = 0 ∨ f = 1 := by simp [nEnds] at hf; omega
    rcases ‹e = 0 ∨ e = 1› with rfl | rfl <;> rcases ‹f = 0 ∨ f = 1› with rfl | rfl <;> first | rfl | exact absurd h (by decide)
  · have : e = 0 ∨ e = 1 ∨ e = 2 := by simp [nEnds] at he; omega
    have : f = 0 ∨ f = 1 ∨ f = 2 := by simp [nEnds] at hf; omega
    rcases ‹e = 0 ∨ e = 1 ∨ e = 2› with rfl | rfl | rfl <;> rcases ‹f = 0 ∨ f = 1 ∨ f = 2› with rfl | rfl | rfl <;> first | rfl | exact absurd h (by decide)
theorem endAt_letter {pt : Bool} {e : Nat} (he : e < nEnds pt) : endAt pt (letter pt e) = some e := by
  cases pt
  · have : e = 0 ∨ e = 1 := by simp [nEnds] at he; omega
    rcases this with rfl | rfl <;> decide
  · have : e = 0 ∨ e = 1 ∨ e = 2 := by simp [nEnds] at he; omega
    rcases this with rfl | rfl | rfl <;> decide
theorem letter_endAt {pt : Bool} {c : UInt8} {e : Nat} (h : endAt pt c = some e) : letter pt e = c ∧ e < nEnds pt := by
  unfold endAt at h
  split at h
  · rename_i h0; cases h; exact ⟨h0, by cases pt <;> decide⟩
  · split at h
    · rename_i h1; cases h; exact ⟨h1, by cases pt <;> decide⟩
    · split at h
      · rename_i h2; cases h; exact ⟨h2.2, by rw [h2.1]; decide⟩
      · cases h

/-! ### What an end is, in lines that may be -/
theorem told_all {L : List Itm} (hL : Ok L) {x : Itm} (hx : x ∈ L) {t : Tp} (ht : t ∈ tips x) : ∃ y ∈ secs L, ∃ e, e < nEnds (isPt y) ∧ t = tip y e := by
  obtain ⟨M, N, rfl⟩ := List.append_of_mem hx
  obtain ⟨h1, h2⟩ := hL.told M x N rfl t ht
  obtain ⟨y, hy, hn⟩ := mem_nmS.1 h1
  have hsub : secs (M ++ x :: N) = secs M ++ secs (x :: N) := by simp [secs, List.filter_append]
  have hM : (nmS M).Nodup := by
    have := hL.names
    rw [nmS, hsub, List.map_append] at this
    exact (List.nodup_append.1 this).1
  rw [← hn, ptOf_eq hM hy] at h2
  obtain ⟨e, he⟩ := Option.isSome_iff_exists.1 h2
  obtain ⟨h3, h4⟩ := letter_endAt he
  exact ⟨y, by rw [hsub]; exact List.mem_append_left _ hy, e, h4, by cases t; simp at hn h3; simp [tip, hn, h3]⟩
theorem ment_tips {x : Itm} {t : Tp} (h : t ∈ ment x) : t ∈ tips x := by
  unfold ment at h
  unfold tips
  split at h
  · rename_i h7; rw [if_pos h7]; exact h
  · rename_i h7
    split at h
    · rename_i h8; rw [if_neg h7, if_pos h8]; exact h
    · cases h
theorem ments_told {L : List Itm} (hL : Ok L) {t : Tp} (ht : t ∈ ments L) : ∃ y ∈ secs L, ∃ e, e < nEnds (isPt y) ∧ t = tip y e := by
  obtain ⟨x, hx, h⟩ := List.mem_flatMap.1 ht
  exact told_all hL hx (ment_tips h)
theorem shut_sec {L : List Itm} (hS : Shut L) {x : Itm} (hx : x ∈ secs L) {e : Nat} (he : e < nEnds (isPt x)) : partner L (tip x e) ≠ none := fun hc => by
  have := hS x (mem_secs.1 hx).1
  unfold lackErr at this
  rw [if_pos (mem_secs.1 hx).2, if_pos] at this
  · cases this
  · rw [List.any_eq_true]
    exact ⟨e, List.mem_range.2 he, by simpa using hc⟩
theorem tip_at {L : List Itm} (hL : Ok L) {x : Itm} (hx : x ∈ secs L) {e : Nat} (he : e < nEnds (isPt x)) : endAt (ptOf L (tip x e).n) (tip x e).c = some e := by
  show endAt (ptOf L x.name) (letter (isPt x) e) = some e
  rw [ptOf_eq hL.names hx]
  exact endAt_letter he

/-! ### Sections and signals in order -/
def SS (L : List Itm) : List Itm := isort Itm.name (secs L)
def GG (L : List Itm) : List Itm := isort Itm.name (sigs L)
theorem SS_rise {L : List Itm} (hL : Ok L) : Rise Itm.name (SS L) := isort_rise _ _ hL.names
theorem GG_rise {L : List Itm} (hL : Ok L) : Rise Itm.name (GG L) := isort_rise _ _ hL.gnames
theorem SS_mem {L : List Itm} {x : Itm} : x ∈ SS L ↔ x ∈ secs L := isort_mem _
theorem GG_mem {L : List Itm} {x : Itm} : x ∈ GG L ↔ x ∈ sigs L := isort_mem _
theorem SS_perm (L : List Itm) : (SS L).Perm (secs L) := isort_perm _ _
theorem GG_perm (L : List Itm) : (GG L).Perm (sigs L) := isort_perm _ _
def plS (L : List Itm) (x : Itm) : Nat := (rank (nmS L) x.name).toNat
def plG (L : List Itm) (x : Itm) : Nat := (rank (nmG L) x.name).toNat
theorem SS_at {L : List Itm} (hL : Ok L) {x : Itm} (hx : x ∈ secs L) : (SS L)[plS L x]? = some x := by
  have := at_rank (SS_rise hL) (SS_mem.2 hx)
  rwa [rank_perm ((SS_perm L).map Itm.name)] at this
theorem GG_at {L : List Itm} (hL : Ok L) {x : Itm} (hx : x ∈ sigs L) : (GG L)[plG L x]? = some x := by
  have := at_rank (GG_rise hL) (GG_mem.2 hx)
  rwa [rank_perm ((GG_perm L).map Itm.name)] at this
theorem SS_pl {L : List Itm} (hL : Ok L) {x : Itm} {s : Nat} (h : (SS L)[s]? = some x) : x ∈ secs L ∧ rank (nmS L) x.name = s := by
  have hx := SS_mem.1 (List.mem_of_getElem? h)
  refine ⟨hx, ?_⟩
  rw [show nmS L = (secs L).map Itm.name from rfl, ← rank_perm ((SS_perm L).map Itm.name)]
  exact rank_at (rise_map (SS_rise hL)) s _ (by rw [List.getElem?_map, h]; rfl)
abbrev fS (L : List Itm) : Itm → Sec := secW (rank (nmS L)) (rank (nmG L)) L
theorem fin_secs (L : List Itm) : (fin L).secs = (SS L).map (fS L) := rfl
theorem fin_sigs (L : List Itm) : (fin L).sigs = (GG L).map (sigW (rank (nmS L)) L) := rfl
theorem get_fS {L : List Itm} {x : Itm} {e : Nat} (he : e < nEnds (isPt x)) : (fS L x).get e = enW (rank (nmS L)) (rank (nmG L)) L (tip x e) := by
  unfold Sec.get
  by_cases h0 : e = 0
  · rw [if_pos h0, h0]; rfl
  · rw [if_neg h0]
    by_cases h1 : e = 1
    · rw [if_pos h1, h1]; rfl
    · rw [if_neg h1]
      have hp : isPt x = true := by
        cases hp : isPt x with
        | true => rfl
        | false => rw [hp] at he; simp [nEnds] at he; omega
      have h2 : e = 2 := by rw [hp] at he; simp [nEnds] at he; omega
      rw [h2]
      show (if isPt x = true then enW _ _ L (tip x 2) else stop) = _
      rw [if_pos hp]
/-- The ends of a station's sections. -/
theorem mem_endsP {L : List Itm} {a : Nat × Nat} : a ∈ endsP (fin L) ↔ ∃ x, (SS L)[a.1]? = some x ∧ a.2 < nEnds (isPt x) := by
  obtain ⟨s, e⟩ := a
  unfold endsP
  simp only [List.mem_flatMap, List.mem_range, List.mem_map, fin_secs, List.getElem?_map, List.length_map]
  constructor
  · rintro ⟨s', hs, e', he, h⟩
    cases h
    rw [List.getElem?_eq_getElem hs] at he
    exact ⟨_, List.getElem?_eq_getElem hs, he⟩
  · rintro ⟨x, hx, he⟩
    have hs := (List.getElem?_eq_some_iff.1 hx).1
    refine ⟨s, hs, e, ?_, rfl⟩
    rw [hx]; exact he
theorem endsP_nodup (p : Plan) : (endsP p).Nodup := by
  unfold endsP
  rw [List.nodup_iff_pairwise_ne, List.pairwise_flatMap]
  refine ⟨fun s _ => ?_, ?_⟩
  · rw [List.pairwise_map]
    exact (List.nodup_iff_pairwise_ne.1 List.nodup_range).imp fun h e => h (by cases e; rfl)
  · refine (List.nodup_iff_pairwise_ne.1 List.nodup_range).imp fun {s s'} h x hx y hy e => ?_
    obtain ⟨_, _, rfl⟩ := List.mem_map.1 hx
    obtain ⟨_, _, rfl⟩ := List.mem_map.1 hy
    cases e
    exact h rfl
theorem tipP_eq {L : List Itm} {s e : Nat} {x : Itm} (h : (SS L)[s]? = some x) : tipP (fin L) s e = tip x e := by
  unfold tipP
  rw [fin_secs, List.getElem?_map, h]; rfl
theorem enP_eq {L : List Itm} {s e : Nat} {x : Itm} (h : (SS L)[s]? = some x) (he : e < nEnds (isPt x)) : enP (fin L) (s, e) = enW (rank (nmS L)) (rank (nmG L)) L (tip x e) := by
  unfold enP
  rw [fin_secs, List.getElem?_map, h]
  exact get_fS he
/-- The end of a place. -/
abbrev ta (L : List Itm) (a : Nat × Nat) : Tp := tipP (fin L) a.1 a.2
theorem ta_inj {L : List Itm} (hL : Ok L) {a b : Nat × Nat} (ha : a ∈ endsP (fin L)) (hb : b ∈ endsP (fin L)) (h : ta L a = ta L b) : a = b := by
  obtain ⟨x, hx, he⟩ := mem_endsP.1 ha
  obtain ⟨y, hy, hf⟩ := mem_endsP.1 hb
  rw [ta, ta, tipP_eq hx, tipP_eq hy, tip, tip] at h
  have h1 : x.name = y.name := congrArg Tp.n h
  obtain ⟨hx', r1⟩ := SS_pl hL hx
  obtain ⟨hy', r2⟩ := SS_pl hL hy
  have hxy := uniq hL.names hx' hy' h1
  subst hxy
  have h2 := letter_inj he hf (congrArg Tp.c h)
  rw [r1] at r2
  exact Prod.ext (by omega) h2
theorem ta_told {L : List Itm} (hL : Ok L) {y : Itm} (hy : y ∈ secs L) {e : Nat} (he : e < nEnds (isPt y)) : (plS L y, e) ∈ endsP (fin L) ∧ ta L (plS L y, e) = tip y e :=
  ⟨mem_endsP.2 ⟨y, SS_at hL hy, he⟩, tipP_eq (SS_at hL hy)⟩
theorem ta_ments {L : List Itm} (hL : Ok L) {t : Tp} (ht : t ∈ ments L) : ∃ a ∈ endsP (fin L), ta L a = t := by
  obtain ⟨y, hy, e, he, rfl⟩ := ments_told hL ht
  exact ⟨_, ta_told hL hy he⟩
theorem ta_partner {L : List Itm} (hL : Ok L) (hS : Shut L) {a : Nat × Nat} (ha : a ∈ endsP (fin L)) : partner L (ta L a) ≠ none := by
  obtain ⟨x, hx, he⟩ := mem_endsP.1 ha
  rw [ta, tipP_eq hx]
  exact shut_sec hS (SS_pl hL hx).1 he
theorem partner_ments {L : List Itm} {t : Tp} (h : partner L t ≠ none) : t ∈ ments L := Classical.byContradiction fun hc => h (partner_none.2 hc)
theorem en_stop {L : List Itm} {a : Nat × Nat} (ha : a ∈ endsP (fin L)) (h : partner L (ta L a) = some none) : (enP (fin L) a).goes = -1 ∧ (enP (fin L) a).at_ = 0 := by
  obtain ⟨x, hx, he⟩ := mem_endsP.1 ha
  obtain ⟨s, e⟩ := a
  rw [ta, tipP_eq hx] at h
  rw [enP_eq hx he]
  simp [enW, h]
theorem en_join {L : List Itm} (hL : Ok L) {a b : Nat × Nat} (ha : a ∈ endsP (fin L)) (hb : b ∈ endsP (fin L)) (h : partner L (ta L a) = some (some (ta L b))) : (enP (fin L) a).goes = b.1 ∧ (enP (fin L) a).at_ = b.2 := by
  obtain ⟨x, hx, he⟩ := mem_endsP.1 ha
  obtain ⟨y, hy, hf⟩ := mem_endsP.1 hb
  obtain ⟨s, e⟩ := a
  obtain ⟨s', e'⟩ := b
  rw [ta, tipP_eq hx, ta, tipP_eq hy] at h
  rw [enP_eq hx he]
  obtain ⟨hy', r2⟩ := SS_pl hL hy
  simp only [enW, h]
  refine ⟨r2, ?_⟩
  rw [tip_at hL hy' hf]; rfl
end Go.Proofs.YtaheiolbeiofpaaGreatDoor.Pl
/-
  Plain mathematics of layer 5: there and back. No program is named here.
-/
namespace Go.Proofs.YtaheiolbeiofpaaGreatDoor.Pl
open Go It

theorem ments_append (A B : List Itm) : ments (A ++ B) = ments A ++ ments B := by simp [ments]
theorem ments_filterMap {α : Type} (g : α → Option Itm) : ∀ l : List α, ments (l.filterMap g) = l.flatMap fun a => match g a with | some x => ment x | none => []
  | [] => rfl
  | a :: l => by
    have ih := ments_filterMap g l
    rw [List.filterMap_cons, List.flatMap_cons]
    cases h : g a with
    | none => simp only [List.nil_append]; exact ih
    | some x => simp only; rw [show ments (x :: l.filterMap g) = ment x ++ ments (l.filterMap g) by simp [ments], ih]
def Before (a b : Nat × Nat) : Prop := a.1 < b.1 ∨ a.1 = b.1 ∧ a.2 < b.2
theorem before_tri {a b : Nat × Nat} (h : a ≠ b) : Before a b ∨ Before b a := by
  obtain ⟨s, e⟩ := a
  obtain ⟨s', e'⟩ := b
  unfold Before
  simp only
  by_cases h1 : s = s'
  · subst h1
    have : e ≠ e' := fun h2 => h (by rw [h2])
    omega
  · omega
theorem before_asymm {a b : Nat × Nat} (h : Before a b) (h2 : Before b a) : False := by unfold Before at h h2; omega

section
variable {L : List Itm} (hL : Ok L) (hS : Shut L)
include hL hS
theorem joinP_iff {a : Nat × Nat} (ha : a ∈ endsP (fin L)) {x : Itm} : joinP (fin L) a = some x ↔ ∃ b ∈ endsP (fin L), partner L (ta L a) = some (some (ta L b)) ∧ Before a b ∧ x = ⟨7, [], 0, ta L a, ta L b⟩ := by
  have hne := ta_partner hL hS ha
  unfold joinP
  cases hp : partner L (ta L a) with
  | none => exact absurd hp hne
  | some v =>
    cases v with
    | none =>
      obtain ⟨h1, h2⟩ := en_stop ha hp
      rw [if_neg (by rw [h1]; omega)]
      constructor
      · intro h; cases h
      · rintro ⟨b, _, h, _⟩; cases h
    | some u =>
      obtain ⟨b, hb, rfl⟩ := ta_ments hL (partner_ments (t := u) (by rw [(partner_sym hL.ments hp).1]; simp))
      obtain ⟨h1, h2⟩ := en_join hL ha hb hp
      by_cases hlt : Before a b
      · rw [if_pos (by rw [h1, h2]; unfold Before at hlt; omega), h1, h2]
        constructor
        · intro h
          cases h
          exact ⟨b, hb, rfl, hlt, rfl⟩
        · rintro ⟨c, hc, h, _, rfl⟩
          have : ta L b = ta L c := Option.some.inj (Option.some.inj h)
          have := ta_inj hL hb hc this
          subst this
          rfl
      · rw [if_neg (by rw [h1, h2]; unfold Before at hlt; omega)]
        constructor
        · intro h; cases h
        · rintro ⟨c, hc, h, hlt2, _⟩
          have : ta L b = ta L c := Option.some.inj (Option.some.inj h)
          have := ta_inj hL hb hc this
          subst this
          exact absurd hlt2 hlt
theorem stopP_iff {a : Nat × Nat} (ha : a ∈ endsP (fin L)) {x : Itm} : stopP (fin L) a = some x ↔ partner L (ta L a) = some none ∧ x = ⟨8, [], 0, ta L a, Tp.zero⟩ := by
  have hne := ta_partner hL hS ha
  unfold stopP
  cases hp : partner L (ta L a) with
  | none => exact absurd hp hne
  | some v =>
    cases v with
    | none =>
      obtain ⟨h1, h2⟩ := en_stop ha hp
      rw [if_pos (by rw [h1]; omega)]
      constructor
      · intro h; cases h; exact ⟨rfl, rfl⟩
      · rintro ⟨_, rfl⟩; rfl
    | some u =>
      obtain ⟨b, hb, rfl⟩ := ta_ments hL (partner_ments (t := u) (by rw [(partner_sym hL.ments hp).1]; simp))
      obtain ⟨h1, h2⟩ := en_join hL ha hb hp
      rw [if_neg (by rw [h1]; omega)]
      constructor
      · intro h; cases h
      · rintro ⟨h, _⟩; cases h
def JJ (L : List Itm) : List Itm := (endsP (fin L)).filterMap (joinP (fin L))
def BB (L : List Itm) : List Itm := (endsP (fin L)).filterMap (stopP (fin L))
theorem mem_JJ {x : Itm} : x ∈ JJ L ↔ ∃ a ∈ endsP (fin L), ∃ b ∈ endsP (fin L), partner L (ta L a) = some (some (ta L b)) ∧ Before a b ∧ x = ⟨7, [], 0, ta L a, ta L b⟩ := by
  unfold JJ
  rw [List.mem_filterMap]
  constructor
  · rintro ⟨a, ha, h⟩
    exact ⟨a, ha, (joinP_iff hL hS ha).1 h⟩
  · rintro ⟨a, ha, h⟩
    exact ⟨a, ha, (joinP_iff hL hS ha).2 h⟩
theorem mem_BB {x : Itm} : x ∈ BB L ↔ ∃ a ∈ endsP (fin L), partner L (ta L a) = some none ∧ x = ⟨8, [], 0, ta L a, Tp.zero⟩ := by
  unfold BB
  rw [List.mem_filterMap]
  constructor
  · rintro ⟨a, ha, h⟩
    exact ⟨a, ha, (stopP_iff hL hS ha).1 h⟩
  · rintro ⟨a, ha, h⟩
    exact ⟨a, ha, (stopP_iff hL hS ha).2 h⟩
theorem ments_JB : (ments (JJ L ++ BB L)).Nodup := by
  rw [ments_append, JJ, BB, ments_filterMap, ments_filterMap, List.nodup_append]
  refine ⟨?_, ?_, ?_⟩
  · rw [List.nodup_iff_pairwise_ne, List.pairwise_flatMap]
    refine ⟨fun a ha => ?_, ?_⟩
    · cases h : joinP (fin L) a with
      | none => exact .nil
      | some x =>
        obtain ⟨b, hb, hp, _, rfl⟩ := (joinP_iff hL hS ha).1 h
        have := (partner_sym hL.ments hp).2
        simp only [ment7]
        simpa using this
    · refine List.Pairwise.imp_of_mem (fun {a c} ha hc hac x hx y hy e => ?_) (List.nodup_iff_pairwise_ne.1 (endsP_nodup (fin L)))
      subst e
      cases h : joinP (fin L) a with
      | none => rw [h] at hx; cases hx
      | some z =>
        cases h2 : joinP (fin L) c with
        | none => rw [h2] at hy; cases hy
        | some z2 =>
          rw [h] at hx
          rw [h2] at hy
          obtain ⟨b, hb, hp, hab, rfl⟩ := (joinP_iff hL hS ha).1 h
          obtain ⟨d, hd, hp2, hcd, rfl⟩ := (joinP_iff hL hS hc).1 h2
          have s1 := (partner_sym hL.ments hp).1
          have s2 := (partner_sym hL.ments hp2).1
          simp only [ment7, List.mem_cons, List.not_mem_nil, or_false] at hx hy
          rcases hx with rfl | rfl
          · rcases hy with hy | hy
            · exact hac (ta_inj hL ha hc hy)
            · have := ta_inj hL ha hd hy
              subst this
              rw [hp] at s2
              have := ta_inj hL hb hc (Option.some.inj (Option.some.inj s2))
              subst this
              exact before_asymm hab hcd
          · rcases hy with hy | hy
            · have := ta_inj hL hb hc hy
              subst this
              rw [s1] at hp2
              have := ta_inj hL ha hd (Option.some.inj (Option.some.inj hp2))
              subst this
              exact before_asymm hab hcd
            · have := ta_inj hL hb hd hy
              subst this
              rw [s1] at s2
              exact hac (ta_inj hL ha hc (Option.some.inj (Option.some.inj s2)))
  · rw [List.nodup_iff_pairwise_ne, List.pairwise_flatMap]
    refine ⟨fun a ha => ?_, ?_⟩
    · cases h : stopP (fin L) a with
      | none => exact .nil
      | some x =>
        obtain ⟨_, rfl⟩ := (stopP_iff hL hS ha).1 h
        simp only [ment8]
        simp
    · refine List.Pairwise.imp_of_mem (fun {a c} ha hc hac x hx y hy e => ?_) (List.nodup_iff_pairwise_ne.1 (endsP_nodup (fin L)))
      subst e
      cases h : stopP (fin L) a with
      | none => rw [h] at hx; cases hx
      | some z =>
        cases h2 : stopP (fin L) c with
        | none => rw [h2] at hy; cases hy
        | some z2 =>
          rw [h] at hx
          rw [h2] at hy
          obtain ⟨_, rfl⟩ := (stopP_iff hL hS ha).1 h
          obtain ⟨_, rfl⟩ := (stopP_iff hL hS hc).1 h2
          simp only [ment8, List.mem_cons, List.not_mem_nil, or_false] at hx hy
          exact hac (ta_inj hL ha hc (hx.symm.trans hy))
  · intro x hx y hy e
    subst e
    obtain ⟨a, ha, hx⟩ := List.mem_flatMap.1 hx
    obtain ⟨c, hc, hy⟩ := List.mem_flatMap.1 hy
    cases h : joinP (fin L) a with
    | none => rw [h] at hx; cases hx
    | some z =>
      cases h2 : stopP (fin L) c with
      | none => rw [h2] at hy; cases hy
      | some z2 =>
        rw [h] at hx
        rw [h2] at hy
        obtain ⟨b, hb, hp, _, rfl⟩ := (joinP_iff hL hS ha).1 h
        obtain ⟨hq, rfl⟩ := (stopP_iff hL hS hc).1 h2
        have s1 := (partner_sym hL.ments hp).1
        simp only [ment7, ment8, List.mem_cons, List.not_mem_nil, or_false] at hx hy
        subst hy
        rcases hx with hx | hx
        · rw [hx, hp] at hq; cases hq
        · rw [hx, s1] at hq; cases hq
theorem JB_sub {t : Tp} (ht : t ∈ ments (JJ L ++ BB L)) : t ∈ ments L := by
  obtain ⟨x, hx, ht⟩ := List.mem_flatMap.1 ht
  apply partner_ments
  rcases List.mem_append.1 hx with hx | hx
  · obtain ⟨a, ha, b, hb, hp, _, rfl⟩ := (mem_JJ hL hS).1 hx
    simp only [ment7, List.mem_cons, List.not_mem_nil, or_false] at ht
    rcases ht with rfl | rfl
    · rw [hp]; simp
    · rw [(partner_sym hL.ments hp).1]; simp
  · obtain ⟨a, ha, hp, rfl⟩ := (mem_BB hL hS).1 hx
    simp only [ment8, List.mem_cons, List.not_mem_nil, or_false] at ht
    subst ht
    rw [hp]; simp
theorem JB_all {x : Itm} (hx : x ∈ L) (hm : ment x ≠ []) : x ∈ JJ L ++ BB L ∨ (x.k = 7 ∧ swap x ∈ JJ L ++ BB L) := by
  have hr := hL.right x hx
  by_cases h7 : x.k = 7
  · obtain ⟨e, _, _⟩ := right_join hr h7
    have hne := ends_ne hL.ments hx h7
    have m0 : x.e0 ∈ ments L := List.mem_flatMap.2 ⟨x, hx, by rw [ment7 h7]; simp⟩
    have m1 : x.e1 ∈ ments L := List.mem_flatMap.2 ⟨x, hx, by rw [ment7 h7]; simp⟩
    have hp : partner L x.e0 = some (some x.e1) := by
      rw [partner_mem hL.ments hx (by rw [ment7 h7]; simp), link, if_pos h7, if_pos rfl]
    obtain ⟨a, ha, ea⟩ := ta_ments hL m0
    obtain ⟨b, hb, eb⟩ := ta_ments hL m1
    rw [← ea, ← eb] at hp
    rcases before_tri (a := a) (b := b) (fun h => hne (by rw [← ea, ← eb, h])) with h | h
    · refine .inl (List.mem_append_left _ ((mem_JJ hL hS).2 ⟨a, ha, b, hb, hp, h, ?_⟩))
      rw [ea, eb]; exact e
    · refine .inr ⟨h7, List.mem_append_left _ ((mem_JJ hL hS).2 ⟨b, hb, a, ha, (partner_sym hL.ments hp).1, h, ?_⟩)⟩
      rw [ea, eb, e]; rfl
  · by_cases h8 : x.k = 8
    · obtain ⟨e, _⟩ := right_stop hr h8
      have m0 : x.e0 ∈ ments L := List.mem_flatMap.2 ⟨x, hx, by rw [ment8 h8]; simp⟩
      have hp : partner L x.e0 = some none := by
        rw [partner_mem hL.ments hx (by rw [ment8 h8]; simp), link, if_neg h7, if_pos ⟨h8, rfl⟩]
      obtain ⟨a, ha, ea⟩ := ta_ments hL m0
      rw [← ea] at hp
      refine .inl (List.mem_append_right _ ((mem_BB hL hS).2 ⟨a, ha, hp, ?_⟩))
      rw [ea]; exact e
    · rw [ment, if_neg h7, if_neg h8] at hm
      exact absurd rfl hm
theorem JB_right {x : Itm} (hx : x ∈ JJ L ++ BB L) : It.right x = true ∧ (x.k = 7 ∨ x.k = 8) := by
  have good : ∀ t, t ∈ ments L → TipG t := fun t ht => by
    obtain ⟨y, hy, h⟩ := List.mem_flatMap.1 ht
    have hr := hL.right y hy
    by_cases h7 : y.k = 7
    · rw [ment7 h7] at h
      obtain ⟨_, g0, g1⟩ := right_join hr h7
      simp only [List.mem_cons, List.not_mem_nil, or_false] at h
      rcases h with rfl | rfl
      · exact g0
      · exact g1
    · by_cases h8 : y.k = 8
      · rw [ment8 h8] at h
        simp only [List.mem_cons, List.not_mem_nil, or_false] at h
        subst h
        exact (right_stop hr h8).2
      · rw [ment, if_neg h7, if_neg h8] at h; cases h
  rcases List.mem_append.1 hx with hx | hx
  · obtain ⟨a, ha, b, hb, hp, _, rfl⟩ := (mem_JJ hL hS).1 hx
    exact ⟨mk_join (good _ (partner_ments (by rw [hp]; simp))) (good _ (partner_ments (by rw [(partner_sym hL.ments hp).1]; simp))), .inl rfl⟩
  · obtain ⟨a, ha, hp, rfl⟩ := (mem_BB hL hS).1 hx
    exact ⟨mk_stop (good _ (partner_ments (by rw [hp]; simp))), .inr rfl⟩
end
end Go.Proofs.YtaheiolbeiofpaaGreatDoor.Pl
/-
  Plain mathematics of layer 5: a station's lines, and these turned, build it again. No program is named here.
-/
namespace Go.Proofs.YtaheiolbeiofpaaGreatDoor.Pl
open Go It

theorem secs_append (A B : List Itm) : secs (A ++ B) = secs A ++ secs B := by simp [secs]
theorem sigs_append (A B : List Itm) : sigs (A ++ B) = sigs A ++ sigs B := by simp [sigs]
theorem num_mem {K : List Itm} (hn : ((K.filter fun x => isNum x.k).map (·.k)).Nodup) {y : Itm} (hy : y ∈ K) (hk : isNum y.k = true) : num K y.k = y.n := by
  unfold num
  have h : (K.find? fun x => decide (x.k = y.k)) = some y := by
    cases h : K.find? fun x => decide (x.k = y.k) with
    | none => exact absurd (decide_eq_true rfl) (List.find?_eq_none.1 h y hy)
    | some z =>
      have h1 : z.k = y.k := by simpa using List.find?_some h
      have h2 := List.mem_of_find?_eq_some h
      rw [uniqT hn (List.mem_filter.2 ⟨h2, by rw [h1]; exact hk⟩) (List.mem_filter.2 ⟨hy, hk⟩) h1]
  rw [h]; rfl
theorem num_no {K : List Itm} {k : Int} (h : ∀ y ∈ K, y.k ≠ k) : num K k = 0 := by
  unfold num
  rw [List.find?_eq_none.2 fun y hy => by simpa using h y hy]; rfl
theorem num_facts {x : Itm} (h : isNum x.k = true) : isS x = false ∧ isG x = false ∧ x.k ≠ 7 ∧ x.k ≠ 8 ∧ x.k ≠ 9 := by
  unfold isNum at h
  have := of_decide_eq_true h
  unfold isS isG isLen
  exact ⟨decide_eq_false (by omega), decide_eq_false (by omega), by omega, by omega, by omega⟩
theorem sec_facts {x : Itm} (h : isS x = true) : isNum x.k = false ∧ isG x = false ∧ x.k ≠ 7 ∧ x.k ≠ 8 ∧ x.k ≠ 9 := by
  unfold isS isLen at h
  have := of_decide_eq_true h
  unfold isNum isG
  exact ⟨decide_eq_false (by omega), decide_eq_false (by omega), by omega, by omega, by omega⟩
theorem sig_facts {x : Itm} (h : isG x = true) : isNum x.k = false ∧ isS x = false ∧ x.k ≠ 7 ∧ x.k ≠ 8 ∧ x.k = 9 := by
  unfold isG at h
  have := of_decide_eq_true h
  unfold isNum isS isLen
  exact ⟨decide_eq_false (by omega), decide_eq_false (by omega), by omega, by omega, by omega⟩
theorem end_facts {x : Itm} (h : x.k = 7 ∨ x.k = 8) : isNum x.k = false ∧ isS x = false ∧ isG x = false := by
  unfold isNum isS isLen isG
  exact ⟨decide_eq_false (by omega), decide_eq_false (by omega), decide_eq_false (by omega)⟩
/-- Numbers and sections ahead, then joins, stops and signals: what they build. -/
theorem rebuild {L A B : List Itm} (hL : Ok L) (hS : Shut L)
    (hA : ∀ x ∈ A, It.right x = true ∧ (isNum x.k = true ∨ isS x = true)) (hAn : ((A.filter fun x => isNum x.k).map (·.k)).Nodup) (hAs : (secs A).Perm (secs L))
    (hAv : ∀ k : Int, 1 ≤ k → k ≤ 4 → (∃ y ∈ A, y.k = k ∧ y.n = num L k) ∨ (num L k = 0 ∧ ∀ y ∈ A, y.k ≠ k))
    (hB : ∀ x ∈ B, It.right x = true ∧ isNum x.k = false ∧ isS x = false) (hBg : (sigs B).Perm (sigs L)) (hBm : (ments B).Nodup)
    (hBp : ∀ x ∈ L, ment x ≠ [] → x ∈ B ∨ (x.k = 7 ∧ swap x ∈ B)) (hBt : ∀ t ∈ ments B, t ∈ ments L) : Ok (A ++ B) ∧ Shut (A ++ B) ∧ build (A ++ B) = (fin L, 0, 0) := by
  have a0 : ∀ x ∈ A, isG x = false ∧ x.k ≠ 7 ∧ x.k ≠ 8 ∧ x.k ≠ 9 := fun x hx => by
    rcases (hA x hx).2 with h | h
    · exact (num_facts h).2
    · exact (sec_facts h).2
  have a1 : sigs A = [] := List.filter_eq_nil_iff.2 fun x hx => by simp [(a0 x hx).1]
  have a2 : ments A = [] := List.flatMap_eq_nil_iff.2 fun x hx => by rw [ment, if_neg (a0 x hx).2.1, if_neg (a0 x hx).2.2.1]
  have a3 : ∀ x ∈ A, tips x = [] := fun x hx => by rw [tips, if_neg (a0 x hx).2.1, if_neg (a0 x hx).2.2.1, if_neg (a0 x hx).2.2.2]
  have b1 : ∀ B', (∀ x ∈ B', x ∈ B) → secs B' = [] := fun B' h => List.filter_eq_nil_iff.2 fun x hx => by simp [(hB x (h x hx)).2.2]
  have b2 : (B.filter fun x => isNum x.k) = [] := List.filter_eq_nil_iff.2 fun x hx => by simp [(hB x hx).2.1]
  have e1 : secs (A ++ B) = secs A := by rw [secs_append, b1 B (fun _ h => h), List.append_nil]
  have e2 : sigs (A ++ B) = sigs B := by rw [sigs_append, a1, List.nil_append]
  have e3 : ments (A ++ B) = ments B := by rw [ments_append, a2, List.nil_append]
  have e4 : ((A ++ B).filter fun x => isNum x.k) = A.filter fun x => isNum x.k := by rw [List.filter_append, b2, List.append_nil]
  have hp : ∀ t, partner (A ++ B) t = partner L t := partner_congr hL.ments (by rw [e3]; exact hBm) (fun x hx hm => by
    rcases hBp x hx hm with h | ⟨h7, h⟩
    · exact .inl (List.mem_append_right _ h)
    · exact .inr ⟨h7, List.mem_append_right _ h⟩) (fun t ht => hBt t (by rwa [e3] at ht))
  have htold : ∀ x ∈ B, ∀ t ∈ tips x, ∃ y ∈ secs L, ∃ e, e < nEnds (isPt y) ∧ t = tip y e := fun x hx t ht => by
    unfold tips at ht
    by_cases h7 : x.k = 7
    · rw [if_pos h7] at ht
      exact ments_told hL (hBt t (List.mem_flatMap.2 ⟨x, hx, by rw [ment7 h7]; exact ht⟩))
    · rw [if_neg h7] at ht
      by_cases h8 : x.k = 8
      · rw [if_pos h8] at ht
        exact ments_told hL (hBt t (List.mem_flatMap.2 ⟨x, hx, by rw [ment8 h8]; exact ht⟩))
      · rw [if_neg h8] at ht
        by_cases h9 : x.k = 9
        · rw [if_pos h9] at ht
          have hxs : x ∈ sigs L := hBg.mem_iff.1 (mem_sigs.2 ⟨hx, by simp [isG, h9]⟩)
          refine told_all hL (mem_sigs.1 hxs).1 ?_
          unfold tips
          rw [if_neg h7, if_neg h8, if_pos h9]
          exact ht
        · rw [if_neg h9] at ht; cases ht
  have hok : Ok (A ++ B) := by
    refine ⟨fun x hx => ?_, by rw [e4]; exact hAn, ?_, ?_, ?_, ?_, ?_, by rw [e3]; exact hBm, fun M x N e => ?_⟩
    · rcases List.mem_append.1 hx with h | h
      · exact (hA x h).1
      · exact (hB x h).1
    · rw [nmS, e1]; exact (hAs.map _).nodup_iff.2 hL.names
    · rw [e1, hAs.length_eq]; exact hL.few
    · rw [nmG, e2]; exact (hBg.map _).nodup_iff.2 hL.gnames
    · rw [e2]; exact (hBg.map _).nodup_iff.2 hL.gends
    · rw [e2, hBg.length_eq]; exact hL.gfew
    · have key : ∀ M', (∀ z ∈ M', z ∈ B) → M = A ++ M' → x ∈ B → ∀ t ∈ tips x, t.n ∈ nmS M ∧ (endAt (ptOf M t.n) t.c).isSome = true := by
        intro M' hM' hM hx t ht
        obtain ⟨y, hy, f, hf, rfl⟩ := htold x hx t ht
        have es : secs M = secs A := by rw [hM, secs_append, b1 M' hM', List.append_nil]
        have ep : (secs M).Perm (secs L) := by rw [es]; exact hAs
        refine ⟨mem_nmS.2 ⟨y, ep.mem_iff.2 hy, rfl⟩, ?_⟩
        rw [ptOf_perm hL.names ep, tip_at hL hy hf]; rfl
      rcases List.append_eq_append_iff.1 e with ⟨c, h1, h2⟩ | ⟨c, h1, h2⟩
      · have hxB : x ∈ B := by rw [h2]; simp
        exact key c (fun z hz => by rw [h2]; exact List.mem_append_left _ hz) h1 hxB
      · cases c with
        | nil =>
          rw [List.nil_append] at h2
          rw [List.append_nil] at h1
          have hxB : x ∈ B := by rw [← h2]; simp
          exact key [] (fun z hz => by cases hz) (by rw [List.append_nil]; exact h1.symm) hxB
        | cons z c =>
          have hz : x = z := by have := congrArg List.head? h2; simpa using this
          intro t ht
          have hxA : x ∈ A := by rw [h1, hz]; simp
          rw [a3 x hxA] at ht
          cases ht
  have hshut : Shut (A ++ B) := fun x hx => by
    rw [lack_congr hp]
    by_cases hs : isS x = true
    · have : x ∈ secs (A ++ B) := mem_secs.2 ⟨hx, hs⟩
      rw [e1] at this
      exact hS x (mem_secs.1 (hAs.mem_iff.1 this)).1
    · by_cases hg : isG x = true
      · have : x ∈ sigs (A ++ B) := mem_sigs.2 ⟨hx, hg⟩
        rw [e2] at this
        exact hS x (mem_sigs.1 (hBg.mem_iff.1 this)).1
      · unfold lackErr
        rw [if_neg hs, if_neg hg]
  refine ⟨hok, hshut, ?_⟩
  rw [build_ok hok hshut, fin_congr hL (by rw [e1]; exact hAs) (by rw [e2]; exact hBg) (fun k h1 h2 => ?_) hp]
  have hk : isNum k = true := by unfold isNum; exact decide_eq_true ⟨h1, h2⟩
  rcases hAv k h1 h2 with ⟨y, hy, rfl, hv⟩ | ⟨hv, hno⟩
  · rw [← hv]
    exact num_mem hok.nums (List.mem_append_left _ hy) hk
  · rw [hv]
    refine num_no fun y hy => ?_
    rcases List.mem_append.1 hy with h | h
    · exact hno y h
    · intro e
      have := (hB y h).2.1
      rw [e, hk] at this; cases this

/-! ### A station's own lines -/
def numAt (L : List Itm) (k : Int) : List Itm := if num L k = 0 then [] else [⟨k, [], num L k, Tp.zero, Tp.zero⟩]
theorem numsP_eq (L : List Itm) : numsP (fin L) = numAt L 1 ++ numAt L 2 ++ numAt L 3 ++ numAt L 4 := by
  have cons : ∀ (a : Int × Int) (l : List (Int × Int)), (a :: l).filterMap (fun a => if a.2 = 0 then none else some (⟨a.1, [], a.2, Tp.zero, Tp.zero⟩ : Itm)) = (if a.2 = 0 then [] else [⟨a.1, [], a.2, Tp.zero, Tp.zero⟩]) ++ l.filterMap fun a => if a.2 = 0 then none else some ⟨a.1, [], a.2, Tp.zero, Tp.zero⟩ := by
    intro a l
    rw [List.filterMap_cons]
    by_cases h : a.2 = 0
    · rw [if_pos h, if_pos h]; rfl
    · rw [if_neg h, if_neg h]; rfl
  unfold numsP
  rw [cons, cons, cons, cons]
  simp only [List.filterMap_nil, List.append_nil, List.append_assoc]
  rfl
theorem mem_numAt {L : List Itm} {k : Int} {x : Itm} : x ∈ numAt L k ↔ num L k ≠ 0 ∧ x = ⟨k, [], num L k, Tp.zero, Tp.zero⟩ := by
  unfold numAt
  by_cases h : num L k = 0
  · rw [if_pos h]; simp [h]
  · rw [if_neg h]; simp [h]
theorem mem_numsP {L : List Itm} {x : Itm} : x ∈ numsP (fin L) ↔ ∃ k : Int, 1 ≤ k ∧ k ≤ 4 ∧ num L k ≠ 0 ∧ x = ⟨k, [], num L k, Tp.zero, Tp.zero⟩ := by
  rw [numsP_eq]
  simp only [List.mem_append, mem_numAt]
  constructor
  · rintro (((h | h) | h) | h)
    · exact ⟨1, by decide, by decide, h⟩
    · exact ⟨2, by decide, by decide, h⟩
    · exact ⟨3, by decide, by decide, h⟩
    · exact ⟨4, by decide, by decide, h⟩
  · rintro ⟨k, h1, h2, h⟩
    obtain rfl | rfl | rfl | rfl : k = 1 ∨ k = 2 ∨ k = 3 ∨ k = 4 := by omega
    · exact .inl (.inl (.inl h))
    · exact .inl (.inl (.inr h))
    · exact .inl (.inr h)
    · exact .inr h
theorem num_told {L : List Itm} {k : Int} (h : num L k ≠ 0) : ∃ y ∈ L, y.k = k ∧ y.n = num L k := by
  unfold num at h ⊢
  cases hf : L.find? fun x => decide (x.k = k) with
  | none => rw [hf] at h; exact absurd rfl h
  | some y => exact ⟨y, List.mem_of_find?_eq_some hf, by simpa using List.find?_some hf, rfl⟩
theorem numsP_mem {L : List Itm} (hL : Ok L) {x : Itm} (hx : x ∈ numsP (fin L)) : x ∈ L ∧ isNum x.k = true := by
  obtain ⟨k, h1, h2, h0, rfl⟩ := mem_numsP.1 hx
  obtain ⟨y, hy, hk, hn⟩ := num_told h0
  have hnum : isNum y.k = true := by rw [hk]; unfold isNum; exact decide_eq_true ⟨h1, h2⟩
  have e := right_num (hL.right y hy) hnum
  rw [hk, hn] at e
  rw [← e]
  exact ⟨hy, hnum⟩
theorem numsP_nodup (L : List Itm) : ((numsP (fin L)).map (·.k)).Nodup := by
  rw [numsP_eq]
  have key : ∀ k, (numAt L k).map (·.k) = if num L k = 0 then [] else [k] := fun k => by
    unfold numAt; by_cases h : num L k = 0
    · rw [if_pos h, if_pos h]; rfl
    · rw [if_neg h, if_neg h]; rfl
  simp only [List.map_append, key]
  by_cases h1 : num L 1 = 0 <;> by_cases h2 : num L 2 = 0 <;> by_cases h3 : num L 3 = 0 <;> by_cases h4 : num L 4 = 0 <;> simp [h1, h2, h3, h4]
theorem secI_fS {L : List Itm} (hL : Ok L) {x : Itm} (hx : x ∈ secs L) : secI (fS L x) = x := by
  have hs := (mem_secs.1 hx).2
  obtain ⟨e, _, _⟩ := right_sec (hL.right x (mem_secs.1 hx).1) hs
  have hk : (if isPt x = true then (6 : Int) else 5) = x.k := by
    unfold isS isLen at hs
    have := of_decide_eq_true hs
    unfold isPt
    by_cases h6 : x.k = 6
    · rw [if_pos (decide_eq_true h6), h6]
    · rw [if_neg (by simpa using h6)]; omega
  show (⟨if isPt x = true then 6 else 5, x.name, x.n, Tp.zero, Tp.zero⟩ : Itm) = x
  rw [hk]; exact e.symm
theorem secs_items {L : List Itm} (hL : Ok L) : (fin L).secs.map secI = SS L := by
  rw [fin_secs, List.map_map]
  conv => rhs; rw [← List.map_id (SS L)]
  exact List.map_congr_left fun x hx => secI_fS hL (SS_mem.1 hx)
theorem sigI_eq {L : List Itm} (hL : Ok L) {x : Itm} (hx : x ∈ sigs L) : sigI (fin L) (sigW (rank (nmS L)) L x) = x := by
  have hg := (mem_sigs.1 hx).2
  have h9 : x.k = 9 := by simpa [isG] using hg
  have hm := (mem_sigs.1 hx).1
  obtain ⟨e, _, _⟩ := right_sig (hL.right x hm) h9
  obtain ⟨y, hy, f, hf, ht⟩ := told_all hL hm (t := x.e0) (by unfold tips; rw [if_neg (by omega), if_neg (by omega), if_pos h9]; simp)
  have h1 : (sigW (rank (nmS L)) L x).en.toNat = f := by
    show ((((endAt (ptOf L x.e0.n) x.e0.c).getD 0 : Nat) : Int)).toNat = f
    rw [ht, tip_at hL hy hf]; rfl
  have h2 : (sigW (rank (nmS L)) L x).sec.toNat = plS L y := by
    show (rank (nmS L) x.e0.n).toNat = _
    rw [ht]; rfl
  unfold sigI
  rw [h1, h2, show tipP (fin L) (plS L y) f = tip y f from (ta_told hL hy hf).2, ← ht]
  exact e.symm
theorem sigs_items {L : List Itm} (hL : Ok L) : (fin L).sigs.map (sigI (fin L)) = GG L := by
  rw [fin_sigs, List.map_map]
  conv => rhs; rw [← List.map_id (GG L)]
  exact List.map_congr_left fun x hx => sigI_eq hL (GG_mem.1 hx)
def AA (L : List Itm) : List Itm := numsP (fin L) ++ SS L
def CC (L : List Itm) : List Itm := JJ L ++ BB L ++ GG L
theorem items_eq {L : List Itm} (hL : Ok L) : items (fin L) = AA L ++ CC L := by
  unfold items AA CC JJ BB
  rw [secs_items hL, sigs_items hL]
  simp only [List.append_assoc]

theorem AA_facts {L : List Itm} (hL : Ok L) : (∀ x ∈ AA L, It.right x = true ∧ (isNum x.k = true ∨ isS x = true)) ∧ (((AA L).filter fun x => isNum x.k).map (·.k)).Nodup ∧ (secs (AA L)).Perm (secs L) ∧
    ∀ k : Int, 1 ≤ k → k ≤ 4 → (∃ y ∈ AA L, y.k = k ∧ y.n = num L k) ∨ (num L k = 0 ∧ ∀ y ∈ AA L, y.k ≠ k) := by
  have hS : ∀ x ∈ SS L, isS x = true ∧ isNum x.k = false ∧ x ∈ L := fun x hx => by
    obtain ⟨h1, h2⟩ := mem_secs.1 (SS_mem.1 hx)
    exact ⟨h2, (sec_facts h2).1, h1⟩
  have hN : ∀ x ∈ numsP (fin L), isNum x.k = true ∧ isS x = false ∧ x ∈ L := fun x hx => by
    obtain ⟨h1, h2⟩ := numsP_mem hL hx
    exact ⟨h2, (num_facts h2).1, h1⟩
  refine ⟨fun x hx => ?_, ?_, ?_, fun k h1 h2 => ?_⟩
  · rcases List.mem_append.1 hx with h | h
    · exact ⟨hL.right x (hN x h).2.2, .inl (hN x h).1⟩
    · exact ⟨hL.right x (hS x h).2.2, .inr (hS x h).1⟩
  · have f1 : ((SS L).filter fun x => isNum x.k) = [] := List.filter_eq_nil_iff.2 fun x hx => by simp [(hS x hx).2.1]
    have f2 : ((numsP (fin L)).filter fun x => isNum x.k) = numsP (fin L) := List.filter_eq_self.2 fun x hx => (hN x hx).1
    rw [AA, List.filter_append, f1, f2, List.append_nil]
    exact numsP_nodup L
  · rw [AA, secs_append, show secs (numsP (fin L)) = [] from List.filter_eq_nil_iff.2 (fun x hx => by simp [(hN x hx).2.1]), List.nil_append, show secs (SS L) = SS L from List.filter_eq_self.2 (fun x hx => (hS x hx).1)]
    exact SS_perm L
  · by_cases h0 : num L k = 0
    · refine .inr ⟨h0, fun y hy e => ?_⟩
      rcases List.mem_append.1 hy with h | h
      · obtain ⟨k', _, _, h3, rfl⟩ := mem_numsP.1 h
        exact h3 (by rw [show k' = k from e]; exact h0)
      · have := (hS y h).2.1
        rw [e] at this
        unfold isNum at this
        exact absurd (decide_eq_true (⟨h1, h2⟩ : 1 ≤ k ∧ k ≤ 4)) (by rw [this]; simp)
    · exact .inl ⟨_, List.mem_append_left _ (mem_numsP.2 ⟨k, h1, h2, h0, rfl⟩), rfl, rfl⟩
theorem CC_facts {L : List Itm} (hL : Ok L) (hS : Shut L) : (∀ x ∈ CC L, It.right x = true ∧ isNum x.k = false ∧ isS x = false) ∧ (sigs (CC L)).Perm (sigs L) ∧ (ments (CC L)).Nodup ∧
    (∀ x ∈ L, ment x ≠ [] → x ∈ CC L ∨ (x.k = 7 ∧ swap x ∈ CC L)) ∧ ∀ t ∈ ments (CC L), t ∈ ments L := by
  have hJ : ∀ x ∈ JJ L ++ BB L, It.right x = true ∧ isNum x.k = false ∧ isS x = false ∧ isG x = false := fun x hx => by
    obtain ⟨h1, h2⟩ := JB_right hL hS hx
    exact ⟨h1, end_facts h2⟩
  have hG : ∀ x ∈ GG L, It.right x = true ∧ isNum x.k = false ∧ isS x = false ∧ isG x = true ∧ ment x = [] := fun x hx => by
    obtain ⟨h1, h2⟩ := mem_sigs.1 (GG_mem.1 hx)
    have hf := sig_facts h2
    exact ⟨hL.right x h1, hf.1, hf.2.1, h2, by rw [ment, if_neg hf.2.2.1, if_neg hf.2.2.2.1]⟩
  have em : ments (CC L) = ments (JJ L ++ BB L) := by
    rw [CC, ments_append, show ments (GG L) = [] from List.flatMap_eq_nil_iff.2 (fun x hx => (hG x hx).2.2.2.2), List.append_nil]
  refine ⟨fun x hx => ?_, ?_, by rw [em]; exact ments_JB hL hS, fun x hx hm => ?_, fun t ht => by rw [em] at ht; exact JB_sub hL hS ht⟩
  · rcases List.mem_append.1 hx with h | h
    · exact ⟨(hJ x h).1, (hJ x h).2.1, (hJ x h).2.2.1⟩
    · exact ⟨(hG x h).1, (hG x h).2.1, (hG x h).2.2.1⟩
  · rw [CC, sigs_append, show sigs (JJ L ++ BB L) = [] from List.filter_eq_nil_iff.2 (fun x hx => by simp [(hJ x hx).2.2.2]), List.nil_append, show sigs (GG L) = GG L from List.filter_eq_self.2 (fun x hx => (hG x hx).2.2.2.1)]
    exact GG_perm L
  · rcases JB_all hL hS hx hm with h | ⟨h7, h⟩
    · exact .inl (List.mem_append_left _ h)
    · exact .inr ⟨h7, List.mem_append_left _ h⟩
/-- A station's lines build it again. -/
theorem build_items {L : List Itm} (hL : Ok L) (hS : Shut L) : Ok (items (fin L)) ∧ Shut (items (fin L)) ∧ build (items (fin L)) = (fin L, 0, 0) := by
  obtain ⟨a1, a2, a3, a4⟩ := AA_facts hL
  obtain ⟨c1, c2, c3, c4, c5⟩ := CC_facts hL hS
  rw [items_eq hL]
  exact rebuild hL hS a1 a2 a3 a4 c1 c2 c3 c4 c5

/-! ### Turned -/
def sw (x : Itm) : Itm := if x.k = 7 then swap x else x
def turn (l : List Itm) : List Itm := (l.filter fun x => decide (x.k ≤ 6)).reverse ++ ((l.filter fun x => !decide (x.k ≤ 6)).reverse).map sw
theorem sw_k (x : Itm) : (sw x).k = x.k := by
  unfold sw
  split <;> rfl
theorem sw_ne {x : Itm} (h : x.k ≠ 7) : sw x = x := by unfold sw; rw [if_neg h]
theorem ment_sw (x : Itm) : (ment (sw x)).Perm (ment x) := by
  by_cases h7 : x.k = 7
  · have : (sw x).k = 7 := by rw [sw_k]; exact h7
    rw [ment7 this, ment7 h7, sw, if_pos h7]
    exact .swap ..
  · rw [sw_ne h7]
theorem ments_sw : ∀ l : List Itm, (ments (l.map sw)).Perm (ments l)
  | [] => .refl _
  | x :: l => by
    have := (ment_sw x).append (ments_sw l)
    simpa [ments] using this
theorem ments_perm {l m : List Itm} (h : l.Perm m) : (ments l).Perm (ments m) := h.flatMap_right _
theorem turn_eq {A B : List Itm} (hA : ∀ x ∈ A, x.k ≤ 6) (hB : ∀ x ∈ B, 6 < x.k) : turn (A ++ B) = A.reverse ++ (B.reverse).map sw := by
  have f1 : (A.filter fun x => decide (x.k ≤ 6)) = A := List.filter_eq_self.2 fun x hx => decide_eq_true (hA x hx)
  have f2 : (B.filter fun x => decide (x.k ≤ 6)) = [] := List.filter_eq_nil_iff.2 fun x hx => by have := hB x hx; simp; omega
  have f3 : (A.filter fun x => !decide (x.k ≤ 6)) = [] := List.filter_eq_nil_iff.2 fun x hx => by have := hA x hx; simp; omega
  have f4 : (B.filter fun x => !decide (x.k ≤ 6)) = B := List.filter_eq_self.2 fun x hx => by have := hB x hx; simp; omega
  unfold turn
  rw [List.filter_append, List.filter_append, f1, f2, f3, f4, List.append_nil, List.nil_append]
/-- Another order, joins told from their other ends: the same station. -/
theorem build_turned {L : List Itm} (hL : Ok L) (hS : Shut L) : Ok (turn (items (fin L))) ∧ Shut (turn (items (fin L))) ∧ build (turn (items (fin L))) = (fin L, 0, 0) := by
  obtain ⟨a1, a2, a3, a4⟩ := AA_facts hL
  obtain ⟨c1, c2, c3, c4, c5⟩ := CC_facts hL hS
  have ha : ∀ x ∈ AA L, x.k ≤ 6 := fun x hx => by
    obtain ⟨hr, h⟩ := a1 x hx
    have := right_kind hr
    rcases h with h | h
    · unfold isNum at h; have := of_decide_eq_true h; omega
    · unfold isS isLen at h; have := of_decide_eq_true h; omega
  have hc : ∀ x ∈ CC L, 6 < x.k := fun x hx => by
    obtain ⟨hr, h1, h2⟩ := c1 x hx
    have := right_kind hr
    unfold isNum at h1
    unfold isS isLen at h2
    have := of_decide_eq_false h1
    have := of_decide_eq_false h2
    omega
  rw [items_eq hL, turn_eq ha hc]
  have pa : (AA L).reverse.Perm (AA L) := List.reverse_perm _
  have pc : (CC L).reverse.Perm (CC L) := List.reverse_perm _
  have hmem : ∀ y, y ∈ (CC L).reverse.map sw ↔ ∃ x ∈ CC L, sw x = y := fun y => by simp
  have swr : ∀ x ∈ CC L, It.right (sw x) = true := fun x hx => by
    have hr := (c1 x hx).1
    by_cases h7 : x.k = 7
    · obtain ⟨e, g0, g1⟩ := right_join hr h7
      have : sw x = ⟨7, [], 0, x.e1, x.e0⟩ := by
        unfold sw
        rw [if_pos h7]
        unfold swap
        rw [e]
      rw [this]
      exact mk_join g1 g0
    · rw [sw_ne h7]; exact hr
  have pm : (ments ((CC L).reverse.map sw)).Perm (ments (CC L)) := (ments_sw _).trans (ments_perm pc)
  have es : sigs ((CC L).reverse.map sw) = sigs (CC L).reverse := by
    unfold sigs
    have : ∀ l : List Itm, (l.map sw).filter isG = l.filter isG := fun l => by
      induction l with
      | nil => rfl
      | cons x l ih =>
        have hg : isG (sw x) = isG x := by unfold isG; rw [sw_k]
        rw [List.map_cons, List.filter_cons, List.filter_cons, ih, hg]
        by_cases h : isG x = true
        · rw [if_pos h, if_pos h, sw_ne (fun e => by simp [isG, e] at h)]
        · rw [if_neg h, if_neg h]
    exact this _
  refine rebuild hL hS (fun x hx => a1 x (pa.mem_iff.1 hx)) (((pa.filter _).map _).nodup_iff.2 a2) ((pa.filter _).trans a3) (fun k h1 h2 => ?_) (fun y hy => ?_) ?_ (pm.nodup_iff.2 c3) (fun x hx hm => ?_) (fun t ht => c5 t (pm.mem_iff.1 ht))
  · rcases a4 k h1 h2 with ⟨y, hy, h⟩ | ⟨h, hno⟩
    · exact .inl ⟨y, pa.mem_iff.2 hy, h⟩
    · exact .inr ⟨h, fun y hy => hno y (pa.mem_iff.1 hy)⟩
  · obtain ⟨x, hx, rfl⟩ := (hmem y).1 hy
    refine ⟨swr x hx, ?_, ?_⟩
    · rw [sw_k]; exact (c1 x hx).2.1
    · have := (c1 x hx).2.2
      unfold isS at this ⊢
      rw [sw_k]; exact this
  · rw [es]
    exact (pc.filter _).trans c2
  · rcases c4 x hx hm with h | ⟨h7, h⟩
    · by_cases h7 : x.k = 7
      · exact .inr ⟨h7, (hmem _).2 ⟨x, h, by unfold sw; rw [if_pos h7]⟩⟩
      · exact .inl ((hmem _).2 ⟨x, h, sw_ne h7⟩)
    · refine .inl ((hmem _).2 ⟨swap x, h, ?_⟩)
      unfold sw
      rw [if_pos (show (swap x).k = 7 from h7)]
      rfl
end Go.Proofs.YtaheiolbeiofpaaGreatDoor.Pl
/-
  Plain mathematics of layer 5: what is true of every station that is built; what is found in it; what is told of a text stays. No program is named here.
-/
namespace Go.Proofs.YtaheiolbeiofpaaGreatDoor.Pl
open Go It

section
variable {L : List Itm} (hL : Ok L) (hS : Shut L)
include hL
theorem secs_at {i : Nat} {s : Sec} (h : (fin L).secs[i]? = some s) : ∃ x, (SS L)[i]? = some x ∧ x ∈ secs L ∧ plS L x = i ∧ rank (nmS L) x.name = i ∧ s = fS L x := by
  rw [fin_secs, List.getElem?_map, Option.map_eq_some_iff] at h
  obtain ⟨x, hx, rfl⟩ := h
  obtain ⟨h1, h2⟩ := SS_pl hL hx
  exact ⟨x, hx, h1, by unfold plS; omega, h2, rfl⟩
theorem secs_pl {x : Itm} (hx : x ∈ secs L) : (fin L).secs[plS L x]? = some (fS L x) := by
  rw [fin_secs, List.getElem?_map, SS_at hL hx]; rfl
theorem sigs_at {i : Nat} {g : Sig} (h : (fin L).sigs[i]? = some g) : ∃ x, (GG L)[i]? = some x ∧ x ∈ sigs L ∧ plG L x = i ∧ rank (nmG L) x.name = i ∧ g = sigW (rank (nmS L)) L x := by
  rw [fin_sigs, List.getElem?_map, Option.map_eq_some_iff] at h
  obtain ⟨x, hx, rfl⟩ := h
  have hx' := GG_mem.1 (List.mem_of_getElem? hx)
  have hr : rank (nmG L) x.name = i := by
    rw [show nmG L = (sigs L).map Itm.name from rfl, ← rank_perm ((GG_perm L).map Itm.name)]
    exact rank_at (rise_map (GG_rise hL)) i _ (by rw [List.getElem?_map, hx]; rfl)
  exact ⟨x, hx, hx', by unfold plG; omega, hr, rfl⟩
theorem sigs_pl {x : Itm} (hx : x ∈ sigs L) : (fin L).sigs[plG L x]? = some (sigW (rank (nmS L)) L x) := by
  rw [fin_sigs, List.getElem?_map, GG_at hL hx]; rfl
theorem secs_rise : Rise Sec.name (fin L).secs := by
  unfold Rise
  rw [fin_secs, List.pairwise_map]
  exact SS_rise hL
theorem sigs_rise : Rise Sig.name (fin L).sigs := by
  unfold Rise
  rw [fin_sigs, List.pairwise_map]
  exact GG_rise hL
omit hL in
theorem secs_len : (fin L).secs.length = (secs L).length := by rw [fin_secs, List.length_map]; exact isort_len _ _
omit hL in
theorem sigs_len : (fin L).sigs.length = (sigs L).length := by rw [fin_sigs, List.length_map]; exact isort_len _ _
theorem plain_end {i : Nat} {s : Sec} (h : (fin L).secs[i]? = some s) (hp : s.pt = false) : s.e2 = stop := by
  obtain ⟨x, _, _, _, _, rfl⟩ := secs_at hL h
  show (if isPt x then _ else stop) = stop
  have : isPt x = false := hp
  rw [this]; rfl
include hS
/-- An end of a station's section: no end at all; or stopped; or joined, there and back. -/
theorem end_cases {i e : Nat} {s : Sec} (h : (fin L).secs[i]? = some s) (he : e < 3) :
    s.get e = stop ∨
    (∃ x, x ∈ secs L ∧ e < nEnds (isPt x) ∧ plS L x = i ∧ s = fS L x ∧ partner L (tip x e) = some none ∧ (s.get e).goes = -1 ∧ (s.get e).at_ = 0 ∧ (s.get e).sig = -1) ∨
    (∃ (x : Itm) (j f : Nat) (t : Sec), x ∈ secs L ∧ e < nEnds (isPt x) ∧ plS L x = i ∧ s = fS L x ∧ (fin L).secs[j]? = some t ∧ f < 3 ∧ (s.get e).goes = (j : Int) ∧ (s.get e).at_ = (f : Int) ∧ (t.get f).goes = (i : Int) ∧ (t.get f).at_ = (e : Int) ∧
      ((s.get e).sig = -1 ∨ ∃ (k : Nat) (g : Sig), (fin L).sigs[k]? = some g ∧ (s.get e).sig = (k : Int) ∧ g.sec = (i : Int) ∧ g.en = (e : Int))) := by
  obtain ⟨x, hx, hxs, hpl, hrk, rfl⟩ := secs_at hL h
  by_cases hen : e < nEnds (isPt x)
  · right
    have ha : (i, e) ∈ endsP (fin L) := mem_endsP.2 ⟨x, hx, hen⟩
    have hta : ta L (i, e) = tip x e := tipP_eq hx
    have hg : (fS L x).get e = enP (fin L) (i, e) := by rw [enP_eq hx hen, get_fS hen]
    have hne := ta_partner hL hS ha
    have hsg : ∀ u, sigAt L (tip x e) = some u → ∃ y ∈ sigs L, y.e0 = tip x e ∧ y.name = u ∧ ∃ v, partner L (tip x e) = some (some v) := fun u hu => by
      obtain ⟨y, hy, h1, h2⟩ := sigAt_some hu
      refine ⟨y, hy, h1, h2, ?_⟩
      have := hS y (mem_sigs.1 hy).1
      unfold lackErr at this
      rw [if_neg (by rw [(sig_facts (mem_sigs.1 hy).2).2.1]; simp), if_pos (mem_sigs.1 hy).2, h1] at this
      cases hp : partner L (tip x e) with
      | none => rw [hp] at this; cases this
      | some v =>
        cases v with
        | none => rw [hp] at this; cases this
        | some v => exact ⟨v, rfl⟩
    cases hp : partner L (ta L (i, e)) with
    | none => exact absurd hp hne
    | some v =>
      cases v with
      | none =>
        left
        obtain ⟨h1, h2⟩ := en_stop ha hp
        rw [hta] at hp
        refine ⟨x, hxs, hen, hpl, rfl, hp, by rw [hg]; exact h1, by rw [hg]; exact h2, ?_⟩
        rw [get_fS hen]
        show (match sigAt L (tip x e) with | some g => rank (nmG L) g | none => -1) = -1
        cases hs : sigAt L (tip x e) with
        | none => rfl
        | some u =>
          obtain ⟨_, _, _, _, v, hv⟩ := hsg u hs
          rw [hp] at hv; cases hv
      | some u =>
        right
        obtain ⟨b, hb, rfl⟩ := ta_ments hL (partner_ments (t := u) (by rw [(partner_sym hL.ments hp).1]; simp))
        obtain ⟨h1, h2⟩ := en_join hL ha hb hp
        obtain ⟨h3, h4⟩ := en_join hL hb ha (partner_sym hL.ments hp).1
        obtain ⟨j, f⟩ := b
        obtain ⟨y, hy, hf⟩ := mem_endsP.1 hb
        have hf3 : f < 3 := by
          have : nEnds (isPt y) ≤ 3 := by unfold nEnds; split <;> omega
          exact Nat.lt_of_lt_of_le hf this
        have hgy : (fS L y).get f = enP (fin L) (j, f) := by rw [enP_eq hy hf, get_fS hf]
        refine ⟨x, j, f, fS L y, hxs, hen, hpl, rfl, by rw [fin_secs, List.getElem?_map, hy]; rfl, hf3, by rw [hg]; exact h1, by rw [hg]; exact h2, by rw [hgy]; exact h3, by rw [hgy]; exact h4, ?_⟩
        rw [get_fS hen]
        show ((match sigAt L (tip x e) with | some g => rank (nmG L) g | none => -1) = -1) ∨ ∃ k g, _ ∧ (match sigAt L (tip x e) with | some g => rank (nmG L) g | none => -1) = _ ∧ _
        cases hs : sigAt L (tip x e) with
        | none => exact .inl rfl
        | some u =>
          obtain ⟨z, hz, h5, h6, _⟩ := hsg u hs
          refine .inr ⟨plG L z, _, sigs_pl hL hz, ?_, ?_, ?_⟩
          · show rank (nmG L) u = _
            rw [← h6]
            have := rank_nonneg (nmG L) z.name
            unfold plG; omega
          · show rank (nmS L) z.e0.n = _
            rw [h5]; exact hrk
          · show (((endAt (ptOf L z.e0.n) z.e0.c).getD 0 : Nat) : Int) = _
            rw [h5, tip_at hL hxs hen]; rfl
  · left
    unfold Sec.get
    have hp : isPt x = false := by
      cases hp : isPt x with
      | false => rfl
      | true => rw [hp] at hen; exact absurd he hen
    have h2 : e = 2 := by rw [hp] at hen; simp [nEnds] at hen; omega
    subst h2
    show (if isPt x then _ else stop) = stop
    rw [hp]; rfl
omit hS in
/-- A signal stands at an end that names it. -/
theorem sig_cases {i : Nat} {g : Sig} (h : (fin L).sigs[i]? = some g) : ∃ (j f : Nat) (t : Sec), (fin L).secs[j]? = some t ∧ f < 3 ∧ g.sec = (j : Int) ∧ g.en = (f : Int) ∧ (t.get f).sig = (i : Int) := by
  obtain ⟨x, hx, hxs, _, hrk, rfl⟩ := sigs_at hL h
  have h9 := (sig_facts (mem_sigs.1 hxs).2).2.2.2.2
  obtain ⟨y, hy, f, hf, ht⟩ := told_all hL (mem_sigs.1 hxs).1 (t := x.e0) (by unfold tips; rw [if_neg (by omega), if_neg (by omega), if_pos h9]; simp)
  have hf3 : f < 3 := by
    have : nEnds (isPt y) ≤ 3 := by unfold nEnds; split <;> omega
    exact Nat.lt_of_lt_of_le hf this
  refine ⟨plS L y, f, _, secs_pl hL hy, hf3, ?_, ?_, ?_⟩
  · show rank (nmS L) x.e0.n = _
    rw [ht]
    have := rank_nonneg (nmS L) y.name
    show rank (nmS L) y.name = _
    unfold plS; omega
  · show (((endAt (ptOf L x.e0.n) x.e0.c).getD 0 : Nat) : Int) = _
    rw [ht, tip_at hL hy hf]; rfl
  · rw [get_fS hf]
    show (match sigAt L (tip y f) with | some g => rank (nmG L) g | none => -1) = _
    rw [← ht, sigAt_eq hL.gends hxs]
    exact hrk
end

/-! ### Finding a name -/
def find (l : List Sec) (nm : Nm) : Int := match l.findIdx? fun s => decide (s.name = nm) with | some i => (i : Int) | none => -1
theorem find_none {l : List Sec} {nm : Nm} (h : ∀ s ∈ l, s.name ≠ nm) : find l nm = -1 := by
  unfold find
  rw [List.findIdx?_eq_none_iff.2 fun s hs => by simpa using h s hs]
theorem find_at {l : List Sec} {nm : Nm} {i : Nat} {s : Sec} (h : l[i]? = some s) (hn : s.name = nm) (h0 : ∀ j < i, ∀ t, l[j]? = some t → t.name ≠ nm) : find l nm = i := by
  unfold find
  have : l.findIdx? (fun s => decide (s.name = nm)) = some i := by
    rw [List.findIdx?_eq_some_iff_getElem]
    obtain ⟨hi, rfl⟩ := List.getElem?_eq_some_iff.1 h
    exact ⟨hi, by simpa using hn, fun j hj => by simpa using h0 j hj _ (List.getElem?_eq_getElem (by omega))⟩
  rw [this]
theorem find_cases (l : List Sec) (nm : Nm) : (find l nm = -1 ∧ ∀ s ∈ l, s.name ≠ nm) ∨ ∃ i s, find l nm = (i : Nat) ∧ l[i]? = some s ∧ s.name = nm := by
  cases h : l.findIdx? fun s => decide (s.name = nm) with
  | none => exact .inl ⟨by unfold find; rw [h], fun s hs => by simpa using List.findIdx?_eq_none_iff.1 h s hs⟩
  | some i =>
    obtain ⟨hi, h1, _⟩ := List.findIdx?_eq_some_iff_getElem.1 h
    exact .inr ⟨i, l[i], by unfold find; rw [h], List.getElem?_eq_getElem hi, by simpa using h1⟩
theorem find_rise {l : List Sec} (hr : Rise Sec.name l) {i : Nat} {s : Sec} (h : l[i]? = some s) : find l s.name = i := by
  refine find_at h rfl fun j hj t ht e => ?_
  obtain ⟨hi, rfl⟩ := List.getElem?_eq_some_iff.1 h
  obtain ⟨hj', rfl⟩ := List.getElem?_eq_some_iff.1 ht
  exact nm_ne (List.pairwise_iff_getElem.1 hr j i hj' hi hj) e
theorem find_told {L : List Itm} (hL : Ok L) {x : Itm} (hx : x ∈ secs L) : find (fin L).secs x.name = plS L x ∧ (fin L).secs[plS L x]? = some (fS L x) :=
  ⟨find_rise (secs_rise hL) (secs_pl hL hx), secs_pl hL hx⟩

/-! ### What is told of a text stays -/
theorem tipErr_in (M : List Itm) (used : List Tp) (t : Tp) : tipErr M used t = 0 ∨ tipErr M used t = 4 ∨ tipErr M used t = 5 ∨ tipErr M used t = 6 := by
  unfold tipErr
  repeat' split
  all_goals simp
theorem lineErr_in (M : List Itm) (x : Itm) : lineErr M x = 0 ∨ lineErr M x = 2 ∨ lineErr M x = 3 ∨ lineErr M x = 4 ∨ lineErr M x = 5 ∨ lineErr M x = 6 ∨ lineErr M x = 9 := by
  have h1 := tipErr_in M (ments M) x.e0
  have h2 := tipErr_in M (ments M ++ [x.e0]) x.e1
  have h3 := tipErr_in M [] x.e0
  unfold lineErr joinErr sigErr
  repeat' split
  all_goals (first | omega | simp)
theorem lackErr_in (M : List Itm) (x : Itm) : lackErr M x = 0 ∨ lackErr M x = 7 ∨ lackErr M x = 8 := by
  unfold lackErr
  repeat' split
  all_goals simp
theorem lineErr_2 (M : List Itm) (x : Itm) : lineErr M x = 2 ↔ It.right x = false := by
  constructor
  · intro h
    cases hr : It.right x with
    | false => rfl
    | true =>
      have h1 := tipErr_in M (ments M) x.e0
      have h2 := tipErr_in M (ments M ++ [x.e0]) x.e1
      have h3 := tipErr_in M [] x.e0
      unfold lineErr joinErr sigErr at h
      rw [hr, if_neg (by simp)] at h
      repeat' split at h
      all_goals (first | omega | simp at h)
  · intro h
    unfold lineErr
    rw [h]; rfl
/-- A fault of a line that may not come there: it is the first one, and stays. -/
theorem build_line {L : List Itm} {e : Int} {n : Nat} {p : Plan} (h : build L = (p, e, n)) (h0 : e ≠ 0) (h7 : e ≠ 7) (h8 : e ≠ 8) : ∃ i, n = i + 1 ∧ i < L.length ∧ p = Plan.zero ∧ errAt L i = e ∧ ∀ j < i, errAt L j = 0 := by
  unfold build at h
  cases h1 : firstE (errAt L) L.length with
  | some i =>
    rw [h1] at h
    cases h
    obtain ⟨h2, _, h3⟩ := firstE_some.1 h1
    exact ⟨i, rfl, h2, rfl, rfl, h3⟩
  | none =>
    rw [h1] at h
    simp only at h
    cases h2 : firstE (lackAt L) L.length with
    | some i =>
      rw [h2] at h
      cases h
      rcases lackErr_in L ((L[i]?).getD Itm.zero) with h3 | h3 | h3
      · exact absurd h3 h0
      · exact absurd h3 h7
      · exact absurd h3 h8
    | none => rw [h2] at h; cases h; exact absurd rfl h0
theorem build_at {K : List Itm} {i : Nat} {e : Int} (hi : i < K.length) (he : errAt K i = e) (h0 : e ≠ 0) (hj : ∀ j < i, errAt K j = 0) : build K = (Plan.zero, e, i + 1) := by
  unfold build
  rw [firstE_some.2 ⟨hi, by rw [he]; exact h0, hj⟩]
  simp only [he]
theorem build_more {L : List Itm} {i : Nat} {e : Int} (hi : i < L.length) (he : errAt L i = e) (h0 : e ≠ 0) (hj : ∀ j < i, errAt L j = 0) (N : List Itm) : build (L ++ N) = (Plan.zero, e, i + 1) :=
  build_at (by simp; omega) (by rw [errAt_left hi]; exact he) h0 fun j h => by rw [errAt_left (by omega)]; exact hj j h
theorem errAt_take {L : List Itm} {i n : Nat} (h : i < n) (hn : n ≤ L.length) : errAt (L.take n) i = errAt L i := by
  have := errAt_left (M := L.take n) (N := L.drop n) (i := i) (by rw [List.length_take]; omega)
  rw [List.take_append_drop] at this
  exact this.symm
theorem build_less {L : List Itm} {i : Nat} {e : Int} (hi : i < L.length) (he : errAt L i = e) (h0 : e ≠ 0) (hj : ∀ j < i, errAt L j = 0) : build (L.take (i + 1)) = (Plan.zero, e, i + 1) :=
  build_at (by rw [List.length_take]; omega) (by rw [errAt_take (by omega) (by omega)]; exact he) h0 fun j h => by rw [errAt_take (by omega) (by omega)]; exact hj j h
theorem errAt_form {L : List Itm} {i : Nat} (hi : i < L.length) : errAt L i = 2 ↔ It.right L[i] = false := by
  unfold errAt
  rw [List.getElem?_eq_getElem hi]
  exact lineErr_2 _ _
end Go.Proofs.YtaheiolbeiofpaaGreatDoor.Pl
