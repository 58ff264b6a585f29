/-
  Texts of this claim, merged: PlPlan, PlDrQ.
-/
import Derived.Test.YtaheiolbeiofpaaGreatDoorMg15
import Derived.Test.YtaheiolbeiofpaaGreatDoorMg18
/-
  Plain mathematics of layer 5: a draft's sections and signals in order of their names, then told by places in that order. No program is named here.
-/
namespace Go.Proofs.YtaheiolbeiofpaaGreatDoor.Pl
open Go It

theorem ins_map {α β : Type} (key : β → Nm) (f : α → β) (a : α) : ∀ l : List α, ins key (f a) (l.map f) = (ins (fun x => key (f x)) a l).map f
  | [] => rfl
  | b :: l => by
    simp only [List.map_cons, ins]
    by_cases h : key (f b) < key (f a)
    · rw [if_pos h, if_pos h, List.map_cons, ins_map key f a l]
    · rw [if_neg h, if_neg h]; rfl
theorem isort_map {α β : Type} (key : β → Nm) (f : α → β) : ∀ l : List α, isort key (l.map f) = (isort (fun x => key (f x)) l).map f
  | [] => rfl
  | a :: l => by simp only [List.map_cons, isort]; rw [isort_map key f l, ins_map]
theorem dS_sorted (L : List Itm) : isort Sec.name (dS L) = (SS L).map fun x => clr (secG (gW L) x) := by
  rw [dS, wS, List.map_map, isort_map]; rfl
theorem wG_sorted (L : List Itm) : isort Sig.name (wG L) = (GG L).map (sigW (pos (nmS L)) L) := by
  rw [wG, isort_map]; rfl
theorem dS_names (L : List Itm) : (dS L).map Sec.name = nmS L := by
  unfold dS wS nmS
  rw [List.map_map, List.map_map]; rfl
theorem wG_names' (L : List Itm) : (wG L).map Sig.name = nmG L := by
  unfold wG nmG
  rw [List.map_map]; rfl
/-- The sections ahead: the first i told by places, the others as they were. -/
def secsTo (L : List Itm) (i : Nat) : List Sec := ((fin L).secs.map clr).take i ++ (isort Sec.name (dS L)).drop i
theorem sorted_len (L : List Itm) : (isort Sec.name (dS L)).length = (fin L).secs.length := by rw [dS_sorted, fin_secs, List.length_map, List.length_map]
theorem secsTo_len (L : List Itm) (i : Nat) (h : i ≤ (fin L).secs.length) : (secsTo L i).length = (fin L).secs.length := by
  unfold secsTo
  rw [List.length_append, List.length_take, List.length_drop, sorted_len, List.length_map]; omega
theorem secsTo_zero (L : List Itm) : secsTo L 0 = isort Sec.name (dS L) := by unfold secsTo; simp
theorem secsTo_all (L : List Itm) : secsTo L (fin L).secs.length = (fin L).secs.map clr := by
  unfold secsTo
  rw [List.take_of_length_le (by simp), List.drop_eq_nil_of_le (by rw [sorted_len]; exact Nat.le_refl _), List.append_nil]
theorem secsTo_next {L : List Itm} {i : Nat} {s : Sec} (h : (fin L).secs[i]? = some s) : (secsTo L i).set i (clr s) = secsTo L (i + 1) := by
  have hi := (List.getElem?_eq_some_iff.1 h).1
  have hs := sorted_len L
  apply List.ext_getElem?
  intro k
  rw [List.getElem?_set]
  unfold secsTo
  by_cases hk : i = k
  · subst hk
    rw [if_pos rfl, if_pos (by rw [List.length_append, List.length_take, List.length_drop, List.length_map]; omega)]
    rw [List.getElem?_append_left (by rw [List.length_take, List.length_map]; omega), List.getElem?_take, if_pos (by omega), List.getElem?_map, h]; rfl
  · rw [if_neg hk]
    by_cases hlt : k < i
    · rw [List.getElem?_append_left (by rw [List.length_take, List.length_map]; omega), List.getElem?_append_left (by rw [List.length_take, List.length_map]; omega), List.getElem?_take, List.getElem?_take, if_pos hlt, if_pos (by omega)]
    · rw [List.getElem?_append_right (by rw [List.length_take]; omega), List.getElem?_append_right (by rw [List.length_take]; omega)]
      simp only [List.length_take, List.length_map, List.getElem?_drop]
      congr 1
      omega
/-- Names don't turn. -/
theorem secsTo_names (L : List Itm) (i : Nat) : (secsTo L i).map Sec.name = (fin L).secs.map Sec.name := by
  have e : (isort Sec.name (dS L)).map Sec.name = (fin L).secs.map Sec.name := by rw [dS_sorted, fin_secs, List.map_map, List.map_map]; rfl
  unfold secsTo
  rw [List.map_append, List.map_take, List.map_drop, e, List.map_map]
  rw [show (fin L).secs.map (Sec.name ∘ clr) = (fin L).secs.map Sec.name from rfl, List.take_append_drop]
theorem find_names {A B : List Sec} (h : A.map Sec.name = B.map Sec.name) (nm : Nm) : find A nm = find B nm := by
  have e : ∀ C : List Sec, (C.findIdx? fun s => decide (s.name = nm)) = (C.map Sec.name).findIdx? fun a => decide (a = nm) := fun C => by rw [List.findIdx?_map]; rfl
  unfold find
  rw [e A, e B, h]
section
variable {L : List Itm} (hL : Ok L)
include hL
theorem sorted_at {i : Nat} {s : Sec} (h : (fin L).secs[i]? = some s) : ∃ x, x ∈ secs L ∧ s = fS L x ∧ (SS L)[i]? = some x ∧ (isort Sec.name (dS L))[i]? = some (clr (secG (gW L) x)) := by
  obtain ⟨x, hx, hxs, -, -, rfl⟩ := secs_at hL h
  exact ⟨x, hxs, rfl, hx, by rw [dS_sorted, List.getElem?_map, hx]; rfl⟩
theorem secsTo_at {i : Nat} {s : Sec} (h : (fin L).secs[i]? = some s) : ∃ x, x ∈ secs L ∧ s = fS L x ∧ (secsTo L i)[i]? = some (clr (secG (gW L) x)) := by
  obtain ⟨x, hx, e, hs, ha⟩ := sorted_at hL h
  refine ⟨x, hx, e, ?_⟩
  have hi := (List.getElem?_eq_some_iff.1 h).1
  unfold secsTo
  rw [List.getElem?_append_right (by rw [List.length_take]; omega), List.length_take, List.length_map, Nat.min_eq_left (by omega), Nat.sub_self, List.getElem?_drop, Nat.add_zero]
  exact ha
theorem find_rank {v : Nat} {u : Sec} (hv : (dS L)[v]? = some u) {A : List Sec} (hA : A.map Sec.name = (fin L).secs.map Sec.name) : find A u.name = ren1 (ranks (nmS L)) v ∧ 0 ≤ find A u.name ∧ find A u.name < (fin L).secs.length := by
  obtain ⟨x, hx, rfl⟩ := dS_at hv
  have hm := List.mem_of_getElem? hx
  obtain ⟨h1, h2⟩ := find_told hL hm
  have hname : (clr (secG (gW L) x)).name = x.name := rfl
  have hvl : v < (nmS L).length := by rw [nmS_len, wS_len]; exact (List.getElem?_eq_some_iff.1 hx).1
  have hr : ren1 (ranks (nmS L)) v = rank (nmS L) x.name := by
    have e1 := ren1_at hvl
    have e2 := ranks_at (N := nmS L) (i := v) (nm := x.name) (nmS_at hx)
    rw [e1] at e2
    exact Option.some.inj e2
  have hpl : ((plS L x : Nat) : Int) = rank (nmS L) x.name := by
    unfold plS
    have := rank_nonneg (nmS L) x.name
    omega
  rw [hname, find_names hA, h1]
  refine ⟨by rw [hr, hpl], by omega, ?_⟩
  have := (List.getElem?_eq_some_iff.1 h2).1
  omega
theorem ren_clr {x : Itm} : renSec (ranks (nmS L)) [] (clr (secG (gW L) x)) = clr (fS L x) := by
  have e := ren_sec hL x
  show _ = clr (secW (rank (nmS L)) (rank (nmG L)) L x)
  rw [← e]
  have hn : ren1 [] (-1) = -1 := ren_neg (by decide)
  unfold renSec clr renEn clrE
  simp only [hn]
/-- No end of a whole station's section is open. -/
theorem not_open (hS : Shut L) {x : Itm} (hx : x ∈ secs L) {e : Nat} (he : e < 3) : ((clr (secG (gW L) x)).get e).goes = -1 ∨ ∃ v : Nat, ((clr (secG (gW L) x)).get e).goes = v ∧ v < (dS L).length := by
  rw [clr_get]
  show ((secG (gW L) x).get e).goes = -1 ∨ _
  have hlen : (dS L).length = (nmS L).length := by rw [dS_len, nmS_len, wS_len]
  rw [hlen]
  have hg : ∀ f, f < nEnds (isPt x) → (gW L (tip x f)).goes = -1 ∨ ∃ v : Nat, (gW L (tip x f)).goes = v ∧ v < (nmS L).length := fun f hf => by
    have hp := shut_sec hS hx hf
    have hlt := (gW_lt hL (tip x f)).1
    cases hq : partner L (tip x f) with
    | none => exact absurd hq hp
    | some w => cases w with
      | none => left; simp [gW, enW, hq]
      | some u =>
        right
        have h0 : 0 ≤ (gW L (tip x f)).goes := by simp only [gW, enW, hq]; unfold pos; omega
        exact ⟨(gW L (tip x f)).goes.toNat, by omega, by omega⟩
  by_cases hen : e < nEnds (isPt x)
  · show ((secG (gW L) x).get e).goes = -1 ∨ ∃ v : Nat, ((secG (gW L) x).get e).goes = v ∧ _
    rw [get_secG _ hen]; exact hg e hen
  · have hp : isPt x = false := by
      cases h : isPt x with
      | false => rfl
      | true => rw [h] at hen; exact absurd he hen
    rw [hp] at hen
    have he2 : e = 2 := by unfold nEnds at hen; simp at hen; omega
    subst he2
    left
    show (if isPt x then gW L (tip x 2) else stop).goes = -1
    rw [hp]; rfl
/-! ### Signals -/
end
def tellE (i : Int) (e : En) : En := ⟨e.goes, e.at_, if e.sig < i then e.sig else -1⟩
/-- A section, with signals told up to the i-th. -/
def tellS (i : Int) (s : Sec) : Sec := ⟨s.name, s.pt, s.len, tellE i s.e0, tellE i s.e1, tellE i s.e2⟩
theorem tell_get (i : Int) (s : Sec) (e : Nat) : (tellS i s).get e = tellE i (s.get e) := by
  unfold Sec.get
  split
  · rfl
  · split <;> rfl
theorem sec_ext {s t : Sec} (h1 : s.name = t.name) (h2 : s.pt = t.pt) (h3 : s.len = t.len) (h : ∀ e, e < 3 → s.get e = t.get e) : s = t := by
  have a := h 0 (by decide)
  have b := h 1 (by decide)
  have c := h 2 (by decide)
  cases s
  cases t
  simp only [Sec.get] at a b c
  simp only at h1 h2 h3
  simp_all
def secsTell (L : List Itm) (i : Nat) : List Sec := (fin L).secs.map (tellS i)
theorem gsorted_len (L : List Itm) : (isort Sig.name (wG L)).length = (fin L).sigs.length := by rw [wG_sorted, fin_sigs, List.length_map, List.length_map]
def sigsTo (L : List Itm) (i : Nat) : List Sig := (fin L).sigs.take i ++ (isort Sig.name (wG L)).drop i
theorem secsTell_names (L : List Itm) (i : Nat) : (secsTell L i).map Sec.name = (fin L).secs.map Sec.name := by unfold secsTell; rw [List.map_map]; rfl
section
variable {L : List Itm} (hL : Ok L) (hS : Shut L)
include hL hS
theorem sig_range {k e : Nat} {s : Sec} (h : (fin L).secs[k]? = some s) (he : e < 3) : (s.get e).sig = -1 ∨ ∃ (q : Nat) (g : Sig), (fin L).sigs[q]? = some g ∧ (s.get e).sig = (q : Int) ∧ g.sec = (k : Int) ∧ g.en = (e : Int) := by
  rcases end_cases hL hS h he with h1 | ⟨x, -, -, -, -, -, -, -, h1⟩ | ⟨x, j, f, t, -, -, -, -, -, -, -, -, -, -, h1⟩
  · rw [h1]; exact .inl rfl
  · exact .inl h1
  · exact h1
theorem tell_zero : secsTell L 0 = (fin L).secs.map clr := by
  apply List.ext_getElem?
  intro k
  unfold secsTell
  rw [List.getElem?_map, List.getElem?_map]
  cases hk : (fin L).secs[k]? with
  | none => rfl
  | some s =>
    simp only [Option.map_some]
    congr 1
    refine sec_ext rfl rfl rfl fun e he => ?_
    rw [tell_get, clr_get]
    unfold tellE clrE
    rcases sig_range hL hS hk he with h | ⟨q, g, -, h, -⟩
    · rw [h]; rfl
    · rw [h, if_neg (by omega)]
theorem tell_all : secsTell L (fin L).sigs.length = (fin L).secs := by
  apply List.ext_getElem?
  intro k
  unfold secsTell
  rw [List.getElem?_map]
  cases hk : (fin L).secs[k]? with
  | none => rfl
  | some s =>
    simp only [Option.map_some]
    congr 1
    refine sec_ext rfl rfl rfl fun e he => ?_
    rw [tell_get]
    unfold tellE
    rcases sig_range hL hS hk he with h | ⟨q, g, hq, h, -⟩
    · rw [if_pos (by rw [h]; omega)]
    · have := (List.getElem?_eq_some_iff.1 hq).1
      rw [if_pos (by rw [h]; omega)]
theorem tell_next {i : Nat} {g : Sig} (h : (fin L).sigs[i]? = some g) : ∃ (k e : Nat) (s : Sec), g.sec = (k : Int) ∧ g.en = (e : Int) ∧ e < 3 ∧ (fin L).secs[k]? = some s ∧ (secsTell L i)[k]? = some (tellS i s) ∧ (secsTell L i).set k (Sec.setSig e i (tellS i s)) = secsTell L (i + 1) := by
  obtain ⟨k, e, s, hs, he, h1, h2, h3⟩ := sig_cases hL h
  refine ⟨k, e, s, h1, h2, he, hs, by unfold secsTell; rw [List.getElem?_map, hs]; rfl, ?_⟩
  have hkl := (List.getElem?_eq_some_iff.1 hs).1
  have own : ∀ {j f : Nat} {t : Sec}, (fin L).secs[j]? = some t → f < 3 → (t.get f).sig = (i : Int) → j = k ∧ f = e := fun {j f t} ht hf hsig => by
    rcases sig_range hL hS ht hf with h0 | ⟨q, g', hq, h4, h5, h6⟩
    · rw [h0] at hsig; omega
    · rw [h4] at hsig
      obtain rfl : q = i := by omega
      rw [h] at hq
      cases hq
      omega
  have step : ∀ {j f : Nat} {t : Sec}, (fin L).secs[j]? = some t → f < 3 → ¬ (j = k ∧ f = e) → tellE i (t.get f) = tellE (i + 1 : Nat) (t.get f) := fun {j f t} ht hf hne => by
    unfold tellE
    congr 1
    by_cases hi : (t.get f).sig < (i : Int)
    · rw [if_pos hi, if_pos (by omega)]
    · rw [if_neg hi]
      by_cases hi2 : (t.get f).sig < ((i + 1 : Nat) : Int)
      · exact absurd (own ht hf (by omega)) hne
      · rw [if_neg hi2]
  apply List.ext_getElem?
  intro j
  rw [List.getElem?_set]
  unfold secsTell
  rw [List.getElem?_map, List.getElem?_map, List.length_map]
  by_cases hjk : k = j
  · subst hjk
    rw [if_pos rfl, if_pos hkl, hs]
    simp only [Option.map_some]
    congr 1
    have hp := put_name (tellS i s) e { (tellS i s).get e with sig := (i : Int) }
    refine sec_ext hp.1 hp.2.1 hp.2.2 fun f hf => ?_
    unfold Sec.setSig
    rw [get_put he hf, tell_get, tell_get, tell_get]
    by_cases hfe : f = e
    · subst hfe
      rw [if_pos rfl]
      unfold tellE
      simp only [h3, if_pos (show (i : Int) < ((i + 1 : Nat) : Int) by omega)]
    · rw [if_neg hfe]; exact step hs hf (fun h => hfe h.2)
  · rw [if_neg hjk]
    cases hj : (fin L).secs[j]? with
    | none => rfl
    | some t =>
      simp only [Option.map_some]
      congr 1
      refine sec_ext rfl rfl rfl fun f hf => ?_
      rw [tell_get, tell_get]
      exact step hj hf (fun h => hjk h.1.symm)
end
theorem sigsTo_zero (L : List Itm) : sigsTo L 0 = isort Sig.name (wG L) := by unfold sigsTo; simp
theorem sigsTo_len (L : List Itm) (i : Nat) (h : i ≤ (fin L).sigs.length) : (sigsTo L i).length = (fin L).sigs.length := by
  unfold sigsTo
  rw [List.length_append, List.length_take, List.length_drop, gsorted_len]; omega
theorem sigsTo_all (L : List Itm) : sigsTo L (fin L).sigs.length = (fin L).sigs := by
  unfold sigsTo
  rw [List.take_of_length_le (Nat.le_refl _), List.drop_eq_nil_of_le (by rw [gsorted_len]; exact Nat.le_refl _), List.append_nil]
theorem sigsTo_next {L : List Itm} {i : Nat} {g : Sig} (h : (fin L).sigs[i]? = some g) : (sigsTo L i).set i g = sigsTo L (i + 1) := by
  have hi := (List.getElem?_eq_some_iff.1 h).1
  have hs := gsorted_len L
  apply List.ext_getElem?
  intro k
  rw [List.getElem?_set]
  unfold sigsTo
  by_cases hk : i = k
  · subst hk
    rw [if_pos rfl, if_pos (by rw [List.length_append, List.length_take, List.length_drop]; omega)]
    rw [List.getElem?_append_left (by rw [List.length_take]; omega), List.getElem?_take, if_pos (by omega), h]
  · rw [if_neg hk]
    by_cases hlt : k < i
    · rw [List.getElem?_append_left (by rw [List.length_take]; omega), List.getElem?_append_left (by rw [List.length_take]; omega), List.getElem?_take, List.getElem?_take, if_pos hlt, if_pos (by omega)]
    · rw [List.getElem?_append_right (by rw [List.length_take]; omega), List.getElem?_append_right (by rw [List.length_take]; omega)]
      simp only [List.length_take, List.getElem?_drop]
      congr 1
      omega
/-- A signal that isn't told by ranks yet: its section by the place that the draft gives. -/
theorem sigsTo_at {L : List Itm} (hL : Ok L) {i : Nat} {g : Sig} (h : (fin L).sigs[i]? = some g) : ∃ v : Nat, v < (dS L).length ∧ (sigsTo L i)[i]? = some ⟨g.name, v, g.en⟩ ∧ ren1 (ranks (nmS L)) v = g.sec := by
  have hi := (List.getElem?_eq_some_iff.1 h).1
  obtain ⟨y, hy, hm, -, -, rfl⟩ := sigs_at hL h
  have ha : (isort Sig.name (wG L))[i]? = some (sigW (pos (nmS L)) L y) := by rw [wG_sorted, List.getElem?_map, hy]; rfl
  have hmem : sigW (pos (nmS L)) L y ∈ wG L := List.mem_map.2 ⟨y, hm, rfl⟩
  obtain ⟨j, hj, ej⟩ := List.getElem_of_mem hmem
  have hj' : (wG L)[j]? = some (sigW (pos (nmS L)) L y) := by rw [List.getElem?_eq_getElem hj, ej]
  obtain ⟨h0, h1⟩ := wG_sec hL hj'
  have hren := ren_sig hL hm
  obtain ⟨v, hv⟩ : ∃ v : Nat, (sigW (pos (nmS L)) L y).sec = (v : Int) := ⟨_, (Int.toNat_of_nonneg h0).symm⟩
  refine ⟨v, ?_, ?_, ?_⟩
  · have : (dS L).length = (wS L).length := by rw [dS_len, wS_len]
    omega
  · unfold sigsTo
    rw [List.getElem?_append_right (by rw [List.length_take]; omega), List.length_take, Nat.min_eq_left (by omega), Nat.sub_self, List.getElem?_drop, Nat.add_zero, ha, ← hv]; rfl
  · rw [← hren, ← hv]; rfl
end Go.Proofs.YtaheiolbeiofpaaGreatDoor.Pl
/-
  The walk of the program's layer 5: a draft's plan: a section's place by its name; the first region.
-/
namespace Go.Proofs.YtaheiolbeiofpaaGreatDoor
open Go.RowKit

/-- A place by its name. -/
theorem one_cell {w : World} {g : Nat} {v : Value} {t : TypeId} (h : w.heap[g]? = some (.cells #[v] t (0, 0))) : w.cell? ⟨g, 0, none⟩ = some v ∧ w.frozen? ⟨g, 0, none⟩ = false ∧ g < w.heap.size :=
  ⟨cell_of_row w g 0 _ t _ h, frozen_of_row w g 0 _ t h, (Array.getElem?_eq_some_iff.1 h).1⟩
set_option maxHeartbeats 8000000 in
set_option maxRecDepth 100000 in
theorem pPlace (g bp bd : Nat) (M : List It.Itm) (vS vG : Value) (LS : List Pl.Sec) (LG : List Pl.Sig) (A : Option Addr) (c : Nat) (X : List Pl.Sec) (W : World) (hD : DrX tyD tyS tyG W g M vS vG LS LG) (h0 : W.cell? ⟨bd, 0, none⟩ = some (.pointer (some ⟨g, 0, none⟩))) (h4 : W.cell? ⟨bp, 4, none⟩ = some (.slice A X.length c))
    (hbd : bd < W.heap.size) (hbp : bp < W.heap.size) (hX : LSec.Row W A X) (hl : X.length ≤ 1000) (hll : LS.length ≤ 1000) {v : Nat} {u : Pl.Sec} (hv : LS[v]? = some u) :
    Calls Tryz.prog 60 #[.int .i64 v, .pointer (some ⟨bp, 0, none⟩), .pointer (some ⟨bd, 0, none⟩)] W fun e w' => e = .returned (.int .i64 (Pl.find X u.name)) ∧ Below W.heap.size W w' := by
  have hvl := (List.getElem?_eq_some_iff.1 hv).1
  obtain ⟨gb, cap, rfl⟩ := hD.slice (by omega)
  obtain ⟨s10, -, -, -, -, g1, gb1, -, -, hin⟩ := hD.reads hv (show 0 < 3 by decide)
  have on := sec_on (Lies.own_on hD.2.1 hv)
  have n0 := on.1
  rw [show v * LSec.m = v * 12 from rfl] at n0
  have FN := Lib.hid (fun W' (h : Below W.heap.size W W') => Made.of h (pFind_any A c X u.name W' (hX.below rfl h) (by omega)))
  clear on hD hX hv
  go_enter Tryz.func60, Tryz.ntmps60
  go_wp2_with fail
  go_region_held3 (fun w' => w'.cell? ⟨bd, 0, none⟩ = some (.pointer (some ⟨g, 0, none⟩)) ∧ w'.cell? ⟨bp, 4, none⟩ = some (.slice A X.length c) ∧ w'.cell? ⟨g, 10, none⟩ = some (.slice (some ⟨gb, 0, none⟩) LS.length cap) ∧ w'.cell? ⟨gb, v * 12, none⟩ = some (.string (txt u.name)))
    (first | exact ⟨h0, h4, s10, n0⟩ | exact ⟨(hcell _ _ hbd).trans h0, (hcell _ _ hbp).trans h4, (hcell _ _ g1).trans s10, (hcell _ _ gb1).trans n0⟩)
    (first
      | (go_at_call 13; (with_reducible refine (FN.out _ (Below.refl _ _).drew).mono ?_); rintro e w' ⟨rfl, hbl, hacc, hz⟩; have hcell := (bcell hbl).1)
      | (go_at_call 13; (with_reducible refine (FN.out _ (below_drewN (Below.refl _ _) _)).mono ?_); rintro e w' ⟨rfl, hbl, hacc, hz⟩; have hcell := (bcell hbl).1))
  all_goals go_wp2_with fail
  all_goals go_ret
  all_goals exact ⟨rfl, hacc⟩
end Go.Proofs.YtaheiolbeiofpaaGreatDoor
