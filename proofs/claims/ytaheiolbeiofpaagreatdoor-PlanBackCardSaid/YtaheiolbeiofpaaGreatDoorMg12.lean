/-
  Texts of this claim, merged: PlMem, PlWork, PlRefA, PlRefB, PlRefC, PlRefD.
-/
import Derived.Test.YtaheiolbeiofpaaGreatDoorMg09
import Derived.Test.YtaheiolbeiofpaaGreatDoorMg11
import Derived.Deep.RegionHeld3
import Derived.Sort.Walk0
/-
  A plan in memory: its sections, its signals, its numbers.
-/
namespace Go.Proofs.YtaheiolbeiofpaaGreatDoor
open Go.RowKit

def secCells (s : Pl.Sec) : List Value :=
  [.string (txt s.name), .bool s.pt, .int .i64 s.len, .int .i64 s.e0.goes, .int .i64 s.e0.at_, .int .i64 s.e0.sig, .int .i64 s.e1.goes, .int .i64 s.e1.at_, .int .i64 s.e1.sig, .int .i64 s.e2.goes, .int .i64 s.e2.at_, .int .i64 s.e2.sig]
def sigCells (g : Pl.Sig) : List Value := [.string (txt g.name), .int .i64 g.sec, .int .i64 g.en]
def LSec : Lies Pl.Sec := ⟨12, by decide, secCells, fun _ => rfl, fun y u hu => by
  simp [secCells] at hu
  rcases hu with rfl | rfl | rfl | rfl | rfl | rfl | rfl | rfl | rfl | rfl | rfl | rfl <;> rfl⟩
def LSig : Lies Pl.Sig := ⟨3, by decide, sigCells, fun _ => rfl, fun y u hu => by
  simp [sigCells] at hu
  rcases hu with rfl | rfl | rfl <;> rfl⟩
def LItm : Lies It.Itm := ⟨7, by decide, cells7, cells7_length, cells7_one⟩
theorem LItm_row {w : World} {A : Option Addr} {L : List It.Itm} : LItm.Row w A L ↔ Its w A L := Iff.rfl
theorem LItm_all (L : List It.Itm) : LItm.all L = cellsL L := rfl
theorem sec_on {w : World} {b o : Nat} {s : Pl.Sec} (h : LSec.On w b o s) :
    w.cell? ⟨b, o, none⟩ = some (.string (txt s.name)) ∧ w.cell? ⟨b, o + 1, none⟩ = some (.bool s.pt) ∧ w.cell? ⟨b, o + 2, none⟩ = some (.int .i64 s.len) ∧ w.cell? ⟨b, o + 3, none⟩ = some (.int .i64 s.e0.goes) ∧ w.cell? ⟨b, o + 4, none⟩ = some (.int .i64 s.e0.at_) ∧
      w.cell? ⟨b, o + 5, none⟩ = some (.int .i64 s.e0.sig) ∧ w.cell? ⟨b, o + 6, none⟩ = some (.int .i64 s.e1.goes) ∧ w.cell? ⟨b, o + 7, none⟩ = some (.int .i64 s.e1.at_) ∧ w.cell? ⟨b, o + 8, none⟩ = some (.int .i64 s.e1.sig) ∧
      w.cell? ⟨b, o + 9, none⟩ = some (.int .i64 s.e2.goes) ∧ w.cell? ⟨b, o + 10, none⟩ = some (.int .i64 s.e2.at_) ∧ w.cell? ⟨b, o + 11, none⟩ = some (.int .i64 s.e2.sig) :=
  ⟨h 0 _ rfl, h 1 _ rfl, h 2 _ rfl, h 3 _ rfl, h 4 _ rfl, h 5 _ rfl, h 6 _ rfl, h 7 _ rfl, h 8 _ rfl, h 9 _ rfl, h 10 _ rfl, h 11 _ rfl⟩
theorem sig_on {w : World} {b o : Nat} {g : Pl.Sig} (h : LSig.On w b o g) : w.cell? ⟨b, o, none⟩ = some (.string (txt g.name)) ∧ w.cell? ⟨b, o + 1, none⟩ = some (.int .i64 g.sec) ∧ w.cell? ⟨b, o + 2, none⟩ = some (.int .i64 g.en) :=
  ⟨h 0 _ rfl, h 1 _ rfl, h 2 _ rfl⟩
/-- What Build leaves. -/
def PlanGives (p : Pl.Plan × Int × Nat) (w : World) (e : Ending) (w' : World) : Prop :=
  ∃ A c A' c', p.1.secs.length ≤ c ∧ p.1.sigs.length ≤ c' ∧
    e = .returned (.tuple #[.agg #[.int .i64 p.1.ov, .int .i64 p.1.ap, .int .i64 p.1.se, .int .i64 p.1.ho, .slice A p.1.secs.length c, .slice A' p.1.sigs.length c'], .agg #[.int .i64 p.2.1, .int .i64 p.2.2]]) ∧
    LSec.Row w' A p.1.secs ∧ LSig.Row w' A' p.1.sigs ∧ Below w.heap.size w w'
theorem PlanGives.bad {p : Pl.Plan × Int × Nat} {w w' : World} {e : Ending} (x : Int) (n : Nat) (hp : p = (Pl.Plan.zero, x, n)) (he : e = .returned (.tuple #[.agg #[.int .i64 0, .int .i64 0, .int .i64 0, .int .i64 0, .slice none 0 0, .slice none 0 0], .agg #[.int .i64 x, .int .i64 (n : Int)]])) (hb : Below w.heap.size w w') : PlanGives p w e w' := by
  subst hp
  exact ⟨none, 0, none, 0, Nat.le_refl _, Nat.le_refl _, he, .inl rfl, .inl rfl, hb⟩
theorem str_lt (a b : List UInt8) : Op.bytesLess (txt a).toList (txt b).toList = decide (a < b) := by rw [toList_txt, toList_txt]; exact bytesLess_eq a b
end Go.Proofs.YtaheiolbeiofpaaGreatDoor
/-
  Plain mathematics of layer 5: sections and signals as they were told, line by line, each with places in the order of telling. No program is named here.
-/
namespace Go.Proofs.YtaheiolbeiofpaaGreatDoor.Pl
open Go It

/-- A section whose ends are told by a function. -/
def secG (g : Tp → En) (x : Itm) : Sec := ⟨x.name, isPt x, x.n, g (tip x 0), g (tip x 1), if isPt x then g (tip x 2) else stop⟩
def upd (g : Tp → En) (t : Tp) (a : En) : Tp → En := fun v => if v = t then a else g v
def Sec.put (s : Sec) (e : Nat) (a : En) : Sec := if e = 0 then { s with e0 := a } else if e = 1 then { s with e1 := a } else { s with e2 := a }
def Sec.setTo (e : Nat) (v : Int) (s : Sec) : Sec := s.put e { s.get e with goes := v }
def Sec.setAt (e : Nat) (v : Int) (s : Sec) : Sec := s.put e { s.get e with at_ := v }
def Sec.setSig (e : Nat) (v : Int) (s : Sec) : Sec := s.put e { s.get e with sig := v }
theorem secW_G (r q : Nm → Int) (M : List Itm) : secW r q M = secG (enW r q M) := rfl
theorem get_secG (g : Tp → En) {x : Itm} {e : Nat} (he : e < nEnds (isPt x)) : (secG g x).get e = g (tip x e) := by
  unfold Sec.get
  by_cases h0 : e = 0
  · rw [if_pos h0, h0]; rfl
  · rw [if_neg h0]
    by_cases h1 : e = 1
    · rw [if_pos h1, h1]; rfl
    · rw [if_neg h1]
      have hp : isPt x = true := by
        cases hp : isPt x with
        | true => rfl
        | false => rw [hp] at he; simp [nEnds] at he; omega
      have h2 : e = 2 := by rw [hp] at he; simp [nEnds] at he; omega
      rw [h2]
      show (if isPt x = true then g (tip x 2) else stop) = _
      rw [if_pos hp]
theorem tip_ne {x : Itm} {e f : Nat} (he : e < nEnds (isPt x)) (hf : f < nEnds (isPt x)) (h : e ≠ f) : tip x e ≠ tip x f := fun hc => h (letter_inj he hf (congrArg Tp.c hc))
theorem secG_upd (g : Tp → En) (a : En) {x : Itm} {e : Nat} (he : e < nEnds (isPt x)) : secG (upd g (tip x e) a) x = (secG g x).put e a := by
  have n0 : 0 < nEnds (isPt x) := by unfold nEnds; split <;> omega
  have n1 : 1 < nEnds (isPt x) := by unfold nEnds; split <;> omega
  unfold Sec.put
  by_cases h0 : e = 0
  · subst h0
    rw [if_pos rfl]
    unfold secG upd
    rw [if_pos rfl, if_neg (tip_ne n1 n0 (by omega))]
    by_cases hp : isPt x = true
    · rw [if_pos hp, if_pos hp, if_neg (tip_ne (by rw [hp]; decide) n0 (by omega))]
    · rw [if_neg hp, if_neg hp]
  · rw [if_neg h0]
    by_cases h1 : e = 1
    · subst h1
      rw [if_pos rfl]
      unfold secG upd
      rw [if_pos rfl, if_neg (tip_ne n0 n1 (by omega))]
      by_cases hp : isPt x = true
      · rw [if_pos hp, if_pos hp, if_neg (tip_ne (by rw [hp]; decide) n1 (by omega))]
      · rw [if_neg hp, if_neg hp]
    · rw [if_neg h1]
      have hp : isPt x = true := by
        cases hp : isPt x with
        | true => rfl
        | false => rw [hp] at he; simp [nEnds] at he; omega
      have h2 : e = 2 := by rw [hp] at he; simp [nEnds] at he; omega
      subst h2
      unfold secG upd
      rw [if_neg (tip_ne n0 he (by omega)), if_neg (tip_ne n1 he (by omega)), if_pos hp, if_pos hp, if_pos rfl]
theorem secG_other (g : Tp → En) (a : En) {x y : Itm} {e : Nat} (h : x.name ≠ y.name) : secG (upd g (tip y e) a) x = secG g x := by
  have n : ∀ f, tip x f ≠ tip y e := fun f hc => h (congrArg Tp.n hc)
  unfold secG upd
  rw [if_neg (n 0), if_neg (n 1), if_neg (n 2)]
theorem modify_at {α : Type} (L : List α) (i k : Nat) (f : α → α) : (L.modify i f)[k]? = if i = k then (L[k]?).map f else L[k]? := by
  rw [List.getElem?_modify]
  by_cases h : i = k
  · subst h
    cases L[i]? <;> simp
  · cases L[k]? <;> simp [h]
/-- One end told otherwise. -/
theorem map_upd {S : List Itm} (hn : (S.map (·.name)).Nodup) (g : Tp → En) (a : En) {i : Nat} {y : Itm} (hy : S[i]? = some y) {e : Nat} (he : e < nEnds (isPt y)) : S.map (secG (upd g (tip y e) a)) = (S.map (secG g)).modify i (fun s => s.put e a) := by
  apply List.ext_getElem?
  intro k
  rw [modify_at, List.getElem?_map, List.getElem?_map]
  cases hk : S[k]? with
  | none => split <;> rfl
  | some x =>
    simp only [Option.map_some]
    by_cases hik : i = k
    · subst hik
      rw [hk] at hy
      cases hy
      rw [if_pos rfl, secG_upd g a he]
    · rw [if_neg hik]
      have : x.name ≠ y.name := fun e => by
        have hi := List.getElem?_map (f := Itm.name) (l := S) (i := i)
        have hk2 := List.getElem?_map (f := Itm.name) (l := S) (i := k)
        rw [hy] at hi
        rw [hk] at hk2
        simp only [Option.map_some] at hi hk2
        rw [e] at hk2
        obtain ⟨h1, h1'⟩ := List.getElem?_eq_some_iff.1 hi
        obtain ⟨h2, h2'⟩ := List.getElem?_eq_some_iff.1 hk2
        have hp := List.nodup_iff_pairwise_ne.1 hn
        rcases Nat.lt_or_gt_of_ne hik with h | h
        · exact List.pairwise_iff_getElem.1 hp i k h1 h2 h (h1'.trans h2'.symm)
        · exact List.pairwise_iff_getElem.1 hp k i h2 h1 h (h2'.trans h1'.symm)
      rw [secG_other g a this]

theorem pos_at : ∀ {N : List Nm} (_ : N.Nodup) (i : Nat) (nm : Nm), N[i]? = some nm → pos N nm = i
  | [], _, i, nm, hi => by simp at hi
  | a :: N, h, 0, nm, hi => by
    obtain rfl : a = nm := by simpa using hi
    simp [pos, List.findIdx_cons]
  | a :: N, h, i + 1, nm, hi => by
    have h' := List.nodup_cons.1 h
    have hi' : N[i]? = some nm := by simpa using hi
    have ih := pos_at h'.2 i nm hi'
    have hne : ¬ a = nm := fun e => h'.1 (e ▸ List.mem_of_getElem? hi')
    unfold pos at ih ⊢
    rw [List.findIdx_cons]
    simp [hne]
    omega
theorem pos_append {N R : List Nm} {nm : Nm} (h : nm ∈ N) : pos (N ++ R) nm = pos N nm := by
  unfold pos
  rw [List.findIdx_append]
  have : N.findIdx (fun a => decide (a = nm)) < N.length := List.findIdx_lt_length.2 ⟨nm, h, by simp⟩
  rw [if_pos this]

/-! ### As it was told -/
abbrev gW (M : List Itm) : Tp → En := enW (pos (nmS M)) (pos (nmG M)) M
def wS (M : List Itm) : List Sec := (secs M).map (secG (gW M))
def wG (M : List Itm) : List Sig := (sigs M).map (sigW (pos (nmS M)) M)
theorem wS_len (M : List Itm) : (wS M).length = (secs M).length := by simp [wS]
theorem wG_len (M : List Itm) : (wG M).length = (sigs M).length := by simp [wG]
theorem wS_at {M : List Itm} {i : Nat} {s : Sec} (h : (wS M)[i]? = some s) : ∃ x, (secs M)[i]? = some x ∧ s = secG (gW M) x := by
  rw [wS, List.getElem?_map, Option.map_eq_some_iff] at h
  obtain ⟨x, hx, rfl⟩ := h
  exact ⟨x, hx, rfl⟩
theorem wS_of {M : List Itm} {i : Nat} {x : Itm} (h : (secs M)[i]? = some x) : (wS M)[i]? = some (secG (gW M) x) := by rw [wS, List.getElem?_map, h]; rfl
theorem nmS_at {M : List Itm} {i : Nat} {x : Itm} (h : (secs M)[i]? = some x) : (nmS M)[i]? = some x.name := by rw [nmS, List.getElem?_map, h]; rfl
theorem pos_sec {M : List Itm} (hn : (nmS M).Nodup) {i : Nat} {x : Itm} (h : (secs M)[i]? = some x) : pos (nmS M) x.name = i := pos_at hn i _ (nmS_at h)
theorem find_wS {M : List Itm} (nm : Nm) : (nm ∉ nmS M ∧ find (wS M) nm = -1) ∨ ∃ (i : Nat) (x : Itm), find (wS M) nm = i ∧ (secs M)[i]? = some x ∧ x.name = nm := by
  rcases find_cases (wS M) nm with ⟨h1, h2⟩ | ⟨i, s, h1, h2, h3⟩
  · refine .inl ⟨fun h => ?_, h1⟩
    obtain ⟨x, hx, e⟩ := mem_nmS.1 h
    exact h2 _ (List.mem_map.2 ⟨x, hx, rfl⟩) e
  · obtain ⟨x, hx, rfl⟩ := wS_at h2
    exact .inr ⟨i, x, h1, hx, h3⟩
theorem partner_snoc (M : List Itm) (x : Itm) (t : Tp) : partner (M ++ [x]) t = (partner M t).or (link t x) := by
  unfold partner
  rw [List.findSome?_append]
  simp only [List.findSome?_cons, List.findSome?_nil]
  cases link t x <;> rfl
theorem ments_nm {M : List Itm} (hM : Ok M) {t : Tp} (h : t ∈ ments M) : t.n ∈ nmS M := by
  obtain ⟨y, hy, e, _, rfl⟩ := ments_told hM h
  exact mem_nmS.2 ⟨y, hy, rfl⟩
theorem sig_nm {M : List Itm} (hM : Ok M) {x : Itm} (h : x ∈ sigs M) : x.e0.n ∈ nmS M := by
  have h9 := (sig_facts (mem_sigs.1 h).2).2.2.2.2
  obtain ⟨y, hy, e, _, he⟩ := told_all hM (mem_sigs.1 h).1 (t := x.e0) (by unfold tips; rw [if_neg (by omega), if_neg (by omega), if_pos h9]; simp)
  exact mem_nmS.2 ⟨y, hy, by rw [he]; rfl⟩
theorem secs_same {M : List Itm} {x : Itm} (h : isS x = false) : secs (M ++ [x]) = secs M := by rw [secs_snoc, h]; simp
theorem sigs_same {M : List Itm} {x : Itm} (h : isG x = false) : sigs (M ++ [x]) = sigs M := by rw [sigs_snoc, h]; simp
theorem ptOf_same {M : List Itm} {x : Itm} (h : isS x = false) : ptOf (M ++ [x]) = ptOf M := by funext nm; unfold ptOf; rw [secs_same h]
theorem sigAt_same {M : List Itm} {x : Itm} (h : isG x = false) : sigAt (M ++ [x]) = sigAt M := by funext t; unfold sigAt; rw [sigs_same h]
theorem ment_none {x : Itm} (h7 : x.k ≠ 7) (h8 : x.k ≠ 8) (t : Tp) : link t x = none := by rw [link_none, ment, if_neg h7, if_neg h8]; simp
theorem num_snoc {M : List Itm} {x : Itm} (k : Int) (h : ∀ y ∈ M, y.k ≠ x.k) : num (M ++ [x]) k = if k = x.k then x.n else num M k := by
  unfold num
  rw [List.find?_append]
  by_cases hk : k = x.k
  · subst hk
    rw [if_pos rfl, List.find?_eq_none.2 fun y hy => by simpa using h y hy]
    simp
  · rw [if_neg hk]
    have : ¬ x.k = k := fun e => hk e.symm
    simp [this]
theorem num_other {M : List Itm} {x : Itm} {k : Int} (h : x.k ≠ k) : num (M ++ [x]) k = num M k := by
  unfold num
  rw [List.find?_append]
  simp [h]
/-- A number more. -/
theorem w_num {M : List Itm} {x : Itm} (hx : isNum x.k = true) : wS (M ++ [x]) = wS M ∧ wG (M ++ [x]) = wG M := by
  obtain ⟨h1, h2, h7, h8, _⟩ := num_facts hx
  have ep : partner (M ++ [x]) = partner M := by funext t; rw [partner_snoc, ment_none h7 h8]; simp
  have e1 : gW (M ++ [x]) = gW M := by
    funext t
    simp only [gW, enW, ep, ptOf_same h1, sigAt_same h2, nmS, nmG, secs_same h1, sigs_same h2]
  constructor
  · rw [wS, e1, secs_same h1]; rfl
  · rw [wG, sigs_same h2]
    unfold wG
    congr 1
    funext y
    simp only [sigW, ptOf_same h1, nmS, secs_same h1]
def openE : En := ⟨-2, 0, -1⟩
/-- A section more. -/
theorem w_sec {M : List Itm} {x : Itm} (hM : Ok M) (hx : isS x = true) (hn : x.name ∉ nmS M) : wS (M ++ [x]) = wS M ++ [⟨x.name, isPt x, x.n, openE, openE, if isPt x then openE else stop⟩] ∧ wG (M ++ [x]) = wG M := by
  obtain ⟨_, h2, h7, h8, _⟩ := sec_facts hx
  have es : secs (M ++ [x]) = secs M ++ [x] := by rw [secs_snoc, if_pos hx]
  have en : nmS (M ++ [x]) = nmS M ++ [x.name] := by rw [nmS, es, List.map_append]; rfl
  have ep : partner (M ++ [x]) = partner M := by funext t; rw [partner_snoc, ment_none h7 h8]; simp
  have ept : ∀ nm, nm ∈ nmS M → ptOf (M ++ [x]) nm = ptOf M nm := fun nm h => by
    obtain ⟨y, hy, rfl⟩ := mem_nmS.1 h
    unfold ptOf
    rw [es, find_uniq (f := Itm.name) hM.names hy, List.find?_append, find_uniq (f := Itm.name) hM.names hy]
    rfl
  have e1 : ∀ t, gW (M ++ [x]) t = gW M t := fun t => by
    simp only [gW, enW, ep, sigAt_same h2, nmG, sigs_same h2]
    cases hp : partner M t with
    | none => rfl
    | some v =>
      cases v with
      | none => rfl
      | some u =>
        have hu := ments_nm hM (partner_ments (t := u) (by rw [(partner_sym hM.ments hp).1]; simp))
        simp only [en, pos_append hu, ept _ hu]
  have e0 : ∀ e, gW M (tip x e) = openE := fun e => by
    have hp : partner M (tip x e) = none := partner_none.2 fun h => hn (ments_nm hM h)
    have hs : sigAt M (tip x e) = none := by
      cases h : sigAt M (tip x e) with
      | none => rfl
      | some g =>
        obtain ⟨y, hy, h3, _⟩ := sigAt_some h
        exact absurd (sig_nm hM hy) (by rw [h3]; exact hn)
    simp only [gW, enW, hp, hs]; rfl
  constructor
  · rw [wS, es, List.map_append, show gW (M ++ [x]) = gW M from funext e1]
    unfold wS
    congr 1
    show [secG (gW M) x] = _
    unfold secG
    rw [e0, e0, e0]
  · rw [wG, sigs_same h2]
    unfold wG
    refine List.map_congr_left fun y hy => ?_
    have := sig_nm hM hy
    simp only [sigW, en, pos_append this, ept _ this]
/-- A stop more. -/
theorem w_stop {M : List Itm} {x : Itm} (hM : Ok M) (h8 : x.k = 8) (hm : x.e0 ∉ ments M) {i : Nat} {y : Itm} (hy : (secs M)[i]? = some y) {e : Nat} (he : e < nEnds (isPt y)) (ht : x.e0 = tip y e) :
    wS (M ++ [x]) = (wS M).modify i (Sec.setTo e (-1)) ∧ wG (M ++ [x]) = wG M := by
  obtain ⟨h0, h1, h2⟩ := end_facts (x := x) (.inr h8)
  have eg : gW (M ++ [x]) = upd (gW M) (tip y e) ⟨-1, 0, (gW M (tip y e)).sig⟩ := by
    funext v
    unfold upd
    simp only [gW, enW, partner_snoc, ptOf_same h1, sigAt_same h2, nmS, nmG, secs_same h1, sigs_same h2]
    by_cases hv : v = tip y e
    · subst hv
      rw [if_pos rfl]
      rw [ht] at hm
      rw [partner_none.2 hm]
      have : link (tip y e) x = some none := by unfold link; rw [if_neg (by omega), if_pos ⟨h8, ht⟩]
      rw [this]; rfl
    · rw [if_neg hv]
      have : link v x = none := by unfold link; rw [if_neg (by omega), if_neg (fun h => hv (by rw [← h.2, ht]))]
      rw [this]
      simp
  constructor
  · rw [wS, eg, secs_same h1, map_upd hM.names _ _ hy he]
    apply List.ext_getElem?
    intro k
    rw [modify_at, modify_at]
    by_cases hik : i = k
    · subst hik
      rw [if_pos rfl, if_pos rfl, ← wS, wS_of hy]
      show some _ = some _
      congr 1
      unfold Sec.setTo
      rw [get_secG _ he]
      have hp : partner M (tip y e) = none := partner_none.2 (by rw [← ht]; exact hm)
      simp only [gW, enW, hp]
    · rw [if_neg hik, if_neg hik]; rfl
  · rw [wG, sigs_same h2]
    unfold wG
    congr 1
    funext z
    simp only [sigW, ptOf_same h1, nmS, secs_same h1]
/-- A join more. -/
theorem w_join {M : List Itm} {x : Itm} (hM : Ok M) (h7 : x.k = 7) (hm : x.e0 ∉ ments M) (hm1 : x.e1 ∉ ments M) (hne : x.e0 ≠ x.e1) {i j : Nat} {y z : Itm} (hy : (secs M)[i]? = some y) (hz : (secs M)[j]? = some z) {e f : Nat} (he : e < nEnds (isPt y)) (hf : f < nEnds (isPt z)) (ht : x.e0 = tip y e) (hu : x.e1 = tip z f) :
    wS (M ++ [x]) = ((wS M).modify i (fun s => s.put e ⟨j, f, (gW M (tip y e)).sig⟩)).modify j (fun s => s.put f ⟨i, e, (gW M (tip z f)).sig⟩) ∧ wG (M ++ [x]) = wG M := by
  obtain ⟨h0, h1, h2⟩ := end_facts (x := x) (.inl h7)
  have hys : y ∈ secs M := List.mem_of_getElem? hy
  have hzs : z ∈ secs M := List.mem_of_getElem? hz
  have eg : gW (M ++ [x]) = upd (upd (gW M) (tip y e) ⟨j, f, (gW M (tip y e)).sig⟩) (tip z f) ⟨i, e, (gW M (tip z f)).sig⟩ := by
    funext v
    unfold upd
    simp only [gW, enW, partner_snoc, ptOf_same h1, sigAt_same h2, nmS, nmG, secs_same h1, sigs_same h2]
    by_cases hv : v = tip z f
    · subst hv
      rw [if_pos rfl]
      rw [hu] at hm1
      rw [partner_none.2 hm1]
      have : link (tip z f) x = some (some (tip y e)) := by unfold link; rw [if_pos h7, if_neg (by rw [← hu]; exact hne), if_pos hu, ht]
      rw [this]
      have hpos : pos ((secs M).map (·.name)) (tip y e).n = i := pos_sec hM.names hy
      simp only [Option.none_or, hpos, tip_at hM hys he, Option.getD_some]
    · rw [if_neg hv]
      by_cases hv2 : v = tip y e
      · subst hv2
        rw [if_pos rfl]
        rw [ht] at hm
        rw [partner_none.2 hm]
        have : link (tip y e) x = some (some (tip z f)) := by unfold link; rw [if_pos h7, if_pos ht, hu]
        rw [this]
        have hpos : pos ((secs M).map (·.name)) (tip z f).n = j := pos_sec hM.names hz
        simp only [Option.none_or, hpos, tip_at hM hzs hf, Option.getD_some]
      · rw [if_neg hv2]
        have : link v x = none := by unfold link; rw [if_pos h7, if_neg (fun h => hv2 (by rw [← h, ht])), if_neg (fun h => hv (by rw [← h, hu]))]
        rw [this]
        simp
  constructor
  · rw [wS, eg, secs_same h1, map_upd hM.names _ _ hz hf, map_upd hM.names _ _ hy he]; rfl
  · rw [wG, sigs_same h2]
    unfold wG
    congr 1
    funext z
    simp only [sigW, ptOf_same h1, nmS, secs_same h1]
/-- A signal more. -/
theorem w_sig {M : List Itm} {x : Itm} (hM : Ok M) (hg : isG x = true) (hn : x.name ∉ nmG M) (hs : x.e0 ∉ (sigs M).map (·.e0)) {i : Nat} {y : Itm} (hy : (secs M)[i]? = some y) {e : Nat} (he : e < nEnds (isPt y)) (ht : x.e0 = tip y e) :
    wS (M ++ [x]) = (wS M).modify i (Sec.setSig e (wG M).length) ∧ wG (M ++ [x]) = wG M ++ [⟨x.name, i, e⟩] := by
  obtain ⟨_, h1, h7, h8, _⟩ := sig_facts hg
  have eG : sigs (M ++ [x]) = sigs M ++ [x] := by rw [sigs_snoc, if_pos hg]
  have hys : y ∈ secs M := List.mem_of_getElem? hy
  have enG : nmG (M ++ [x]) = nmG M ++ [x.name] := by rw [nmG, eG, List.map_append]; rfl
  have ep : partner (M ++ [x]) = partner M := by funext t; rw [partner_snoc, ment_none h7 h8]; simp
  have hlast : pos (nmG M ++ [x.name]) x.name = (wG M).length := by
    have : (nmG M ++ [x.name]).Nodup := nodup_snoc.2 ⟨hM.gnames, hn⟩
    rw [pos_at this (nmG M).length x.name (by simp), wG_len, nmG, List.length_map]
  have eg : gW (M ++ [x]) = upd (gW M) (tip y e) { gW M (tip y e) with sig := (wG M).length } := by
    funext v
    unfold upd
    have hsv : sigAt (M ++ [x]) v = (sigAt M v).or (if x.e0 = v then some x.name else none) := by
      unfold sigAt
      rw [eG, List.find?_append]
      by_cases hv : x.e0 = v
      · rw [if_pos hv]
        cases (sigs M).find? fun z => decide (z.e0 = v) <;> simp [hv]
      · rw [if_neg hv]
        cases (sigs M).find? fun z => decide (z.e0 = v) <;> simp [hv]
    by_cases hv : v = tip y e
    · subst hv
      rw [if_pos rfl]
      have hno : sigAt M (tip y e) = none := by
        have := sigAt_none.2 hs
        rw [ht] at this
        cases h : sigAt M (tip y e) with
        | none => rfl
        | some g => rw [h] at this; cases this
      simp only [gW, enW, ep, ptOf_same h1, nmS, secs_same h1, hsv, hno, if_pos ht, Option.none_or, enG, hlast]
    · rw [if_neg hv]
      rw [if_neg (fun h => hv (by rw [← h, ht])), Option.or_none] at hsv
      simp only [gW, enW, ep, ptOf_same h1, nmS, secs_same h1, hsv, enG]
      cases h : sigAt M v with
      | none => rfl
      | some g =>
        obtain ⟨z, hz, _, rfl⟩ := sigAt_some h
        simp only [pos_append (show z.name ∈ nmG M from List.mem_map.2 ⟨z, hz, rfl⟩)]
  constructor
  · rw [wS, eg, secs_same h1, map_upd hM.names _ _ hy he]
    apply List.ext_getElem?
    intro k
    rw [modify_at, modify_at]
    by_cases hik : i = k
    · subst hik
      rw [if_pos rfl, if_pos rfl, ← wS, wS_of hy]
      show some _ = some _
      congr 1
      unfold Sec.setSig
      rw [get_secG _ he]
    · rw [if_neg hik, if_neg hik]; rfl
  · have e1 : ∀ z, sigW (pos (nmS (M ++ [x]))) (M ++ [x]) z = sigW (pos (nmS M)) M z := fun z => by simp only [sigW, ptOf_same h1, nmS, secs_same h1]
    rw [wG, eG, List.map_append, show sigW (pos (nmS (M ++ [x]))) (M ++ [x]) = sigW (pos (nmS M)) M from funext e1]
    unfold wG
    congr 1
    show [sigW (pos (nmS M)) M x] = _
    unfold sigW
    rw [ht, tip_at hM hys he, show (tip y e).n = y.name from rfl, pos_sec hM.names hy]
    rfl
end Go.Proofs.YtaheiolbeiofpaaGreatDoor.Pl
/-
  The walks of the document's answers of layer 5: an end's letter, the place of a name, the end that is named.
-/
namespace Go.Proofs.YtaheiolbeiofpaaGreatDoor
open Go.RowKit

/-- An end's letter, whatever number. -/
def letterI (pt : Bool) (e : Int) : UInt8 := if 0 ≤ e ∧ e ≤ 2 then Pl.letter pt e.toNat else 0
set_option maxHeartbeats 4000000 in
set_option maxRecDepth 100000 in
theorem rpLetter_any (pt : Bool) (e : Int) (w : World) :
    Calls Tryz.prog 16 #[.bool pt, .int .i64 e] w fun x w' => x = .returned (.int .u8 (letterI pt e).toNat) ∧ Below w.heap.size w w' := by
  have hb0 := Lib.hid ((Below.refl w.heap.size w).alloc (Nat.le_refl _) (.cells #[.int .u8 97, .int .u8 98, .int .u8 0] 72))
  have hb1 := Lib.hid ((Below.refl w.heap.size w).alloc (Nat.le_refl _) (.cells #[.int .u8 116, .int .u8 110, .int .u8 114] 72))
  by_cases h0 : e < 0
  · have d0 : decide (e < 0) = true := dec_t h0
    have P := Lib.hid (show letterI pt e = 0 by unfold letterI; rw [if_neg (by omega)])
    clear h0
    cases pt
    all_goals
      go_enter Tryz.func16, Tryz.ntmps16
      go_wp2
      go_ret
      first | exact ⟨by rw [P.out]; rfl, hb0.out⟩ | exact ⟨by rw [P.out]; rfl, hb1.out⟩
  · have d0 : decide (e < 0) = false := dec_f h0
    by_cases h2 : 2 < e
    · have d2 : decide (2 < e) = true := dec_t h2
      have P := Lib.hid (show letterI pt e = 0 by unfold letterI; rw [if_neg (by omega)])
      clear h0 h2
      cases pt
      all_goals
        go_enter Tryz.func16, Tryz.ntmps16
        go_wp2
        go_ret
        first | exact ⟨by rw [P.out]; rfl, hb0.out⟩ | exact ⟨by rw [P.out]; rfl, hb1.out⟩
    · have he : e = 0 ∨ e = 1 ∨ e = 2 := by omega
      clear d0 h0 h2
      rcases he with rfl | rfl | rfl
      all_goals
        cases pt
        all_goals
          go_enter Tryz.func16, Tryz.ntmps16
          go_wp2
          go_ret
          first | exact ⟨rfl, hb0.out⟩ | exact ⟨rfl, hb1.out⟩
theorem find_next {L : List Pl.Sec} {nm : List UInt8} {k : Nat} (hk : k < L.length) (h0 : ∀ j < k, ∀ t, L[j]? = some t → t.name ≠ nm) (h : L[k].name ≠ nm) : ∀ j < k + 1, ∀ t, L[j]? = some t → t.name ≠ nm := fun j hj t ht => by
  rcases Nat.lt_or_ge j k with h1 | h1
  · exact h0 j h1 t ht
  · obtain rfl : j = k := by omega
    rw [List.getElem?_eq_getElem hk] at ht
    cases ht
    exact h
theorem txt_eqB {x y : List UInt8} (h : x = y) : ((txt x).toList == (txt y).toList) = true := by rw [h]; simp
theorem txt_neB {x y : List UInt8} (h : x ≠ y) : ((txt x).toList == (txt y).toList) = false := by rw [beq_eq_false_iff_ne, toList_txt, toList_txt]; exact h
set_option maxHeartbeats 4000000 in
set_option maxRecDepth 100000 in
theorem rpFind_any (A : Option Addr) (c : Nat) (L : List Pl.Sec) (nm : List UInt8) (w : World) (h : LSec.Row w A L) (hl : L.length ≤ 1000000) :
    Calls Tryz.prog 14 #[.slice A L.length c, .string (txt nm)] w fun e w' => e = .returned (.int .i64 (Pl.find L nm)) ∧ w = w' := by
  go_enter Tryz.func14, Tryz.ntmps14
  go_wp2
  go_loop [5] (fun i => ∃ k : Nat, k ≤ L.length ∧ i = .int .i64 k ∧ ∀ j < k, ∀ t, L[j]? = some t → t.name ≠ nm) (fun i => L.length - (intOf i).toNat)
  case atStart => exact ⟨0, Nat.zero_le _, rfl, fun j hj => absurd hj (by omega)⟩
  case round =>
    obtain ⟨k, hk, rfl, h0⟩ := hrel
    have H0 := Lib.hid h0
    clear h0
    by_cases hlt : k < L.length
    · obtain ⟨b, o, rfl, hb, on⟩ := h.at hlt
      have a0 := (sec_on on).1
      clear on
      rw [show k * LSec.m = k * 12 from rfl] at a0
      by_cases he : L[k].name = nm
      · have h1 := txt_eqB he
        have P := Lib.hid (Pl.find_at (List.getElem?_eq_getElem hlt) he H0.out)
        clear he
        go_wp2
        go_ret
        exact ⟨by rw [P.out]; rfl, rfl⟩
      · have h1 := txt_neB he
        have N := Lib.hid (find_next hlt H0.out he)
        clear he
        go_wp2
        go_round
        case rel => exact ⟨k + 1, by omega, by go_num, N.out⟩
        case measure => simp [intOf]; omega
    · have P := Lib.hid (Pl.find_none (l := L) (nm := nm) fun s hs => by
        obtain ⟨j, hj, rfl⟩ := List.getElem_of_mem hs
        exact H0.out j (by omega) _ (List.getElem?_eq_getElem hj))
      go_wp2
      go_ret
      exact ⟨by rw [P.out]; rfl, rfl⟩
end Go.Proofs.YtaheiolbeiofpaaGreatDoor
/-
  The walk of the document's answer of layer 5: the section and the end that are named.
-/
namespace Go.Proofs.YtaheiolbeiofpaaGreatDoor
open Go.RowKit

def ptAt (L : List Pl.Sec) (i : Int) : Bool := ((L[i.toNat]?).map Pl.Sec.pt).getD false
/-- The section and the end that are named; the error, if there is none. -/
def endI (L : List Pl.Sec) (t : It.Tp) : Int × Int × Int :=
  if Pl.find L t.n < 0 then (0, 0, 4) else match Pl.endAt (ptAt L (Pl.find L t.n)) t.c with
    | some e => (Pl.find L t.n, (e : Int), 0)
    | none => (0, 0, 5)
theorem endI_no {L : List Pl.Sec} {t : It.Tp} (h : Pl.find L t.n < 0) : endI L t = (0, 0, 4) := by unfold endI; rw [if_pos h]
theorem endI_at {L : List Pl.Sec} {t : It.Tp} {i : Nat} {s : Pl.Sec} (h : Pl.find L t.n = i) (hs : L[i]? = some s) : endI L t = match Pl.endAt s.pt t.c with | some e => ((i : Int), (e : Int), 0) | none => (0, 0, 5) := by
  unfold endI
  rw [if_neg (by omega), h, ptAt, Int.toNat_natCast, hs]; rfl
theorem endAt_hit {pt : Bool} {c : UInt8} (hc : c ≠ 0) {k : Nat} (hk : k < 3) (h0 : ∀ j < k, Pl.letter pt j ≠ c) (h : Pl.letter pt k = c) : Pl.endAt pt c = some k := by
  unfold Pl.endAt
  have hk' : k = 0 ∨ k = 1 ∨ k = 2 := by omega
  rcases hk' with rfl | rfl | rfl
  · rw [if_pos h]
  · rw [if_neg (h0 0 (by omega)), if_pos h]
  · rw [if_neg (h0 0 (by omega)), if_neg (h0 1 (by omega))]
    cases pt
    · exact absurd h.symm hc
    · rw [if_pos ⟨rfl, h⟩]
theorem endAt_miss {pt : Bool} {c : UInt8} (h0 : ∀ j < 3, Pl.letter pt j ≠ c) : Pl.endAt pt c = none := by
  unfold Pl.endAt
  rw [if_neg (h0 0 (by omega)), if_neg (h0 1 (by omega)), if_neg fun h => h0 2 (by omega) h.2]
theorem letterI_nat (pt : Bool) (k : Nat) (hk : k < 3) : letterI pt k = Pl.letter pt k := by
  unfold letterI
  rw [if_pos (by omega)]; rfl
theorem u8_eqB {a b : UInt8} (h : a = b) : ((a.toNat : Int) == (b.toNat : Int)) = true := by rw [h]; simp
theorem u8_neB {a b : UInt8} (h : a ≠ b) : ((a.toNat : Int) == (b.toNat : Int)) = false := by
  rw [beq_eq_false_iff_ne]
  exact fun e => h (UInt8.toNat_inj.mp (by omega))
theorem row2c {w : World} {g : Nat} {a b : Value} {t : TypeId} (h : w.heap[g]? = some (.cells #[a, b] t (0, 0))) : (w.cell? ⟨g, 0, none⟩ = some a ∧ w.cell? ⟨g, 1, none⟩ = some b) ∧ g < w.heap.size :=
  ⟨⟨cell_of_row w g 0 _ t _ h, cell_of_row w g 1 _ t _ h⟩, (Array.getElem?_eq_some_iff.1 h).1⟩
/-- What the named end's call leaves. -/
def EndGives (L : List Pl.Sec) (t : It.Tp) (w : World) (e : Ending) (w' : World) : Prop := e = .returned (.tuple #[.int .i64 (endI L t).1, .int .i64 (endI L t).2.1, .int .i64 (endI L t).2.2]) ∧ Below w.heap.size w w'
theorem EndGives.mk {L : List Pl.Sec} {t : It.Tp} {w w' : World} {e : Ending} (a b c : Int) (h : endI L t = (a, b, c)) (he : e = .returned (.tuple #[.int .i64 a, .int .i64 b, .int .i64 c])) (hb : Below w.heap.size w w') : EndGives L t w e w' := by
  refine ⟨?_, hb⟩
  rw [h]; exact he
set_option maxHeartbeats 8000000 in
set_option maxRecDepth 100000 in
theorem rpEnd_any (A : Option Addr) (c : Nat) (L : List Pl.Sec) (t : It.Tp) (w : World) (h : LSec.Row w A L) (hl : L.length ≤ 1000000) (hc : t.c ≠ 0) :
    Calls Tryz.prog 65 #[.slice A L.length c, .agg #[.string (txt t.n), .int .u8 t.c.toNat]] w (EndGives L t w) := by
  have hb0 := Lib.hid ((Below.refl w.heap.size w).alloc (Nat.le_refl _) (.cells #[.string (txt t.n), .int .u8 t.c.toNat] 41))
  have F := Lib.hid (rpFind_any A c L t.n (w.alloc (.cells #[.string (txt t.n), .int .u8 t.c.toNat] 41)) (h.below rfl hb0.out) hl)
  have R0 := Lib.hid (show (w.alloc (.cells #[.string (txt t.n), .int .u8 t.c.toNat] 41)).heap[w.heap.size]? = some (.cells #[.string (txt t.n), .int .u8 t.c.toNat] 41 (0, 0)) from heap_alloc_new _ _)
  rcases Pl.find_cases L t.n with ⟨hf, _⟩ | ⟨i, s, hf, hs, _⟩
  · have P := Lib.hid (endI_no (L := L) (t := t) (by rw [hf]; decide))
    rw [hf] at F
    clear hf h hl hc
    go_enter Tryz.func65, Tryz.ntmps65
    go_wp2_with fail
    refine F.out.mono ?_; rintro e w1 ⟨rfl, rfl⟩
    go_wp2_with fail
    refine bodyPost_ret ?_ rfl (EndGives.mk _ _ _ P.out rfl hb0.out)
    simp [results, Tryz.results65, go_sem]
  · have E := Lib.hid (endI_at hf hs)
    rw [hf] at F
    obtain ⟨hi, hs'⟩ := List.getElem?_eq_some_iff.1 hs
    subst hs'
    clear hf hs
    go_enter Tryz.func65, Tryz.ntmps65
    go_wp2_with fail
    refine F.out.mono ?_; rintro e w1 ⟨rfl, rfl⟩
    go_wp2_with fail
    go_loopw [8] (fun v wr => ∃ k : Nat, k ≤ 3 ∧ v = .int .i64 k ∧ (∀ j < k, Pl.letter L[i].pt j ≠ t.c) ∧ Below w.heap.size w wr ∧ wr.heap[w.heap.size]? = some (.cells #[.string (txt t.n), .int .u8 t.c.toNat] 41 (0, 0))) (fun v _ => 3 - (intOf v).toNat)
    case atStart => exact ⟨0, Nat.zero_le _, rfl, fun j hj => absurd hj (by omega), hb0.out, R0.out⟩
    case round =>
      obtain ⟨k, hk, rfl, h0, hbel, hrow⟩ := hrel
      have H0 := Lib.hid h0
      have RR := Lib.hid hrow
      clear h0
      by_cases hlt : k < 3
      · have d1 : decide ((k : Int) < 3) = true := dec_t (by omega)
        obtain ⟨b, o, rfl, hb, on⟩ := (h.below rfl hbel).at hi
        have a1 := (sec_on on).2.1
        clear on
        rw [show i * LSec.m = i * 12 from rfl] at a1
        obtain ⟨⟨c0, c1⟩, hg⟩ := row2c hrow
        clear hrow
        have LT := Lib.hid (fun W (h : Below wr.heap.size wr W) => Made.of h (rpLetter_any L[i].pt k W))
        rw [letterI_nat _ _ hlt] at LT
        go_wp2_with fail
        by_cases he : Pl.letter L[i].pt k = t.c
        · have h1 := u8_eqB he
          have P := Lib.hid (E.out.trans (by rw [endAt_hit hc hlt H0.out he]))
          clear he
          go_region_held3 (fun w' => w'.cell? ⟨b, o + i * 12 + 1, none⟩ = some (.bool L[i].pt) ∧ w'.cell? ⟨w.heap.size, 1, none⟩ = some (.int .u8 t.c.toNat))
            (first | exact ⟨a1, c1⟩ | exact ⟨(hcell _ _ hb).trans a1, (hcell _ _ hg).trans c1⟩)
            (first
              | (go_at_call 16; (with_reducible refine (LT.out _ (Below.refl _ _).drew).mono ?_); rintro e w' ⟨rfl, hbl, hacc, hz⟩; have hcell := (bcell hbl).1)
              | (go_at_call 16; (with_reducible refine (LT.out _ (below_drewN (Below.refl _ _) _)).mono ?_); rintro e w' ⟨rfl, hbl, hacc, hz⟩; have hcell := (bcell hbl).1))
          all_goals go_wp2_with fail
          all_goals refine bodyPost_ret ?_ rfl (EndGives.mk _ _ _ P.out rfl (hbel.trans (hacc.mono hbel.size)))
          all_goals simp [results, Tryz.results65, go_sem]
        · have h1 := u8_neB he
          have N := Lib.hid (show ∀ j < k + 1, Pl.letter L[i].pt j ≠ t.c from fun j hj => by
            rcases Nat.lt_or_ge j k with h | h
            · exact H0.out j h
            · obtain rfl : j = k := by omega
              exact he)
          clear he
          go_region_held3 (fun w' => w'.cell? ⟨b, o + i * 12 + 1, none⟩ = some (.bool L[i].pt) ∧ w'.cell? ⟨w.heap.size, 1, none⟩ = some (.int .u8 t.c.toNat))
            (first | exact ⟨a1, c1⟩ | exact ⟨(hcell _ _ hb).trans a1, (hcell _ _ hg).trans c1⟩)
            (first
              | (go_at_call 16; (with_reducible refine (LT.out _ (Below.refl _ _).drew).mono ?_); rintro e w' ⟨rfl, hbl, hacc, hz⟩; have hcell := (bcell hbl).1)
              | (go_at_call 16; (with_reducible refine (LT.out _ (below_drewN (Below.refl _ _) _)).mono ?_); rintro e w' ⟨rfl, hbl, hacc, hz⟩; have hcell := (bcell hbl).1))
          all_goals go_wp2_with fail
          all_goals go_roundw
          case rel => exact ⟨k + 1, by omega, by go_num, N.out, hbel.trans (hacc.mono hbel.size), (hacc.block _ hg).trans RR.out⟩
          case measure => simp [intOf]; omega
      · have d1 : decide ((k : Int) < 3) = false := dec_f (by omega)
        have P := Lib.hid (E.out.trans (by rw [endAt_miss fun j hj => H0.out j (by omega)]))
        go_wp2_with fail
        refine bodyPost_ret ?_ rfl (EndGives.mk _ _ _ P.out rfl hbel)
        simp [results, Tryz.results65, go_sem]
end Go.Proofs.YtaheiolbeiofpaaGreatDoor
/-
  The document's work in memory of layer 5, and the walk of its free: an end that is neither joined nor stopped yet.
-/
namespace Go.Proofs.YtaheiolbeiofpaaGreatDoor
open Go.RowKit

def toldB (M : List It.Itm) (k : Int) : Bool := M.any fun y => decide (y.k = k)
/-- The work's cells. -/
def workCells (M : List It.Itm) (vS vG : Value) : Array Value :=
  #[.int .i64 (Pl.num M 1), .int .i64 (Pl.num M 2), .int .i64 (Pl.num M 3), .int .i64 (Pl.num M 4), vS, vG, .bool false, .bool (toldB M 1), .bool (toldB M 2), .bool (toldB M 3), .bool (toldB M 4)]
/-- Block g is the work, with the numbers of M, and these sections and signals. -/
def WorkL (tw tS tG : TypeId) (w : World) (g : Nat) (M : List It.Itm) (LS : List Pl.Sec) (LG : List Pl.Sig) : Prop :=
  ∃ vS vG, w.heap[g]? = some (.cells (workCells M vS vG) tw (0, 0)) ∧ w.ownsRow (g + 1) tS LSec.m vS LS.length (LSec.all LS) ∧ w.ownsRow (g + 1) tG LSig.m vG LG.length (LSig.all LG) ∧ ∀ k, vS.ownBlock = some k → vG.ownBlock ≠ some k
/-- Block g is the work behind the lines M: its numbers, its sections and signals as they were told. -/
def WorkAt (tw tS tG : TypeId) (w : World) (g : Nat) (M : List It.Itm) : Prop := WorkL tw tS tG w g M (Pl.wS M) (Pl.wG M)
theorem WorkL.below {tw tS tG : TypeId} {w w' : World} {g : Nat} {M : List It.Itm} {LS : List Pl.Sec} {LG : List Pl.Sig} (h : WorkL tw tS tG w g M LS LG) (hb : Below w.heap.size w w') : WorkL tw tS tG w' g M LS LG := by
  obtain ⟨vS, vG, h1, h2, h3, h4⟩ := h
  exact ⟨vS, vG, (hb.block _ (Array.getElem?_eq_some_iff.1 h1).1).trans h1, ownsRow_below h2 hb, ownsRow_below h3 hb, h4⟩
theorem work_row {w : World} {g : Nat} {t : TypeId} {M : List It.Itm} {vS vG : Value} (h : w.heap[g]? = some (.cells (workCells M vS vG) t (0, 0))) :
    (w.cell? ⟨g, 0, none⟩ = some (.int .i64 (Pl.num M 1)) ∧ w.cell? ⟨g, 1, none⟩ = some (.int .i64 (Pl.num M 2)) ∧ w.cell? ⟨g, 2, none⟩ = some (.int .i64 (Pl.num M 3)) ∧ w.cell? ⟨g, 3, none⟩ = some (.int .i64 (Pl.num M 4)) ∧ w.cell? ⟨g, 4, none⟩ = some vS ∧ w.cell? ⟨g, 5, none⟩ = some vG) ∧
    (w.cell? ⟨g, 6, none⟩ = some (.bool false) ∧ w.cell? ⟨g, 7, none⟩ = some (.bool (toldB M 1)) ∧ w.cell? ⟨g, 8, none⟩ = some (.bool (toldB M 2)) ∧ w.cell? ⟨g, 9, none⟩ = some (.bool (toldB M 3)) ∧ w.cell? ⟨g, 10, none⟩ = some (.bool (toldB M 4))) ∧ (∀ j, w.frozen? ⟨g, j, none⟩ = false) ∧ g < w.heap.size :=
  ⟨⟨cell_of_row w g 0 _ t _ h, cell_of_row w g 1 _ t _ h, cell_of_row w g 2 _ t _ h, cell_of_row w g 3 _ t _ h, cell_of_row w g 4 _ t _ h, cell_of_row w g 5 _ t _ h⟩,
    ⟨cell_of_row w g 6 _ t _ h, cell_of_row w g 7 _ t _ h, cell_of_row w g 8 _ t _ h, cell_of_row w g 9 _ t _ h, cell_of_row w g 10 _ t _ h⟩, fun j => frozen_of_row w g j _ t h, (Array.getElem?_eq_some_iff.1 h).1⟩
theorem on_to {w : World} {b o : Nat} {s : Pl.Sec} (h : LSec.On w b o s) {e : Nat} (he : e < 3) : w.cell? ⟨b, o + 3 + e * 3, none⟩ = some (.int .i64 (s.get e).goes) := by
  have : e = 0 ∨ e = 1 ∨ e = 2 := by omega
  rcases this with rfl | rfl | rfl
  · exact h 3 _ rfl
  · exact h 6 _ rfl
  · exact h 9 _ rfl
theorem on_at {w : World} {b o : Nat} {s : Pl.Sec} (h : LSec.On w b o s) {e : Nat} (he : e < 3) : w.cell? ⟨b, o + 3 + e * 3 + 1, none⟩ = some (.int .i64 (s.get e).at_) := by
  have : e = 0 ∨ e = 1 ∨ e = 2 := by omega
  rcases this with rfl | rfl | rfl
  · exact h 4 _ rfl
  · exact h 7 _ rfl
  · exact h 10 _ rfl
theorem on_sig {w : World} {b o : Nat} {s : Pl.Sec} (h : LSec.On w b o s) {e : Nat} (he : e < 3) : w.cell? ⟨b, o + 3 + e * 3 + 2, none⟩ = some (.int .i64 (s.get e).sig) := by
  have : e = 0 ∨ e = 1 ∨ e = 2 := by omega
  rcases this with rfl | rfl | rfl
  · exact h 5 _ rfl
  · exact h 8 _ rfl
  · exact h 11 _ rfl
/-- What is named, if it is free. -/
inductive FreeIs (L : List Pl.Sec) (t : It.Tp) : Int × Int × Int → Prop
  | none (h : Pl.find L t.n = -1) : FreeIs L t (0, 0, 4)
  | noEnd (i : Nat) (s : Pl.Sec) (h : Pl.find L t.n = i) (hs : L[i]? = some s) (he : Pl.endAt s.pt t.c = Option.none) : FreeIs L t (0, 0, 5)
  | used (i e : Nat) (s : Pl.Sec) (h : Pl.find L t.n = i) (hs : L[i]? = some s) (he : Pl.endAt s.pt t.c = some e) (ht : (s.get e).goes ≠ -2) : FreeIs L t (0, 0, 6)
  | free (i e : Nat) (s : Pl.Sec) (h : Pl.find L t.n = i) (hs : L[i]? = some s) (he : Pl.endAt s.pt t.c = some e) (ht : (s.get e).goes = -2) : FreeIs L t (i, e, 0)
def FreeGives (L : List Pl.Sec) (t : It.Tp) (w : World) (x : Ending) (w' : World) : Prop := ∃ a b c, x = .returned (.tuple #[.int .i64 a, .int .i64 b, .int .i64 c]) ∧ FreeIs L t (a, b, c) ∧ Below w.heap.size w w'
theorem FreeGives.mk {L : List Pl.Sec} {t : It.Tp} {w w' : World} {x : Ending} (a b c : Int) (h : FreeIs L t (a, b, c)) (he : x = .returned (.tuple #[.int .i64 a, .int .i64 b, .int .i64 c])) (hb : Below w.heap.size w w') : FreeGives L t w x w' := ⟨a, b, c, he, h, hb⟩
theorem endAt_lt {pt : Bool} {c : UInt8} {e : Nat} (h : Pl.endAt pt c = some e) : e < 3 := by
  have := (Pl.letter_endAt h).2
  unfold Pl.nEnds at this
  split at this <;> omega
set_option maxHeartbeats 8000000 in
set_option maxRecDepth 100000 in
theorem rpFree_any (g : Nat) (M : List It.Itm) (L : List Pl.Sec) (LG : List Pl.Sig) (t : It.Tp) (w : World) (h : WorkL 68 51 53 w g M L LG) (hl : L.length ≤ 1000000) (hc : t.c ≠ 0) :
    Calls Tryz.prog 89 #[.pointer (some ⟨g, 0, none⟩), .agg #[.string (txt t.n), .int .u8 t.c.toNat]] w (FreeGives L t w) := by
  obtain ⟨vS, vG, hrow, hS, hG, hap⟩ := h
  obtain ⟨-, A, cp, rfl, hcap, hR⟩ := Lies.Row.of_own hS
  obtain ⟨⟨-, -, -, -, s4, -⟩, -, hfz, hg⟩ := work_row hrow
  clear hS hG hap hcap
  have X0 := Lib.hid ((Below.refl w.heap.size w).alloc (Nat.le_refl _) (.cells #[.string (txt t.n), .int .u8 t.c.toNat] 41))
  have EN := Lib.hid (fun W (h : Below w.heap.size w W) => Made.of h (rpEnd_any A cp L t W (hR.below rfl h) hl hc))
  obtain ⟨⟨k0, k1⟩, g2⟩ := row2c (show (w.alloc (.cells #[.string (txt t.n), .int .u8 t.c.toNat] 41)).heap[w.heap.size]? = some (.cells #[.string (txt t.n), .int .u8 t.c.toNat] 41 (0, 0)) from heap_alloc_new _ _)
  have K4 : (w.alloc (.cells #[.string (txt t.n), .int .u8 t.c.toNat] 41)).cell? ⟨g, 4, none⟩ = some (.slice A L.length cp) := by
    rw [X0.out.cell (show (⟨g, 4, none⟩ : Addr).block < w.heap.size from hg)]; exact s4
  have g1 : g < (w.alloc (.cells #[.string (txt t.n), .int .u8 t.c.toNat] 41)).heap.size := Nat.lt_trans hg g2
  rcases Pl.find_cases L t.n with ⟨hf, _⟩ | ⟨i, s, hf, hs, _⟩
  · have P := Lib.hid (FreeIs.none hf)
    rw [endI_no (show Pl.find L t.n < 0 by rw [hf]; decide)] at EN
    clear hf hR hl hc
    go_enter Tryz.func89, Tryz.ntmps89
    go_wp2_with fail
    go_region_held3 (fun w' => w'.cell? ⟨g, 4, none⟩ = some (.slice A L.length cp) ∧ w'.cell? ⟨w.heap.size, 0, none⟩ = some (.string (txt t.n)) ∧ w'.cell? ⟨w.heap.size, 1, none⟩ = some (.int .u8 t.c.toNat))
      (first | exact ⟨K4, k0, k1⟩ | exact ⟨(hcell _ _ g1).trans K4, (hcell _ _ g2).trans k0, (hcell _ _ g2).trans k1⟩)
      (first
        | (go_at_call 65; (with_reducible refine (EN.out _ X0.out.drew).mono ?_); rintro e w' ⟨rfl, hbl, hacc, hz⟩; have hcell := (bcell hbl).1))
    all_goals go_wp2_with fail
    all_goals refine bodyPost_ret ?_ rfl (FreeGives.mk _ _ _ P.out rfl hacc)
    all_goals simp [results, Tryz.results89, go_sem]
  · rw [endI_at hf hs] at EN
    cases he : Pl.endAt s.pt t.c with
    | none =>
      have P := Lib.hid (FreeIs.noEnd i s hf hs he)
      rw [he] at EN
      clear hf hs he hR hl hc
      go_enter Tryz.func89, Tryz.ntmps89
      go_wp2_with fail
      go_region_held3 (fun w' => w'.cell? ⟨g, 4, none⟩ = some (.slice A L.length cp) ∧ w'.cell? ⟨w.heap.size, 0, none⟩ = some (.string (txt t.n)) ∧ w'.cell? ⟨w.heap.size, 1, none⟩ = some (.int .u8 t.c.toNat))
        (first | exact ⟨K4, k0, k1⟩ | exact ⟨(hcell _ _ g1).trans K4, (hcell _ _ g2).trans k0, (hcell _ _ g2).trans k1⟩)
        (first
          | (go_at_call 65; (with_reducible refine (EN.out _ X0.out.drew).mono ?_); rintro e w' ⟨rfl, hbl, hacc, hz⟩; have hcell := (bcell hbl).1))
      all_goals go_wp2_with fail
      all_goals refine bodyPost_ret ?_ rfl (FreeGives.mk _ _ _ P.out rfl hacc)
      all_goals simp [results, Tryz.results89, go_sem]
    | some e =>
      have h3 := endAt_lt he
      rw [he] at EN
      obtain ⟨hi, hsi⟩ := List.getElem?_eq_some_iff.1 hs
      obtain ⟨b, o, hA, hb, on⟩ := hR.at hi
      rw [hsi] at on
      have t0 := on_to on h3
      rw [show i * LSec.m = i * 12 from rfl] at t0
      subst hA
      clear on hsi
      by_cases ht : (s.get e).goes = -2
      · have P := Lib.hid (FreeIs.free i e s hf hs he ht)
        rw [ht] at t0
        clear hf hs he hR hl hc ht
        go_enter Tryz.func89, Tryz.ntmps89
        go_wp2_with fail
        go_region_held3 (fun w' => w'.cell? ⟨g, 4, none⟩ = some (.slice (some ⟨b, o, none⟩) L.length cp) ∧ w'.cell? ⟨w.heap.size, 0, none⟩ = some (.string (txt t.n)) ∧ w'.cell? ⟨w.heap.size, 1, none⟩ = some (.int .u8 t.c.toNat))
          (first | exact ⟨K4, k0, k1⟩ | exact ⟨(hcell _ _ g1).trans K4, (hcell _ _ g2).trans k0, (hcell _ _ g2).trans k1⟩)
          (first
            | (go_at_call 65; (with_reducible refine (EN.out _ X0.out.drew).mono ?_); rintro e w' ⟨rfl, hbl, hacc, hz⟩; have hcell := (bcell hbl).1))
        all_goals have T0 := (hacc.cell (show (⟨b, o + i * 12 + 3 + e * 3, none⟩ : Addr).block < w.heap.size from hb)).trans t0
        all_goals have S4 := (hacc.cell (show (⟨g, 4, none⟩ : Addr).block < w.heap.size from hg)).trans s4
        all_goals go_wp2_with fail
        all_goals refine bodyPost_ret ?_ rfl (FreeGives.mk _ _ _ P.out rfl hacc)
        all_goals simp [results, Tryz.results89, go_sem]
      · have P := Lib.hid (FreeIs.used i e s hf hs he ht)
        have h2 : ((s.get e).goes != -2) = true := by rw [bne_iff_ne]; exact ht
        clear hf hs he hR hl hc ht
        go_enter Tryz.func89, Tryz.ntmps89
        go_wp2_with fail
        go_region_held3 (fun w' => w'.cell? ⟨g, 4, none⟩ = some (.slice (some ⟨b, o, none⟩) L.length cp) ∧ w'.cell? ⟨w.heap.size, 0, none⟩ = some (.string (txt t.n)) ∧ w'.cell? ⟨w.heap.size, 1, none⟩ = some (.int .u8 t.c.toNat))
          (first | exact ⟨K4, k0, k1⟩ | exact ⟨(hcell _ _ g1).trans K4, (hcell _ _ g2).trans k0, (hcell _ _ g2).trans k1⟩)
          (first
            | (go_at_call 65; (with_reducible refine (EN.out _ X0.out.drew).mono ?_); rintro e w' ⟨rfl, hbl, hacc, hz⟩; have hcell := (bcell hbl).1))
        all_goals have T0 := (hacc.cell (show (⟨b, o + i * 12 + 3 + e * 3, none⟩ : Addr).block < w.heap.size from hb)).trans t0
        all_goals have S4 := (hacc.cell (show (⟨g, 4, none⟩ : Addr).block < w.heap.size from hg)).trans s4
        all_goals go_wp2_with fail
        all_goals refine bodyPost_ret ?_ rfl (FreeGives.mk _ _ _ P.out rfl hacc)
        all_goals simp [results, Tryz.results89, go_sem]
end Go.Proofs.YtaheiolbeiofpaaGreatDoor
/-
  The walk of the document's answer of layer 5: a number more.
-/
namespace Go.Proofs.YtaheiolbeiofpaaGreatDoor
open Go.RowKit

theorem toldB_snoc (M : List It.Itm) (x : It.Itm) (k : Int) : toldB (M ++ [x]) k = (toldB M k || decide (x.k = k)) := by simp [toldB, List.any_append]
theorem toldB_ne {M : List It.Itm} {k : Int} (h : toldB M k = false) : ∀ y ∈ M, y.k ≠ k := fun y hy e => by
  have : toldB M k = true := by
    unfold toldB
    rw [List.any_eq_true]
    exact ⟨y, hy, by simpa using e⟩
  rw [h] at this; cases this
/-- What a line's call leaves. -/
def LineGives (tw tS tG : TypeId) (g : Nat) (M : List It.Itm) (x : It.Itm) (er : Int) (w : World) (e : Ending) (w' : World) : Prop :=
  e = .returned (.int .i64 er) ∧ (er = 0 → WorkAt tw tS tG w' g (M ++ [x])) ∧ Below g w w'
theorem WorkAt.row {tw tS tG : TypeId} {w w' : World} {g : Nat} {M K : List It.Itm} {vS vG : Value} (hS : w.ownsRow (g + 1) tS LSec.m vS (Pl.wS M).length (LSec.all (Pl.wS M))) (hG : w.ownsRow (g + 1) tG LSig.m vG (Pl.wG M).length (LSig.all (Pl.wG M))) (hap : ∀ k, vS.ownBlock = some k → vG.ownBlock ≠ some k)
    (hrow : w'.heap[g]? = some (.cells (workCells K vS vG) tw (0, 0))) (hk : ∀ b, b ≠ g → b < w.heap.size → w'.heap[b]? = w.heap[b]?) (e1 : Pl.wS K = Pl.wS M) (e2 : Pl.wG K = Pl.wG M) : WorkAt tw tS tG w' g K := by
  refine ⟨vS, vG, hrow, ?_, ?_, hap⟩
  · rw [e1]
    refine ⟨hS.1, ?_⟩
    rcases hS.2 with hn | ⟨b, cap, cur, rfl, hbb, hgg, rest⟩
    · exact .inl hn
    · exact .inr ⟨b, cap, cur, rfl, hbb, by rw [hk b (by omega) (Array.getElem?_eq_some_iff.1 hgg).1]; exact hgg, rest⟩
  · rw [e2]
    refine ⟨hG.1, ?_⟩
    rcases hG.2 with hn | ⟨b, cap, cur, rfl, hbb, hgg, rest⟩
    · exact .inl hn
    · exact .inr ⟨b, cap, cur, rfl, hbb, by rw [hk b (by omega) (Array.getElem?_eq_some_iff.1 hgg).1]; exact hgg, rest⟩
theorem number_world {w : World} {g : Nat} {cs : Array Value} {tw : TypeId} (hrow : w.heap[g]? = some (.cells cs tw (0, 0))) (a b : Nat) (u v : Value) (o : Obj) :
    ((((w.setCell ⟨g, a, none⟩ u).setCell ⟨g, b, none⟩ v).alloc o).drew.drew).heap[g]? = some (.cells ((cs.setIfInBounds a u).setIfInBounds b v) tw (0, 0)) ∧
    (∀ c, c ≠ g → c < w.heap.size → ((((w.setCell ⟨g, a, none⟩ u).setCell ⟨g, b, none⟩ v).alloc o).drew.drew).heap[c]? = w.heap[c]?) ∧ Below g w ((((w.setCell ⟨g, a, none⟩ u).setCell ⟨g, b, none⟩ v).alloc o).drew.drew) := by
  have hg := (Array.getElem?_eq_some_iff.1 hrow).1
  refine ⟨?_, fun c hc hlt => ?_, ?_⟩
  · show (((w.setCell ⟨g, a, none⟩ u).setCell ⟨g, b, none⟩ v).alloc o).heap[g]? = _
    rw [heap_alloc_old _ _ (by simpa using hg)]
    exact heap_setCell_same _ _ _ _ _ _ (heap_setCell_same _ _ _ _ _ _ hrow)
  · show (((w.setCell ⟨g, a, none⟩ u).setCell ⟨g, b, none⟩ v).alloc o).heap[c]? = _
    rw [heap_alloc_old _ _ (by simpa using hlt), heap_setCell_other _ ⟨g, b, none⟩ c v (by simpa using fun e => hc e), heap_setCell_other _ ⟨g, a, none⟩ c u (by simpa using fun e => hc e)]
  · refine Below.drew (Below.drew (Below.alloc ?_ (by simp; omega) _))
    exact ((Below.refl g w).setCell (Nat.le_refl _) _).setCell (Nat.le_refl _) _
theorem cells_num1 {M : List It.Itm} {x : It.Itm} (h : toldB M 1 = false) (hk : x.k = 1) (vS vG : Value) : ((workCells M vS vG).setIfInBounds 7 (.bool true)).setIfInBounds 0 (.int .i64 x.n) = workCells (M ++ [x]) vS vG := by
  have h0 := toldB_ne h
  simp [workCells, toldB_snoc, hk, Pl.num_snoc (M := M) (x := x) _ (by rw [hk]; exact h0)]
theorem cells_num2 {M : List It.Itm} {x : It.Itm} (h : toldB M 2 = false) (hk : x.k = 2) (vS vG : Value) : ((workCells M vS vG).setIfInBounds 8 (.bool true)).setIfInBounds 1 (.int .i64 x.n) = workCells (M ++ [x]) vS vG := by
  have h0 := toldB_ne h
  simp [workCells, toldB_snoc, hk, Pl.num_snoc (M := M) (x := x) _ (by rw [hk]; exact h0)]
theorem cells_num3 {M : List It.Itm} {x : It.Itm} (h : toldB M 3 = false) (hk : x.k = 3) (vS vG : Value) : ((workCells M vS vG).setIfInBounds 9 (.bool true)).setIfInBounds 2 (.int .i64 x.n) = workCells (M ++ [x]) vS vG := by
  have h0 := toldB_ne h
  simp [workCells, toldB_snoc, hk, Pl.num_snoc (M := M) (x := x) _ (by rw [hk]; exact h0)]
theorem cells_num4 {M : List It.Itm} {x : It.Itm} (h : toldB M 4 = false) (hk : x.k = 4) (vS vG : Value) : ((workCells M vS vG).setIfInBounds 10 (.bool true)).setIfInBounds 3 (.int .i64 x.n) = workCells (M ++ [x]) vS vG := by
  have h0 := toldB_ne h
  simp [workCells, toldB_snoc, hk, Pl.num_snoc (M := M) (x := x) _ (by rw [hk]; exact h0)]
set_option maxHeartbeats 8000000 in
set_option maxRecDepth 100000 in
theorem rpNumber_any (g : Nat) (M : List It.Itm) (x : It.Itm) (w : World) (h : WorkAt 68 51 53 w g M) (hk : It.isNum x.k = true) :
    Calls Tryz.prog 64 #[.pointer (some ⟨g, 0, none⟩), itemV x] w (LineGives 68 51 53 g M x (if toldB M x.k then 3 else 0) w) := by
  obtain ⟨e1, e2⟩ := Pl.w_num (M := M) hk
  obtain ⟨vS, vG, hrow, hS, hG, hap⟩ := h
  obtain ⟨⟨s0, s1, s2, s3, s4, s5⟩, ⟨s6, s7, s8, s9, s10⟩, hfz, hg⟩ := work_row hrow
  have hx : x.k = 1 ∨ x.k = 2 ∨ x.k = 3 ∨ x.k = 4 := by
    unfold It.isNum at hk
    have := of_decide_eq_true hk
    omega
  have N0 := World.new_ne _ _ s0
  have N7 := World.new_ne _ _ s7
  clear s4 s5 s6
  have HB := Lib.hid ((Below.refl g w).alloc (Nat.le_of_lt hg) (.cells (cells7 x).toArray 44))
  have CN1 := Lib.hid (fun h hk => cells_num1 (M := M) (x := x) h hk vS vG)
  have CN2 := Lib.hid (fun h hk => cells_num2 (M := M) (x := x) h hk vS vG)
  have CN3 := Lib.hid (fun h hk => cells_num3 (M := M) (x := x) h hk vS vG)
  have CN4 := Lib.hid (fun h hk => cells_num4 (M := M) (x := x) h hk vS vG)
  have E1 := Lib.hid e1
  have E2 := Lib.hid e2
  have HR := Lib.hid hrow
  have HS := Lib.hid hS
  have HG := Lib.hid hG
  have HA := Lib.hid hap
  clear e1 e2 hrow hS hG hap hk
  obtain ⟨k, nm, n, t0, t1⟩ := x
  have hxk : k = 1 ∨ k = 2 ∨ k = 3 ∨ k = 4 := hx
  clear hx
  rcases hxk with rfl | rfl | rfl | rfl
  · have fa := hfz 7
    have fb := hfz 0
    clear hfz
    cases ht : toldB M 1
    · rw [ht] at s7
      have HT := Lib.hid ht
      clear ht
      go_enter Tryz.func64, Tryz.ntmps64
      go_wp2_with fail
      go_region
      go_wp2_with fail
      go_region
      go_wp2_with fail
      go_ret
      obtain ⟨r1, r2, r3⟩ := number_world HR.out 7 0 (.bool true) (.int .i64 n) (.cells (cells7 ⟨1, nm, n, t0, t1⟩).toArray 44)
      rw [CN1.out HT.out (by first | rfl | trivial)] at r1
      exact ⟨rfl, fun _ => WorkAt.row HS.out HG.out HA.out r1 r2 E1.out E2.out, r3⟩
    · rw [ht] at s7
      have HT := Lib.hid ht
      clear ht
      go_enter Tryz.func64, Tryz.ntmps64
      go_wp2_with fail
      go_region
      go_wp2_with fail
      go_ret
      exact ⟨rfl, fun h => by simp at h, HB.out.drew⟩
  · have fa := hfz 8
    have fb := hfz 1
    clear hfz
    cases ht : toldB M 2
    · rw [ht] at s8
      have HT := Lib.hid ht
      clear ht
      go_enter Tryz.func64, Tryz.ntmps64
      go_wp2_with fail
      go_region
      go_wp2_with fail
      go_region
      go_wp2_with fail
      go_ret
      obtain ⟨r1, r2, r3⟩ := number_world HR.out 8 1 (.bool true) (.int .i64 n) (.cells (cells7 ⟨2, nm, n, t0, t1⟩).toArray 44)
      rw [CN2.out HT.out (by first | rfl | trivial)] at r1
      exact ⟨rfl, fun _ => WorkAt.row HS.out HG.out HA.out r1 r2 E1.out E2.out, r3⟩
    · rw [ht] at s8
      have HT := Lib.hid ht
      clear ht
      go_enter Tryz.func64, Tryz.ntmps64
      go_wp2_with fail
      go_region
      go_wp2_with fail
      go_ret
      exact ⟨rfl, fun h => by simp at h, HB.out.drew⟩
  · have fa := hfz 9
    have fb := hfz 2
    clear hfz
    cases ht : toldB M 3
    · rw [ht] at s9
      have HT := Lib.hid ht
      clear ht
      go_enter Tryz.func64, Tryz.ntmps64
      go_wp2_with fail
      go_region
      go_wp2_with fail
      go_region
      go_wp2_with fail
      go_ret
      obtain ⟨r1, r2, r3⟩ := number_world HR.out 9 2 (.bool true) (.int .i64 n) (.cells (cells7 ⟨3, nm, n, t0, t1⟩).toArray 44)
      rw [CN3.out HT.out (by first | rfl | trivial)] at r1
      exact ⟨rfl, fun _ => WorkAt.row HS.out HG.out HA.out r1 r2 E1.out E2.out, r3⟩
    · rw [ht] at s9
      have HT := Lib.hid ht
      clear ht
      go_enter Tryz.func64, Tryz.ntmps64
      go_wp2_with fail
      go_region
      go_wp2_with fail
      go_ret
      exact ⟨rfl, fun h => by simp at h, HB.out.drew⟩
  · have fa := hfz 10
    have fb := hfz 3
    clear hfz
    cases ht : toldB M 4
    · rw [ht] at s10
      have HT := Lib.hid ht
      clear ht
      go_enter Tryz.func64, Tryz.ntmps64
      go_wp2_with fail
      go_region
      go_wp2_with fail
      go_region
      go_wp2_with fail
      go_ret
      obtain ⟨r1, r2, r3⟩ := number_world HR.out 10 3 (.bool true) (.int .i64 n) (.cells (cells7 ⟨4, nm, n, t0, t1⟩).toArray 44)
      rw [CN4.out HT.out (by first | rfl | trivial)] at r1
      exact ⟨rfl, fun _ => WorkAt.row HS.out HG.out HA.out r1 r2 E1.out E2.out, r3⟩
    · rw [ht] at s10
      have HT := Lib.hid ht
      clear ht
      go_enter Tryz.func64, Tryz.ntmps64
      go_wp2_with fail
      go_region
      go_wp2_with fail
      go_ret
      exact ⟨rfl, fun h => by simp at h, HB.out.drew⟩
end Go.Proofs.YtaheiolbeiofpaaGreatDoor
