/-
  Texts of this claim, merged: PlanFindsWalk, StrKit, PlanJoinsWalk, ShOpen.
-/
import Derived.Test.YtaheiolbeiofpaaGreatDoorMg01
import Derived.Test.YtaheiolbeiofpaaGreatDoorMg02
import Derived.Test.YtaheiolbeiofpaaGreatDoorMg09
import Derived.Test.YtaheiolbeiofpaaGreatDoorMg22
import Derived.Deep.CutRange
import Derived.Deep.Slices
import Derived.Deep.Strs
/-
  The walk of the law PlanFinds: it returns true.
-/
namespace Go.Proofs.YtaheiolbeiofpaaGreatDoor
open Go.RowKit

/-- What Parse leaves of any text. -/
def SheetAny (L : List It.Itm) (w : World) (e : Ending) (w' : World) : Prop :=
  ∃ A c x y, e = .returned (.tuple #[.slice A L.length c, .agg #[.int .i64 x, .int .i64 y]]) ∧ Its w' A L ∧ Below w.heap.size w w'
theorem sheet_any (s : ByteArray) (w : World) (hs : s.size ≤ 1000000) : Calls Tryz.prog 22 #[.string s] w (SheetAny (Sh.parse s.data.toList).1 w) := by
  rcases sheet_ways s.data.toList with h | ⟨k, h⟩
  · refine (sheet_yes h hs w).mono ?_
    rintro e w' ⟨A, c, -, he, hI, hb⟩
    exact ⟨A, c, 0, 0, he, hI, hb⟩
  · refine (sheet_nay h hs w).mono ?_
    rintro e w' ⟨A, c, he, hb⟩
    rw [h]
    exact ⟨A, c, 2, k + 1, he, .inl rfl, hb⟩
/-- What built leaves of a text that isn't a station. -/
def PlanNo (x : Int) (n : Nat) (w : World) (e : Ending) (w' : World) : Prop :=
  ∃ A c A' c', e = .returned (.tuple #[.agg #[.int .i64 0, .int .i64 0, .int .i64 0, .int .i64 0, .slice A 0 c, .slice A' 0 c'], .agg #[.int .i64 x, .int .i64 n]]) ∧ Below w.heap.size w w'
theorem built_no {s : ByteArray} {x : Int} {n : Nat} (h : Pl.builtP s.data.toList = (Pl.Plan.zero, x, n)) (hs : s.size ≤ 10000) (w : World) (hE : Env w) : Calls Tryz.prog 17 #[.string s] w (PlanNo x n w) := by
  refine (built_any s w hE hs).mono ?_
  rw [h]
  rintro e w' ⟨A, c, A', c', -, -, he, -, -, hb⟩
  exact ⟨A, c, A', c', he, hb⟩
/-- A text is a station, or isn't. -/
theorem built_ways (l : List UInt8) : (∃ x n, Pl.builtP l = (Pl.Plan.zero, x, n + 1) ∧ x ≠ 0) ∨ (∃ L, Sh.parse l = (L, 0) ∧ Pl.builtP l = (Pl.fin L, 0, 0) ∧ Pl.Ok L ∧ Pl.Shut L) := by
  rcases sheet_ways l with h | ⟨k, h⟩
  · have hb : Pl.builtP l = Pl.build (Sh.parse l).1 := by unfold Pl.builtP; rw [if_pos (by rw [h])]
    by_cases h0 : (Pl.build (Sh.parse l).1).2.1 = 0
    · obtain ⟨h1, h2, h3⟩ := Pl.build_zero h0
      exact .inr ⟨_, h, by rw [hb, h3], h1, h2⟩
    · left
      unfold Pl.build at h0 hb
      split at h0
      · rename_i i hi
        rw [hi] at hb
        exact ⟨_, i, hb, h0⟩
      · rename_i hi
        rw [hi] at hb
        split at h0
        · rename_i i hi'
          simp only [hi'] at hb
          exact ⟨_, i, hb, h0⟩
        · exact absurd rfl h0
  · left
    exact ⟨2, k, by unfold Pl.builtP; rw [h]; rfl, by decide⟩
theorem take_sec {L : List It.Itm} {k : Nat} {x : It.Itm} (hx : L[k]? = some x) (h : Pl.isS x = true) : Pl.secs (L.take (k + 1)) = Pl.secs (L.take k) ++ [x] ∧ Pl.sigs (L.take (k + 1)) = Pl.sigs (L.take k) := by
  have h9 : Pl.isG x = false := (Pl.sec_facts h).2.1
  unfold Pl.secs Pl.sigs
  rw [List.take_add_one, hx, List.filter_append, List.filter_append]
  simp [h, h9]
theorem take_sig {L : List It.Itm} {k : Nat} {x : It.Itm} (hx : L[k]? = some x) (h : Pl.isG x = true) : Pl.secs (L.take (k + 1)) = Pl.secs (L.take k) ∧ Pl.sigs (L.take (k + 1)) = Pl.sigs (L.take k) ++ [x] := by
  have h9 : Pl.isS x = false := (Pl.sig_facts h).2.1
  unfold Pl.secs Pl.sigs
  rw [List.take_add_one, hx, List.filter_append, List.filter_append]
  simp [h, h9]
theorem take_other {L : List It.Itm} {k : Nat} {x : It.Itm} (hx : L[k]? = some x) (h : Pl.isS x = false) (h9 : Pl.isG x = false) : Pl.secs (L.take (k + 1)) = Pl.secs (L.take k) ∧ Pl.sigs (L.take (k + 1)) = Pl.sigs (L.take k) := by
  unfold Pl.secs Pl.sigs
  rw [List.take_add_one, hx, List.filter_append, List.filter_append]
  simp [h, h9]
theorem isPt_5 {x : It.Itm} (h : x.k = 5) : Pl.isPt x = false := by unfold Pl.isPt; rw [h]; rfl
theorem isPt_6 {x : It.Itm} (h : x.k = 6) : Pl.isPt x = true := by unfold Pl.isPt; rw [h]; rfl
theorem isS_56 {x : It.Itm} (h : x.k = 5 ∨ x.k = 6) : Pl.isS x = true := by
  unfold Pl.isS It.isLen
  rcases h with h | h <;> rw [h] <;> rfl
set_option maxHeartbeats 8000000 in
set_option maxRecDepth 100000 in
theorem planFinds_walk (s nm : ByteArray) (W : World) (ws : s.size ≤ maxLen) (wn : nm.size ≤ maxLen) (hE : Env W) :
    Calls Tryz.prog 7 #[.string s, .string nm] W fun e w' => e = .returned (.bool true) ∧ Below W.heap.size W w' := by
  unfold maxLen at ws wn
  have AW := Lib.hid pAwake_any
  have HE := Lib.hid hE
  clear hE
  by_cases hlong : 1500 < s.size
  · have h1 : decide (1500 < (s.size : Int)) = true := dec_t (by omega)
    clear hlong
    go_enter Tryz.func7, Tryz.ntmps7
    go_wp2_with fail
    refine (AW.out _ HE.out).mono ?_; rintro e w1 ⟨rfl, hb1⟩
    go_wp2
    go_ret
    exact ⟨rfl, hb1⟩
  have h1 : decide (1500 < (s.size : Int)) = false := dec_f (by omega)
  by_cases hlong2 : 50 < nm.size
  · have h2 : decide (50 < (nm.size : Int)) = true := dec_t (by omega)
    clear hlong hlong2
    go_enter Tryz.func7, Tryz.ntmps7
    go_wp2_with fail
    refine (AW.out _ HE.out).mono ?_; rintro e w1 ⟨rfl, hb1⟩
    go_wp2
    go_ret
    exact ⟨rfl, hb1⟩
  have h2 : decide (50 < (nm.size : Int)) = false := dec_f (by omega)
  have hsz : s.data.toList.length = s.size := by simp
  have C1 := Lib.hid (fun W => sheet_any s W (by omega))
  have hLl := sheet_few s.data.toList
  rcases built_ways s.data.toList with ⟨x, n, hb, hx0⟩ | ⟨L, hps, hb, hO, hS⟩
  · have C2 := Lib.hid (fun W => built_no hb (by omega) W)
    have D : (x == 0) = false := by rw [beq_eq_false_iff_ne]; exact hx0
    have D' : (x != 0) = true := by unfold bne; rw [D]; rfl
    generalize (Sh.parse s.data.toList).1 = L at C1 hLl
    clear hb hx0 hlong hlong2
    go_enter Tryz.func7, Tryz.ntmps7
    go_wp2_with fail
    refine (C1.out _).mono ?_; rintro e w1 ⟨A, c, x1, y1, rfl, hI, hb1⟩
    have B1 := Lib.hid (hb1.alloc hb1.size (.cells #[.int .i64 x1, .int .i64 y1] 31))
    have E1 := Lib.hid (HE.out.below rfl B1.out)
    clear hI hb1
    go_wp2_with fail
    refine (C2.out _ E1.out).mono ?_; rintro e w2 ⟨A2, c2, A3, c3, rfl, hb2⟩
    obtain ⟨RP, RF, X2, XS⟩ := two_blocks w2 (.cells #[.int .i64 0, .int .i64 0, .int .i64 0, .int .i64 0, .slice A2 0 c2, .slice A3 0 c3] 28) (.cells #[.int .i64 x, .int .i64 ((n + 1 : Nat) : Int)] 31)
    obtain ⟨⟨t0, t1⟩, gt⟩ := row2c RF
    have B2 := Lib.hid (B1.out.trans ((hb2.trans (X2.mono hb2.size)).mono B1.out.size))
    have E2 := Lib.hid (HE.out.below rfl B2.out)
    clear RP RF X2 hb2 B1 E1
    go_wp2_with fail
    refine (AW.out _ E2.out).mono ?_; rintro e w3 ⟨rfl, hb3⟩
    go_wp2
    go_ret
    exact ⟨rfl, B2.out.trans (hb3.mono B2.out.size)⟩
  · have C2 := Lib.hid (fun W => built_yes hb (by omega) W)
    rw [hps] at C1 hLl
    have HO := Lib.hid hO
    have HSS := Lib.hid hS
    have hl24 : (Pl.fin L).secs.length ≤ 24 := (Pl.fit_fin hO hS).few
    have hL15 : L.length ≤ 1501 := by simp only at hLl; omega
    clear hb hlong hlong2 hps hO hS hLl
    go_enter Tryz.func7, Tryz.ntmps7
    go_wp2_with fail
    refine (C1.out _).mono ?_; rintro e w1 ⟨A, c, x1, y1, rfl, hI, hb1⟩
    have B1 := Lib.hid (hb1.alloc hb1.size (.cells #[.int .i64 x1, .int .i64 y1] 31))
    have E1 := Lib.hid (HE.out.below rfl B1.out)
    have I1 := Lib.hid (hI.below rfl ((Below.refl w1.heap.size w1).alloc (Nat.le_refl _) (.cells #[.int .i64 x1, .int .i64 y1] 31)))
    clear hI hb1
    go_wp2_with fail
    refine (C2.out _ E1.out).mono ?_; rintro e w2 ⟨S, cS, G, cG, rfl, pin, hb2⟩
    obtain ⟨RP, RF, X2, XS⟩ := two_blocks w2 (planO (Pl.fin L) S cS G cG) faultZ
    obtain ⟨⟨t0, t1⟩, gt⟩ := row2c RF
    have BB := hb2.trans (X2.mono hb2.size)
    have B2 := Lib.hid (B1.out.trans (BB.mono B1.out.size))
    have IT5 := Lib.hid (I1.out.below rfl BB)
    have PI5 := Lib.hid (pin.below X2)
    obtain ⟨⟨-, -, -, -, x4, x5⟩, -, gx⟩ := row6 RP
    clear RP RF X2 hb2 B1 E1 I1 BB pin
    go_wp2_with fail
    clear t0 t1 gt
    generalize hw5 : (w2.alloc (planO (Pl.fin L) S cS G cG)).alloc faultZ = w5 at IT5 PI5 x4 x5 gx B2 XS
    clear hw5
    generalize w2.heap.size = bx at x4 x5 gx XS ⊢
    go_loopw [9, 10, 11] (fun a9 a10 i wr => ∃ k : Nat, k ≤ L.length ∧ a9 = .int .i64 ((Pl.secs (L.take k)).length : Nat) ∧ a10 = .int .i64 ((Pl.sigs (L.take k)).length : Nat) ∧ i = .int .i64 k ∧ Below w5.heap.size w5 wr) (fun _ _ i _ => L.length - (intOf i).toNat)
    case atStart => exact ⟨0, Nat.zero_le _, rfl, rfl, rfl, Below.refl _ _⟩
    case round =>
      obtain ⟨k, hk, rfl, rfl, rfl, hBw⟩ := hrel
      have HBw := Lib.hid hBw
      clear hBw
      have q1 : (Pl.secs (L.take k)).length ≤ 1501 := Nat.le_trans (List.length_filter_le _ _) (by rw [List.length_take]; omega)
      have q2 : (Pl.sigs (L.take k)).length ≤ 1501 := Nat.le_trans (List.length_filter_le _ _) (by rw [List.length_take]; omega)
      by_cases hlt : k < L.length
      · obtain ⟨bI, oI, hA, gI, i7⟩ := IT5.out.at hlt
        subst hA
        have hx := List.getElem?_eq_getElem hlt
        generalize L[k] = x at hx i7
        obtain ⟨i0, i1, i2, -, -, -, -⟩ := i7.cells
        clear i7
        have hxm := List.mem_of_getElem? hx
        by_cases hk5 : x.k = 5
        · have hkind := isS_56 (.inl hk5)
          have hxs : x ∈ Pl.secs L := Pl.mem_secs.2 ⟨hxm, hkind⟩
          rw [hk5] at i0
          have hr0 := Pl.find_told HO.out hxs
          obtain ⟨fd, hrs⟩ := hr0
          obtain ⟨r, hr⟩ : ∃ r : Nat, Pl.plS L x = r := ⟨_, rfl⟩
          rw [hr] at fd hrs
          have hrl : r < (Pl.fin L).secs.length := (List.getElem?_eq_some_iff.1 hrs).1
          have FD := Lib.hid (fun W (hW : Below w5.heap.size w5 W) => (show Calls Tryz.prog 13 #[.slice S (Pl.fin L).secs.length cS, .string (txt x.name)] W (Made w5 (.int .i64 r) W) from by
            have := pFind_any S cS (Pl.fin L).secs x.name W (PI5.out.below hW).1 (by omega)
            rw [fd] at this
            exact Made.of hW this))
          obtain ⟨b2, o2, hS2, hb2, on2⟩ := sec_cells PI5.out.1 hrs
          subst hS2
          obtain ⟨-, c1, c2, -⟩ := sec_on on2
          have hpt : (Pl.fS L x).pt = false := isPt_5 hk5
          have hpt' : (Pl.fS L x).len = x.n := rfl
          rw [hpt] at c1
          rw [hpt'] at c2
          have HN1 := Lib.hid (show Pl.secs (L.take (k + 1)) = Pl.secs (L.take k) ++ [x] ∧ Pl.sigs (L.take (k + 1)) = Pl.sigs (L.take k) from take_sec hx hkind)
          have m0 : decide ((r : Int) < 0) = false := dec_f (by omega)
          have m1 : decide (((Pl.fin L).secs.length : Int) ≤ (r : Int)) = false := dec_f (by omega)
          have m2 : ¬ (Pl.fin L).secs.length ≤ r := by omega
          have m3 : decide ((Pl.fin L).secs.length ≤ r) = false := decide_eq_false m2
          have KS := Lib.hid (fun w' (hb : Below w5.heap.size w5 w') => show (w'.cell? ⟨bx, 4, none⟩ = some (.slice (some ⟨b2, o2, none⟩) (Pl.fin L).secs.length cS) ∧ w'.cell? ⟨bI, oI + k * 7 + 1, none⟩ = some (.string (txt x.name))) ∧ (w'.cell? ⟨b2, o2 + r * 12 + 1, none⟩ = some (.bool false) ∧ w'.cell? ⟨b2, o2 + r * 12 + 2, none⟩ = some (.int .i64 x.n) ∧ w'.cell? ⟨bI, oI + k * 7, none⟩ = some (.int .i64 5) ∧ w'.cell? ⟨bI, oI + k * 7 + 2, none⟩ = some (.int .i64 x.n)) from
            ⟨⟨(hb.cell (p := ⟨bx, 4, none⟩) gx).trans x4, (hb.cell (p := ⟨bI, oI + k * 7 + 1, none⟩) gI).trans i1⟩, (hb.cell (p := ⟨b2, o2 + r * 12 + 1, none⟩) hb2).trans c1, (hb.cell (p := ⟨b2, o2 + r * 12 + 2, none⟩) hb2).trans c2, (hb.cell (p := ⟨bI, oI + k * 7, none⟩) gI).trans i0, (hb.cell (p := ⟨bI, oI + k * 7 + 2, none⟩) gI).trans i2⟩)
          obtain ⟨⟨-, -⟩, -, -, j0, -⟩ := KS.out _ HBw.out
          obtain ⟨⟨y4, y1⟩, -⟩ := KS.out _ HBw.out
          clear fd hrs on2 c1 c2 hpt hpt' hxs hkind
          go_wp2_with fail
          go_region_held3 (fun w' => w'.cell? ⟨bx, 4, none⟩ = some (.slice (some ⟨b2, o2, none⟩) (Pl.fin L).secs.length cS) ∧ w'.cell? ⟨bI, oI + k * 7 + 1, none⟩ = some (.string (txt x.name)))
            (first | exact (KS.out _ HBw.out.drew).1 | exact (KS.out _ hacc).1)
            (first
              | (go_at_call 13; (with_reducible refine (FD.out _ HBw.out.drew).mono ?_); rintro e w' ⟨rfl, hbl, hacc, hz⟩))
          all_goals obtain ⟨⟨z4, z1⟩, zp, zn, zk, zm⟩ := KS.out _ hacc
          all_goals have HB6 := Lib.hid hacc
          all_goals clear hbl hacc hz y4 y1
          all_goals go_wp2_with fail
          all_goals go_quiet (fail)
          all_goals go_wp2_with fail
          all_goals go_roundw
          case rel => exact ⟨k + 1, by omega, by rw [HN1.out.1, List.length_append, List.length_singleton]; go_num, by rw [HN1.out.2], by go_num, below_drewN HB6.out _⟩
          case measure => simp [intOf]; omega
        by_cases hk6 : x.k = 6
        · have hkind := isS_56 (.inr hk6)
          have hxs : x ∈ Pl.secs L := Pl.mem_secs.2 ⟨hxm, hkind⟩
          rw [hk6] at i0
          have hr0 := Pl.find_told HO.out hxs
          obtain ⟨fd, hrs⟩ := hr0
          obtain ⟨r, hr⟩ : ∃ r : Nat, Pl.plS L x = r := ⟨_, rfl⟩
          rw [hr] at fd hrs
          have hrl : r < (Pl.fin L).secs.length := (List.getElem?_eq_some_iff.1 hrs).1
          have FD := Lib.hid (fun W (hW : Below w5.heap.size w5 W) => (show Calls Tryz.prog 13 #[.slice S (Pl.fin L).secs.length cS, .string (txt x.name)] W (Made w5 (.int .i64 r) W) from by
            have := pFind_any S cS (Pl.fin L).secs x.name W (PI5.out.below hW).1 (by omega)
            rw [fd] at this
            exact Made.of hW this))
          obtain ⟨b2, o2, hS2, hb2, on2⟩ := sec_cells PI5.out.1 hrs
          subst hS2
          obtain ⟨-, c1, c2, -⟩ := sec_on on2
          have hpt : (Pl.fS L x).pt = true := isPt_6 hk6
          have hpt' : (Pl.fS L x).len = x.n := rfl
          rw [hpt] at c1
          rw [hpt'] at c2
          have HN1 := Lib.hid (show Pl.secs (L.take (k + 1)) = Pl.secs (L.take k) ++ [x] ∧ Pl.sigs (L.take (k + 1)) = Pl.sigs (L.take k) from take_sec hx hkind)
          have m0 : decide ((r : Int) < 0) = false := dec_f (by omega)
          have m1 : decide (((Pl.fin L).secs.length : Int) ≤ (r : Int)) = false := dec_f (by omega)
          have m2 : ¬ (Pl.fin L).secs.length ≤ r := by omega
          have m3 : decide ((Pl.fin L).secs.length ≤ r) = false := decide_eq_false m2
          have KS := Lib.hid (fun w' (hb : Below w5.heap.size w5 w') => show (w'.cell? ⟨bx, 4, none⟩ = some (.slice (some ⟨b2, o2, none⟩) (Pl.fin L).secs.length cS) ∧ w'.cell? ⟨bI, oI + k * 7 + 1, none⟩ = some (.string (txt x.name))) ∧ (w'.cell? ⟨b2, o2 + r * 12 + 1, none⟩ = some (.bool true) ∧ w'.cell? ⟨b2, o2 + r * 12 + 2, none⟩ = some (.int .i64 x.n) ∧ w'.cell? ⟨bI, oI + k * 7, none⟩ = some (.int .i64 6) ∧ w'.cell? ⟨bI, oI + k * 7 + 2, none⟩ = some (.int .i64 x.n)) from
            ⟨⟨(hb.cell (p := ⟨bx, 4, none⟩) gx).trans x4, (hb.cell (p := ⟨bI, oI + k * 7 + 1, none⟩) gI).trans i1⟩, (hb.cell (p := ⟨b2, o2 + r * 12 + 1, none⟩) hb2).trans c1, (hb.cell (p := ⟨b2, o2 + r * 12 + 2, none⟩) hb2).trans c2, (hb.cell (p := ⟨bI, oI + k * 7, none⟩) gI).trans i0, (hb.cell (p := ⟨bI, oI + k * 7 + 2, none⟩) gI).trans i2⟩)
          obtain ⟨⟨-, -⟩, -, -, j0, -⟩ := KS.out _ HBw.out
          obtain ⟨⟨y4, y1⟩, -⟩ := KS.out _ HBw.out
          clear fd hrs on2 c1 c2 hpt hpt' hxs hkind
          go_wp2_with fail
          go_region_held3 (fun w' => w'.cell? ⟨bx, 4, none⟩ = some (.slice (some ⟨b2, o2, none⟩) (Pl.fin L).secs.length cS) ∧ w'.cell? ⟨bI, oI + k * 7 + 1, none⟩ = some (.string (txt x.name)))
            (first | exact (KS.out _ HBw.out.drew).1 | exact (KS.out _ hacc).1)
            (first
              | (go_at_call 13; (with_reducible refine (FD.out _ HBw.out.drew).mono ?_); rintro e w' ⟨rfl, hbl, hacc, hz⟩))
          all_goals obtain ⟨⟨z4, z1⟩, zp, zn, zk, zm⟩ := KS.out _ hacc
          all_goals have HB6 := Lib.hid hacc
          all_goals clear hbl hacc hz y4 y1
          all_goals go_wp2_with fail
          all_goals go_quiet (fail)
          all_goals go_wp2_with fail
          all_goals go_roundw
          case rel => exact ⟨k + 1, by omega, by rw [HN1.out.1, List.length_append, List.length_singleton]; go_num, by rw [HN1.out.2], by go_num, below_drewN HB6.out _⟩
          case measure => simp [intOf]; omega
        have D5 : (x.k == 5) = false := by rw [beq_eq_false_iff_ne]; exact hk5
        have D6 : (x.k == 6) = false := by rw [beq_eq_false_iff_ne]; exact hk6
        have hnS : Pl.isS x = false := by
          unfold Pl.isS It.isLen
          exact decide_eq_false (by omega)
        have j0 := (HBw.out.cell (p := ⟨bI, oI + k * 7, none⟩) gI).trans i0
        by_cases hk9 : x.k = 9
        · have D9 : (x.k == 9) = true := by rw [beq_iff_eq]; exact hk9
          have HN1 := Lib.hid (take_sig hx (show Pl.isG x = true from decide_eq_true hk9))
          clear hk5 hk6 hk9 hnS hx hxm i1 i2
          go_wp2_with fail
          go_roundw
          case rel => exact ⟨k + 1, by omega, by rw [HN1.out.1], by rw [HN1.out.2, List.length_append, List.length_singleton]; go_num, by go_num, HBw.out⟩
          case measure => simp [intOf]; omega
        · have D9 : (x.k == 9) = false := by rw [beq_eq_false_iff_ne]; exact hk9
          have HN1 := Lib.hid (take_other hx hnS (show Pl.isG x = false from decide_eq_false hk9))
          clear hk5 hk6 hk9 hnS hx hxm i1 i2
          go_wp2_with fail
          go_roundw
          case rel => exact ⟨k + 1, by omega, by rw [HN1.out.1], by rw [HN1.out.2], by go_num, HBw.out⟩
          case measure => simp [intOf]; omega
      · obtain rfl : k = L.length := by omega
        rw [List.take_length]
        have l1 := Pl.secs_len (L := L)
        have l2 := Pl.sigs_len (L := L)
        have FDn := Lib.hid (fun W (hW : Below w5.heap.size w5 W) => (show Calls Tryz.prog 13 #[.slice S (Pl.fin L).secs.length cS, .string nm] W (Made w5 (.int .i64 (Pl.find (Pl.fin L).secs nm.data.toList)) W) from by
          have := pFind_any S cS (Pl.fin L).secs nm.data.toList W (PI5.out.below hW).1 (by omega)
          rw [txt_of] at this
          exact Made.of hW this))
        have y4 := (HBw.out.cell (p := ⟨bx, 4, none⟩) gx).trans x4
        have E1 : (((Pl.secs L).length : Int) == ((Pl.fin L).secs.length : Int)) = true := by rw [beq_iff_eq]; omega
        have E2 : (((Pl.sigs L).length : Int) == ((Pl.fin L).sigs.length : Int)) = true := by rw [beq_iff_eq]; omega
        have HBW := Lib.hid (fun W (hW : Below w5.heap.size w5 W) => B2.out.trans (hW.mono B2.out.size))
        rcases Pl.find_cases (Pl.fin L).secs nm.data.toList with ⟨hf, -⟩ | ⟨i, s', hf, hs', hn'⟩
        · rw [hf] at FDn
          have m0 : decide ((-1 : Int) < ((Pl.secs L).length : Int)) = true := dec_t (by omega)
          clear hf l1 l2
          go_wp2_with fail
          refine (FDn.out _ HBw.out).mono ?_; rintro e w6 ⟨rfl, hbl, hacc, hz⟩
          have HB6 := Lib.hid (HBW.out _ hacc)
          have HA6 := Lib.hid hacc
          clear hbl hacc hz y4
          go_wp2_with fail
          refine (AW.out _ (HE.out.below rfl HB6.out)).mono ?_; rintro e w7 ⟨rfl, hb7⟩
          have HB7 := Lib.hid (HB6.out.trans (hb7.mono HB6.out.size))
          have y4 := ((HA6.out.trans (hb7.mono HA6.out.size)).cell (p := ⟨bx, 4, none⟩) gx).trans x4
          have y5 := ((HA6.out.trans (hb7.mono HA6.out.size)).cell (p := ⟨bx, 5, none⟩) gx).trans x5
          clear hb7
          go_wp2_with fail
          go_ret
          exact ⟨rfl, HB7.out⟩
        · rw [hf] at FDn
          have hil : i < (Pl.fin L).secs.length := (List.getElem?_eq_some_iff.1 hs').1
          have m0 : decide ((i : Int) < ((Pl.secs L).length : Int)) = true := dec_t (by omega)
          have m1 : decide ((i : Int) < 0) = false := dec_f (by omega)
          have m2 : i < (Pl.secs L).length := by omega
          obtain ⟨b2, o2, hS2, hb2, on2⟩ := sec_cells PI5.out.1 hs'
          subst hS2
          obtain ⟨c0, -⟩ := sec_on on2
          rw [hn', txt_of] at c0
          have E3 : (nm.toList == nm.toList) = true := by simp
          clear hf on2 hs' hn' l1 l2
          go_wp2_with fail
          refine (FDn.out _ HBw.out).mono ?_; rintro e w6 ⟨rfl, hbl, hacc, hz⟩
          have HB6 := Lib.hid (HBW.out _ hacc)
          have HA6 := Lib.hid hacc
          clear hbl hacc hz y4
          go_wp2_with fail
          refine (AW.out _ (HE.out.below rfl HB6.out)).mono ?_; rintro e w7 ⟨rfl, hb7⟩
          have HB7 := Lib.hid (HB6.out.trans (hb7.mono HB6.out.size))
          have y4 := ((HA6.out.trans (hb7.mono HA6.out.size)).cell (p := ⟨bx, 4, none⟩) gx).trans x4
          have y5 := ((HA6.out.trans (hb7.mono HA6.out.size)).cell (p := ⟨bx, 5, none⟩) gx).trans x5
          have y0 := ((HA6.out.trans (hb7.mono HA6.out.size)).cell (p := ⟨b2, o2 + i * 12, none⟩) hb2).trans c0
          clear hb7
          go_wp2_with fail
          go_ret
          exact ⟨rfl, HB7.out⟩
end Go.Proofs.YtaheiolbeiofpaaGreatDoor
/-
  A law's argument that is a slice of texts, opened once for all laws: its cells, its length, the bounds. And tables of whatever depth, laid in a witness's world.
-/
namespace Go.Proofs.YtaheiolbeiofpaaGreatDoor
open Go.ChangeShapes Go.WideShapes Go.ChangeAt Go.RowKit

theorem open_texts {H : Type} {enc : TypeId × Value → H} {P : Program} {w : World} {base b0 : Nat} {r : Reach} {sp : Nat → Bool} {held : Bool} {t e : TypeId} {v : Value} {d : DataW H} {p : List MemPlace}
    (ht : P.underlying t = some (.slice e)) (he : P.underlying e = some .string) (hc : P.cellsOf e = 1) (hval : Value.okWide P w r b0 t v) (hd : DataW.Trod enc P w base sp held t v d p) :
    ∃ A c n L, v = .slice A n c ∧ L.length = n ∧ Strs w A L ∧ n ≤ c ∧ n ≤ maxLen ∧ ∀ x ∈ L, x.length ≤ maxLen := by
  obtain ⟨a0, n0, c0, rfl⟩ := okWide_slice ht hval
  obtain ⟨fuel, hf⟩ := hd
  rcases Go.Deep.open_strs ht he hc hf with ⟨h, _⟩ | ⟨a, len, cap, m, Sx, h, hb, hl, hm, hmm, _, hx⟩
  · simp [Value.cells] at h
    obtain ⟨rfl, rfl, rfl⟩ := h
    exact ⟨none, 0, 0, [], rfl, rfl, Strs.nil _ _, Nat.le_refl _, Nat.zero_le _, by simp⟩
  · simp [Value.cells] at h
    obtain ⟨rfl, rfl, rfl⟩ := h
    have hlm : n0 ≤ m := by rw [hmm]; split <;> omega
    refine ⟨some a, c0, n0, (List.range n0).map fun i => (Sx i).data.toList, rfl, by simp, fun k x hk => ?_, hl, by omega, fun x hx' => ?_⟩
    · have hk2 : k < n0 := by
        have := (List.getElem?_eq_some_iff.1 hk).1
        simpa using this
      have hkx : x = (Sx k).data.toList := by simpa [List.getElem?_map, hk2] using hk.symm
      have hcell := (hx k (by omega)).1
      subst hkx
      refine ⟨a, rfl, ?_, by rw [str_of]; exact hcell⟩
      have := World.block_lt_of_cell? _ _ hcell
      rwa [add_block] at this
    · obtain ⟨i, hi, rfl⟩ := List.mem_map.1 hx'
      have := (hx i (by have := List.mem_range.1 hi; omega)).2
      simpa using this

/-- The cells that a laid datum tells, one behind the other. -/
def flatCells : Nat → DataW Unit → List Value
  | 0, _ => []
  | _ + 1, .lit (.int k n) => [.int k n]
  | f + 1, .agg l => l.flatMap (flatCells f)
  | _ + 1, _ => [undef]
end Go.Proofs.YtaheiolbeiofpaaGreatDoor
/-
  The walk of the law PlanJoins: it returns true.
-/
namespace Go.Proofs.YtaheiolbeiofpaaGreatDoor
open Go.RowKit

theorem ne_end (W : World) (x y : Pl.En) : Sem.run Tryz.prog (binOp .neq 48 (endV x) (endV y)) W = .ok (.bool (!endB x y)) W := by
  rw [run_neq_struct, show (10000 : Nat) = 9998 + 2 from rfl, eq_end_in]; rfl
theorem on_end {w : World} {b o : Nat} {s : Pl.Sec} (h : LSec.On w b o s) {e : Nat} (he : e < 3) : w.cell? ⟨b, o + 3 + e * 3, none⟩ = some (.int .i64 (s.get e).goes) ∧ w.cell? ⟨b, o + 3 + e * 3 + 1, none⟩ = some (.int .i64 (s.get e).at_) ∧ w.cell? ⟨b, o + 3 + e * 3 + 2, none⟩ = some (.int .i64 (s.get e).sig) := by
  obtain ⟨-, -, -, a3, a4, a5, a6, a7, a8, a9, a10, a11⟩ := sec_on h
  have : e = 0 ∨ e = 1 ∨ e = 2 := by omega
  rcases this with rfl | rfl | rfl
  · exact ⟨a3, a4, a5⟩
  · exact ⟨a6, a7, a8⟩
  · exact ⟨a9, a10, a11⟩
set_option maxHeartbeats 8000000 in
set_option maxRecDepth 100000 in
theorem planJoins_walk (s : ByteArray) (W : World) (ws : s.size ≤ maxLen) (hE : Env W) :
    Calls Tryz.prog 5 #[.string s] W fun e w' => e = .returned (.bool true) ∧ Below W.heap.size W w' := by
  unfold maxLen at ws
  have AW := Lib.hid pAwake_any
  have HE := Lib.hid hE
  clear hE
  by_cases hlong : 1500 < s.size
  · have h1 : decide (1500 < (s.size : Int)) = true := dec_t (by omega)
    clear hlong
    go_enter Tryz.func5, Tryz.ntmps5
    go_wp2_with fail
    refine (AW.out _ HE.out).mono ?_; rintro e w1 ⟨rfl, hb1⟩
    go_wp2
    go_ret
    exact ⟨rfl, hb1⟩
  have h1 : decide (1500 < (s.size : Int)) = false := dec_f (by omega)
  rcases built_ways s.data.toList with ⟨x, n, hb, hx0⟩ | ⟨L, hps, hb, hO, hS⟩
  · have C2 := Lib.hid (fun W => built_no hb (by omega) W)
    have D : (x == 0) = false := by rw [beq_eq_false_iff_ne]; exact hx0
    have D' : (x != 0) = true := by unfold bne; rw [D]; rfl
    clear hb hx0 hlong
    go_enter Tryz.func5, Tryz.ntmps5
    go_wp2_with fail
    refine (C2.out _ HE.out).mono ?_; rintro e w2 ⟨A2, c2, A3, c3, rfl, hb2⟩
    obtain ⟨RP, RF, X2, XS⟩ := two_blocks w2 (.cells #[.int .i64 0, .int .i64 0, .int .i64 0, .int .i64 0, .slice A2 0 c2, .slice A3 0 c3] 28) (.cells #[.int .i64 x, .int .i64 ((n + 1 : Nat) : Int)] 31)
    obtain ⟨⟨t0, t1⟩, gt⟩ := row2c RF
    have B2 := Lib.hid (hb2.trans (X2.mono hb2.size))
    have E2 := Lib.hid (HE.out.below rfl B2.out)
    have HRP := Lib.hid RP
    have gP := (Array.getElem?_eq_some_iff.1 RP).1
    clear RP RF X2 hb2
    go_wp2_with fail
    refine (AW.out _ E2.out).mono ?_; rintro e w3 ⟨rfl, hb3⟩
    have B3 := Lib.hid (B2.out.trans (hb3.mono B2.out.size))
    obtain ⟨⟨-, -, -, -, p4, p5⟩, -, -⟩ := row6 ((hb3.block _ gP).trans HRP.out)
    clear hb3
    go_wp2_with fail
    go_ret
    exact ⟨rfl, B3.out⟩
  · have C2 := Lib.hid (fun W => built_yes hb (by omega) W)
    have HO := Lib.hid hO
    have HSS := Lib.hid hS
    have hl24 : (Pl.fin L).secs.length ≤ 24 := (Pl.fit_fin hO hS).few
    have hl12 : (Pl.fin L).sigs.length ≤ 12 := (Pl.fit_fin hO hS).gfew
    clear hb hlong hps hO hS
    go_enter Tryz.func5, Tryz.ntmps5
    go_wp2_with fail
    refine (C2.out _ HE.out).mono ?_; rintro e w2 ⟨S, cS, G, cG, rfl, pin, hb2⟩
    obtain ⟨RP, RF, X2, XS⟩ := two_blocks w2 (planO (Pl.fin L) S cS G cG) faultZ
    obtain ⟨⟨t0, t1⟩, gt⟩ := row2c RF
    have B2 := Lib.hid (hb2.trans (X2.mono hb2.size))
    have PI5 := Lib.hid (pin.below X2)
    obtain ⟨⟨-, -, -, -, x4, x5⟩, -, gx⟩ := row6 RP
    clear RP RF X2 hb2 pin
    go_wp2_with fail
    clear t0 t1 gt
    generalize hw5 : (w2.alloc (planO (Pl.fin L) S cS G cG)).alloc faultZ = w5 at PI5 x4 x5 gx B2 XS
    clear hw5
    generalize w2.heap.size = bx at x4 x5 gx XS ⊢
    have XB := Lib.hid (fun W (hW : Below w5.heap.size w5 W) => show W.cell? ⟨bx, 4, none⟩ = some (.slice S (Pl.fin L).secs.length cS) ∧ W.cell? ⟨bx, 5, none⟩ = some (.slice G (Pl.fin L).sigs.length cG) from
      ⟨(hW.cell (p := ⟨bx, 4, none⟩) gx).trans x4, (hW.cell (p := ⟨bx, 5, none⟩) gx).trans x5⟩)
    go_loopw [6] (fun i wr => ∃ k : Nat, k ≤ (Pl.fin L).secs.length ∧ i = .int .i64 k ∧ Below w5.heap.size w5 wr) (fun i _ => (Pl.fin L).secs.length - (intOf i).toNat)
    case atStart => exact ⟨0, Nat.zero_le _, rfl, Below.refl _ _⟩
    case round =>
      clear x4 x5
      obtain ⟨k, hk, rfl, hBw⟩ := hrel
      have HBw := Lib.hid hBw
      clear hBw
      by_cases hlt : k < (Pl.fin L).secs.length
      · have hs := List.getElem?_eq_getElem hlt
        generalize (Pl.fin L).secs[k] = sc at hs
        obtain ⟨y4, y5⟩ := XB.out _ HBw.out
        obtain ⟨b, o, rfl, hb, on⟩ := sec_cells (PI5.out.below HBw.out).1 hs
        go_wp2_with fail
        go_cut [81] from 44 to 80 (fun s81 w' => s81 = .bool false ∧ Below w5.heap.size w5 w')
        case first =>
          have NE := fun W => ne_end W ⟨-1, 0, -1⟩ ⟨-1, 0, -1⟩
          rw [show (!endB ⟨-1, 0, -1⟩ ⟨-1, 0, -1⟩) = false by decide] at NE
          obtain ⟨c0, c1, -⟩ := sec_on on
          have hpt : sc.pt = true ∨ sc.pt = false ∧ sc.e2 = Pl.stop := by
            cases hp : sc.pt with
            | true => exact .inl rfl
            | false => exact .inr ⟨rfl, Pl.plain_end HO.out hs hp⟩
          obtain ⟨-, -, -, -, -, -, -, -, -, c9, c10, c11⟩ := sec_on on
          by_cases h0 : k = 0
          · subst h0
            rw [Nat.zero_mul, Nat.add_zero] at c0 c1 c9 c10 c11
            rcases hpt with hp | ⟨hp, he2⟩
            · rw [hp] at c1
              clear hp c9 c10 c11 on
              go_quiet (fail)
              go_wp2_with fail
              go_meet
              exact ⟨rfl, below_drewN HBw.out _⟩
            · rw [hp] at c1
              rw [he2] at c9 c10 c11
              have c9' : wr.cell? ⟨b, o + 9, none⟩ = some (.int .i64 (-1)) := c9
              have c10' : wr.cell? ⟨b, o + 10, none⟩ = some (.int .i64 0) := c10
              have c11' : wr.cell? ⟨b, o + 11, none⟩ = some (.int .i64 (-1)) := c11
              clear hp he2 c9 c10 c11 on
              go_quiet (fail)
              go_wp2_with fail
              go_meet
              exact ⟨rfl, below_drewN HBw.out _⟩
          · obtain ⟨k0, rfl⟩ : ∃ k0, k = k0 + 1 := ⟨k - 1, by omega⟩
            have hs0 := List.getElem?_eq_getElem (l := (Pl.fin L).secs) (i := k0) (by omega)
            generalize (Pl.fin L).secs[k0] = s0 at hs0
            obtain ⟨b', o', hA', hb', on'⟩ := sec_cells (PI5.out.below HBw.out).1 hs0
            cases hA'
            obtain ⟨d0, -⟩ := sec_on on'
            have hlt0 : s0.name < sc.name := by
              obtain ⟨i1, e1⟩ := List.getElem?_eq_some_iff.1 hs0
              obtain ⟨i2, e2⟩ := List.getElem?_eq_some_iff.1 hs
              have := List.pairwise_iff_getElem.1 (Pl.secs_rise HO.out) k0 (k0 + 1) i1 i2 (by omega)
              rw [e1, e2] at this
              exact this
            have G0 : Op.bytesLess (txt s0.name).toList (txt sc.name).toList = true := by rw [str_lt]; exact decide_eq_true hlt0
            have w1 : IntKind.i64.wrap ((k0 : Int) + 1 - 1) = (k0 : Int) := by rw [show (k0 : Int) + 1 - 1 = (k0 : Int) by omega]; exact IntWalk.i64_in _ (by omega)
            have w2 : IntKind.i64.wrap (k0 : Int) = (k0 : Int) := IntWalk.i64_in _ (by omega)
            have w3 : (0 : Int) ≤ (k0 : Int) := by omega
            have w4 : (k0 : Int) < ((Pl.fin L).secs.length : Int) := by omega
            have w5' : (0 : Int) < (k0 : Int) + 1 := by omega
            have w6 : decide ((0 : Int) < (k0 : Int) + 1) = true := dec_t w5'
            rcases hpt with hp | ⟨hp, he2⟩
            · rw [hp] at c1
              clear hp c9 c10 c11 on on' hlt0
              go_quiet (fail)
              go_wp2_with fail
              go_meet
              exact ⟨rfl, below_drewN HBw.out _⟩
            · rw [hp] at c1
              rw [he2] at c9 c10 c11
              have c9' : wr.cell? ⟨b, o + (k0 + 1) * 12 + 9, none⟩ = some (.int .i64 (-1)) := c9
              have c10' : wr.cell? ⟨b, o + (k0 + 1) * 12 + 10, none⟩ = some (.int .i64 0) := c10
              have c11' : wr.cell? ⟨b, o + (k0 + 1) * 12 + 11, none⟩ = some (.int .i64 (-1)) := c11
              clear hp he2 c9 c10 c11 on on' hlt0
              go_quiet (fail)
              go_wp2_with fail
              go_meet
              exact ⟨rfl, below_drewN HBw.out _⟩
        case rest =>
          obtain ⟨rfl, hBc⟩ := hcut
          have HBc := Lib.hid hBc
          clear hBc on y4 y5 HBw
          go_wp2_with fail
          go_loopw [7] (fun i wr => ∃ e : Nat, e ≤ 3 ∧ i = .int .i64 e ∧ Below w5.heap.size w5 wr) (fun i _ => 3 - (intOf i).toNat)
          case atStart => exact ⟨0, by omega, rfl, HBc.out⟩
          case round =>
            clear HBc
            obtain ⟨e, he, rfl, hB2⟩ := hrel
            have HB2 := Lib.hid hB2
            clear hB2
            obtain ⟨y4, y5⟩ := XB.out _ HB2.out
            by_cases he3 : e < 3
            · have d3 : decide ((e : Int) < 3) = true := dec_t (by omega)
              have e0 : (e : Int) < 3 := by omega
              obtain ⟨b', o', hA', hb', on⟩ := sec_cells (PI5.out.below HB2.out).1 hs
              cases hA'
              obtain ⟨a0, a1, a2⟩ := on_end on he3
              clear on
              have hways : ((sc.get e).goes = -1 ∧ (sc.get e).at_ = 0 ∧ (sc.get e).sig = -1) ∨ ∃ (j f : Nat) (t : Pl.Sec), (Pl.fin L).secs[j]? = some t ∧ f < 3 ∧ (sc.get e).goes = (j : Int) ∧ (sc.get e).at_ = (f : Int) ∧ (t.get f).goes = (k : Int) ∧ (t.get f).at_ = (e : Int) ∧ ((sc.get e).sig = -1 ∨ ∃ (q : Nat) (g : Pl.Sig), (Pl.fin L).sigs[q]? = some g ∧ (sc.get e).sig = (q : Int) ∧ g.sec = (k : Int) ∧ g.en = (e : Int)) := by
                rcases Pl.end_cases HO.out HSS.out hs he3 with h0 | ⟨_, -, -, -, -, -, g1, g2, g3⟩ | ⟨_, j, f, t, -, -, -, -, hj, hf, g1, g2, g4, g5, hsig⟩
                · left; rw [h0]; exact ⟨rfl, rfl, rfl⟩
                · exact .inl ⟨g1, g2, g3⟩
                · exact .inr ⟨j, f, t, hj, hf, g1, g2, g4, g5, hsig⟩
              rcases hways with ⟨g1, g2, g3⟩ | ⟨j, f, t, hj, hf, g1, g2, g4, g5, hsig⟩
              · rw [g1] at a0
                rw [g2] at a1
                rw [g3] at a2
                have D1 : decide (((Pl.fin L).secs.length : Int) ≤ -1) = false := dec_f (by omega)
                have D2 : decide (((Pl.fin L).sigs.length : Int) ≤ -1) = false := dec_f (by omega)
                clear g1 g2 g3
                have HB3 := Lib.hid (HB2.out.alloc HB2.out.size (endO (-1) 0 (-1)))
                have kn := heap_alloc_new wr (endO (-1) 0 (-1))
                have kz0 : (wr.alloc (endO (-1) 0 (-1))).cell? ⟨wr.heap.size, 0, none⟩ = some (.int .i64 (-1)) := cell_of_row _ _ 0 _ _ _ kn
                have kz1 : (wr.alloc (endO (-1) 0 (-1))).cell? ⟨wr.heap.size, 1, none⟩ = some (.int .i64 0) := cell_of_row _ _ 1 _ _ _ kn
                have kz2 : (wr.alloc (endO (-1) 0 (-1))).cell? ⟨wr.heap.size, 2, none⟩ = some (.int .i64 (-1)) := cell_of_row _ _ 2 _ _ _ kn
                obtain ⟨z4, z5⟩ := XB.out _ HB3.out
                clear kn
                go_wp2_with fail
                go_quiet (fail)
                go_wp2_with fail
                go_roundw
                case rel => exact ⟨e + 1, by omega, by go_num, below_drewN HB3.out _⟩
                case measure => simp [intOf]; omega
              rw [g1] at a0
              rw [g2] at a1
              rcases hsig with g3 | ⟨q, g, hq, g3, g6, g7⟩
              · rw [g3] at a2
                have D2 : decide (((Pl.fin L).sigs.length : Int) ≤ -1) = false := dec_f (by omega)
                clear g3
                have m1 : j < (Pl.fin L).secs.length := (List.getElem?_eq_some_iff.1 hj).1
                have m2 : ¬ (Pl.fin L).secs.length ≤ j := by omega
                have m3 : decide ((Pl.fin L).secs.length ≤ j) = false := decide_eq_false m2
                have m4 : decide (((Pl.fin L).secs.length : Int) ≤ (j : Int)) = false := dec_f (by omega)
                have m5 : (0 : Int) ≤ (j : Int) := by omega
                have m6 : decide ((0 : Int) ≤ (j : Int)) = true := dec_t m5
                have m7 : ¬ 2 < f := by omega
                have m8 : decide ((2 : Int) < (f : Int)) = false := dec_f (by omega)
                have m9 : decide ((f : Int) < 0) = false := dec_f (by omega)
                have m10 : (j : Int) < ((Pl.fin L).secs.length : Int) := by omega
                have m11 : (f : Int) < 3 := by omega
                have m12 : (0 : Int) ≤ (f : Int) := by omega
                have m13 : decide ((j : Int) < 0) = false := dec_f (by omega)
                have HB3 := Lib.hid (HB2.out.alloc HB2.out.size (endO j f (-1)))
                have kn := heap_alloc_new wr (endO j f (-1))
                have kz0 : (wr.alloc (endO j f (-1))).cell? ⟨wr.heap.size, 0, none⟩ = some (.int .i64 j) := cell_of_row _ _ 0 _ _ _ kn
                have kz1 : (wr.alloc (endO j f (-1))).cell? ⟨wr.heap.size, 1, none⟩ = some (.int .i64 f) := cell_of_row _ _ 1 _ _ _ kn
                have kz2 : (wr.alloc (endO j f (-1))).cell? ⟨wr.heap.size, 2, none⟩ = some (.int .i64 (-1)) := cell_of_row _ _ 2 _ _ _ kn
                obtain ⟨z4, z5⟩ := XB.out _ HB3.out
                clear kn
                obtain ⟨b'', o'', hA'', hbj, onj⟩ := sec_cells (PI5.out.below HB3.out).1 hj
                cases hA''
                obtain ⟨e1, e2, -⟩ := on_end onj hf
                rw [g4] at e1
                rw [g5] at e2
                clear onj hj g1 g2 g4 g5
                go_wp2_with fail
                go_quiet (fail)
                go_wp2_with fail
                go_roundw
                case rel => exact ⟨e + 1, by omega, by go_num, below_drewN HB3.out _⟩
                case measure => simp [intOf]; omega
              · rw [g3] at a2
                clear g3
                have q1 : q < (Pl.fin L).sigs.length := (List.getElem?_eq_some_iff.1 hq).1
                have q2 : ¬ (Pl.fin L).sigs.length ≤ q := by omega
                have q3 : decide ((Pl.fin L).sigs.length ≤ q) = false := decide_eq_false q2
                have q4 : decide (((Pl.fin L).sigs.length : Int) ≤ (q : Int)) = false := dec_f (by omega)
                have q5 : (0 : Int) ≤ (q : Int) := by omega
                have q6 : (q : Int) < ((Pl.fin L).sigs.length : Int) := by omega
                have q7 : decide ((0 : Int) ≤ (q : Int)) = true := dec_t q5
                have m1 : j < (Pl.fin L).secs.length := (List.getElem?_eq_some_iff.1 hj).1
                have m2 : ¬ (Pl.fin L).secs.length ≤ j := by omega
                have m3 : decide ((Pl.fin L).secs.length ≤ j) = false := decide_eq_false m2
                have m4 : decide (((Pl.fin L).secs.length : Int) ≤ (j : Int)) = false := dec_f (by omega)
                have m5 : (0 : Int) ≤ (j : Int) := by omega
                have m6 : decide ((0 : Int) ≤ (j : Int)) = true := dec_t m5
                have m7 : ¬ 2 < f := by omega
                have m8 : decide ((2 : Int) < (f : Int)) = false := dec_f (by omega)
                have m9 : decide ((f : Int) < 0) = false := dec_f (by omega)
                have m10 : (j : Int) < ((Pl.fin L).secs.length : Int) := by omega
                have m11 : (f : Int) < 3 := by omega
                have m12 : (0 : Int) ≤ (f : Int) := by omega
                have m13 : decide ((j : Int) < 0) = false := dec_f (by omega)
                have HB3 := Lib.hid (HB2.out.alloc HB2.out.size (endO j f q))
                have kn := heap_alloc_new wr (endO j f q)
                have kz0 : (wr.alloc (endO j f q)).cell? ⟨wr.heap.size, 0, none⟩ = some (.int .i64 j) := cell_of_row _ _ 0 _ _ _ kn
                have kz1 : (wr.alloc (endO j f q)).cell? ⟨wr.heap.size, 1, none⟩ = some (.int .i64 f) := cell_of_row _ _ 1 _ _ _ kn
                have kz2 : (wr.alloc (endO j f q)).cell? ⟨wr.heap.size, 2, none⟩ = some (.int .i64 q) := cell_of_row _ _ 2 _ _ _ kn
                obtain ⟨z4, z5⟩ := XB.out _ HB3.out
                clear kn
                obtain ⟨b'', o'', hA'', hbj, onj⟩ := sec_cells (PI5.out.below HB3.out).1 hj
                cases hA''
                obtain ⟨e1, e2, -⟩ := on_end onj hf
                rw [g4] at e1
                rw [g5] at e2
                clear onj hj g1 g2 g4 g5
                obtain ⟨bg, og, rfl, hbg, ong⟩ : ∃ b o, G = some ⟨b, o, none⟩ ∧ b < (wr.alloc (endO j f q)).heap.size ∧ LSig.On (wr.alloc (endO j f q)) b (o + q * 3) g := by
                  obtain ⟨hi', rfl⟩ := List.getElem?_eq_some_iff.1 hq
                  exact (PI5.out.below HB3.out).2.at hi'
                obtain ⟨-, r1, r2⟩ := sig_on ong
                rw [g6] at r1
                rw [g7] at r2
                clear ong hq g6 g7
                go_wp2_with fail
                go_quiet (fail)
                go_wp2_with fail
                go_roundw
                case rel => exact ⟨e + 1, by omega, by go_num, below_drewN HB3.out _⟩
                case measure => simp [intOf]; omega
            · obtain rfl : e = 3 := by omega
              go_wp2_with fail
              go_roundw
              case rel => exact ⟨k + 1, by omega, by go_num, HB2.out⟩
              case measure => simp [intOf]; omega
      · obtain rfl : k = (Pl.fin L).secs.length := by omega
        go_wp2_with fail
        go_loopw [9] (fun i wr => ∃ k : Nat, k ≤ (Pl.fin L).sigs.length ∧ i = .int .i64 k ∧ Below w5.heap.size w5 wr) (fun i _ => (Pl.fin L).sigs.length - (intOf i).toNat)
        case atStart => exact ⟨0, Nat.zero_le _, rfl, HBw.out⟩
        case round =>
          clear HBw
          obtain ⟨k, hk, rfl, hBw⟩ := hrel
          have HBw := Lib.hid hBw
          clear hBw
          obtain ⟨y4, y5⟩ := XB.out _ HBw.out
          by_cases hlt : k < (Pl.fin L).sigs.length
          · have hg := List.getElem?_eq_getElem hlt
            generalize (Pl.fin L).sigs[k] = gs at hg
            obtain ⟨j, f, t, hj, hf, g1, g2, g3⟩ := Pl.sig_cases HO.out hg
            obtain ⟨bg, og, rfl, hbg, ong⟩ : ∃ b o, G = some ⟨b, o, none⟩ ∧ b < wr.heap.size ∧ LSig.On wr b (o + k * 3) gs := by
              obtain ⟨hi', rfl⟩ := List.getElem?_eq_some_iff.1 hg
              exact (PI5.out.below HBw.out).2.at hi'
            obtain ⟨a0, a1, a2⟩ := sig_on ong
            obtain ⟨gn, gsec, gen⟩ := gs
            simp only at g1 g2 a0 a1 a2
            subst g1 g2
            have m1 : j < (Pl.fin L).secs.length := (List.getElem?_eq_some_iff.1 hj).1
            have m2 : ¬ (Pl.fin L).secs.length ≤ j := by omega
            have m3 : decide ((Pl.fin L).secs.length ≤ j) = false := decide_eq_false m2
            have m4 : decide (((Pl.fin L).secs.length : Int) ≤ (j : Int)) = false := dec_f (by omega)
            have m5 : (0 : Int) ≤ (j : Int) := by omega
            have m6 : decide ((0 : Int) ≤ (j : Int)) = true := dec_t m5
            have m7 : ¬ 2 < f := by omega
            have m8 : decide ((2 : Int) < (f : Int)) = false := dec_f (by omega)
            have m9 : decide ((f : Int) < 0) = false := dec_f (by omega)
            have m10 : (j : Int) < ((Pl.fin L).secs.length : Int) := by omega
            have m11 : (f : Int) < 3 := by omega
            have m12 : (0 : Int) ≤ (f : Int) := by omega
            have m13 : decide ((j : Int) < 0) = false := dec_f (by omega)
            have HB3 := Lib.hid (HBw.out.alloc HBw.out.size (.cells #[.string (txt gn), .int .i64 j, .int .i64 f] 53))
            have kn := heap_alloc_new wr (.cells #[.string (txt gn), .int .i64 j, .int .i64 f] 53)
            have kz0 : (wr.alloc (.cells #[.string (txt gn), .int .i64 j, .int .i64 f] 53)).cell? ⟨wr.heap.size, 0, none⟩ = some (.string (txt gn)) := cell_of_row _ _ 0 _ _ _ kn
            have kz1 : (wr.alloc (.cells #[.string (txt gn), .int .i64 j, .int .i64 f] 53)).cell? ⟨wr.heap.size, 1, none⟩ = some (.int .i64 j) := cell_of_row _ _ 1 _ _ _ kn
            have kz2 : (wr.alloc (.cells #[.string (txt gn), .int .i64 j, .int .i64 f] 53)).cell? ⟨wr.heap.size, 2, none⟩ = some (.int .i64 f) := cell_of_row _ _ 2 _ _ _ kn
            obtain ⟨z4, z5⟩ := XB.out _ HB3.out
            obtain ⟨b, o, rfl, hbj, onj⟩ := sec_cells (PI5.out.below HB3.out).1 hj
            obtain ⟨-, -, e3⟩ := on_end onj hf
            rw [g3] at e3
            clear kn onj hj g3 ong
            by_cases h0 : k = 0
            · subst h0
              rw [Nat.zero_mul, Nat.add_zero] at a0 a1 a2
              clear hg
              go_wp2_with fail
              go_quiet (fail)
              go_wp2_with fail
              go_roundw
              case rel => exact ⟨0 + 1, by omega, by go_num, below_drewN HB3.out _⟩
              case measure => simp [intOf]; omega
            · obtain ⟨k0, rfl⟩ : ∃ k0, k = k0 + 1 := ⟨k - 1, by omega⟩
              have hs0 := List.getElem?_eq_getElem (l := (Pl.fin L).sigs) (i := k0) (by omega)
              generalize (Pl.fin L).sigs[k0] = s0 at hs0
              have hlt0 : s0.name < gn := by
                obtain ⟨i1, e1⟩ := List.getElem?_eq_some_iff.1 hs0
                obtain ⟨i2, e2⟩ := List.getElem?_eq_some_iff.1 hg
                have := List.pairwise_iff_getElem.1 (Pl.sigs_rise HO.out) k0 (k0 + 1) i1 i2 (by omega)
                rw [e1, e2] at this
                exact this
              obtain ⟨bg', og', hA', hbg', ong'⟩ : ∃ b' o', some (⟨bg, og, none⟩ : Addr) = some ⟨b', o', none⟩ ∧ b' < (wr.alloc (.cells #[.string (txt gn), .int .i64 j, .int .i64 f] 53)).heap.size ∧ LSig.On (wr.alloc (.cells #[.string (txt gn), .int .i64 j, .int .i64 f] 53)) b' (o' + k0 * 3) s0 := by
                obtain ⟨hi', rfl⟩ := List.getElem?_eq_some_iff.1 hs0
                exact (PI5.out.below HB3.out).2.at hi'
              cases hA'
              obtain ⟨d0, -⟩ := sig_on ong'
              have G0 : Op.bytesLess (txt s0.name).toList (txt gn).toList = true := by rw [str_lt]; exact decide_eq_true hlt0
              have w1 : IntKind.i64.wrap ((k0 : Int) + 1 - 1) = (k0 : Int) := by rw [show (k0 : Int) + 1 - 1 = (k0 : Int) by omega]; exact IntWalk.i64_in _ (by omega)
              have w2 : IntKind.i64.wrap (k0 : Int) = (k0 : Int) := IntWalk.i64_in _ (by omega)
              have w3 : (0 : Int) ≤ (k0 : Int) := by omega
              have w4 : (k0 : Int) < ((Pl.fin L).sigs.length : Int) := by omega
              have w5' : (0 : Int) < (k0 : Int) + 1 := by omega
              have w6 : decide ((0 : Int) < (k0 : Int) + 1) = true := dec_t w5'
              clear hg hs0 hlt0 ong'
              go_wp2_with fail
              go_quiet (fail)
              go_wp2_with fail
              go_roundw
              case rel => exact ⟨k0 + 1 + 1, by omega, by go_num, below_drewN HB3.out _⟩
              case measure => simp [intOf]; omega
          · obtain rfl : k = (Pl.fin L).sigs.length := by omega
            have B5 := Lib.hid (B2.out.trans (HBw.out.mono B2.out.size))
            have v1 : decide (((Pl.fin L).secs.length : Int) ≤ 24) = true := dec_t (by omega)
            have v2 : decide (((Pl.fin L).sigs.length : Int) ≤ 12) = true := dec_t (by omega)
            go_wp2_with fail
            refine (AW.out _ (HE.out.below rfl B5.out)).mono ?_; rintro e w6 ⟨rfl, hb6⟩
            have B6 := Lib.hid (B5.out.trans (hb6.mono B5.out.size))
            clear y4 y5
            obtain ⟨y4, y5⟩ := XB.out _ (HBw.out.trans (hb6.mono HBw.out.size))
            clear hb6
            go_wp2_with fail
            go_ret
            exact ⟨rfl, B6.out⟩
end Go.Proofs.YtaheiolbeiofpaaGreatDoor
/-
  A law's argument that is a slice of items, opened: its cells, its length, the bounds.
-/
namespace Go.Proofs.YtaheiolbeiofpaaGreatDoor
open Go.ChangeShapes Go.WideShapes Go.ChangeAt Go.RowKit

/-- An item whose number and texts are of this machine. -/
def ItemMach (y : It.Itm) : Prop := y.n ≤ 9223372036854775807 ∧ y.name.length ≤ maxLen ∧ y.e0.n.length ≤ maxLen ∧ y.e1.n.length ≤ maxLen
set_option maxRecDepth 100000 in
theorem item_cells {H : Type} {enc : TypeId × Value → H} {w : World} {base : Nat} {sp : Nat → Bool} {held : Bool} {fuel : Nat} {b o : Nat} {cs : List Value} {x : DataW H × List MemPlace}
    (hc : w.cells? base ⟨b, o, none⟩ 7 = some cs) (hf : DataW.trod enc Tryz.prog w base sp held fuel 44 cs = some x) : ∃ y, It7 w b o y ∧ ItemMach y := by
  obtain ⟨k, nm, n, a, ac, b', bc, rfl, h1, h2, h3, h4⟩ := trod_item hf
  refine ⟨⟨k, nm.data.toList, n, ⟨a.data.toList, ac⟩, ⟨b'.data.toList, bc⟩⟩, fun j v hv => ?_, h1, by simpa using h2, by simpa using h3, by simpa using h4⟩
  have hj := (List.getElem?_eq_some_iff.1 hv).1
  rw [cells7_length] at hj
  obtain ⟨_, _, hg⟩ := World.cells?_some hc
  have := hg j hj
  rw [Go.WideShapes.add_plain] at this
  rw [this]
  simpa [cells7, txt_of] using hv
theorem pick_items {w : World} {b o : Nat} {p : It.Itm → Prop} : ∀ (n : Nat), (∀ i, i < n → ∃ y, It7 w b (o + i * 7) y ∧ p y) → ∃ L : List It.Itm, L.length = n ∧ (∀ k y, L[k]? = some y → It7 w b (o + k * 7) y) ∧ ∀ y ∈ L, p y
  | 0, _ => ⟨[], rfl, fun k y h => by simp at h, fun y h => by cases h⟩
  | n + 1, h => by
    obtain ⟨L, hl, h1, h2⟩ := pick_items n fun i hi => h i (by omega)
    obtain ⟨y, hy, hp⟩ := h n (by omega)
    refine ⟨L ++ [y], by simp [hl], fun k z hz => ?_, fun z hz => ?_⟩
    · rcases Nat.lt_or_ge k L.length with hk | hk
      · rw [List.getElem?_append_left hk] at hz; exact h1 k z hz
      · rw [List.getElem?_append_right hk] at hz
        have hk0 : k = n := by
          have := (List.getElem?_eq_some_iff.1 hz).1
          simp at this; omega
        subst hk0
        rw [hl, Nat.sub_self] at hz
        obtain rfl : y = z := by simpa using hz
        exact hy
    · rcases List.mem_append.1 hz with hz | hz
      · exact h2 z hz
      · obtain rfl : z = y := by simpa using hz
        exact hp
set_option maxRecDepth 100000 in
theorem open_items {H : Type} {enc : TypeId × Value → H} {w : World} {base b0 : Nat} {r : Reach} {sp : Nat → Bool} {held : Bool} {v : Value} {d : DataW H} {p : List MemPlace}
    (hval : Value.okWide Tryz.prog w r b0 22 v) (hd : DataW.Trod enc Tryz.prog w base sp held 22 v d p) :
    ∃ A c n L, v = .slice A n c ∧ L.length = n ∧ Its w A L ∧ n ≤ c ∧ n ≤ maxLen ∧ ∀ y ∈ L, ItemMach y := by
  obtain ⟨a0, n0, c0, rfl⟩ := okWide_slice Tryz.underlying22 hval
  obtain ⟨fuel, hf⟩ := hd
  rcases Go.Deep.open_slice Tryz.underlying22 hf with ⟨h, _⟩ | ⟨a, len, cap, m, f, D, Pl, h, hb, hl, hm, hmm, _, hx⟩
  · simp [Value.cells] at h
    obtain ⟨rfl, rfl, rfl⟩ := h
    exact ⟨none, 0, 0, [], rfl, rfl, .inl rfl, Nat.le_refl _, Nat.zero_le _, fun y h => by cases h⟩
  · simp [Value.cells] at h
    obtain ⟨rfl, rfl, rfl⟩ := h
    have hlm : n0 ≤ m := by rw [hmm]; split <;> omega
    by_cases h0 : n0 = 0
    · subst h0
      exact ⟨some a, c0, 0, [], rfl, rfl, .inl rfl, hl, Nat.zero_le _, fun y h => by cases h⟩
    rw [cI26] at hx
    obtain ⟨b, o, sp'⟩ := a
    have hsp : sp' = none := by
      obtain ⟨cs, hc, _⟩ := hx 0 (by omega)
      obtain ⟨_, hlen, hg⟩ := World.cells?_some hc
      have := hg 0 (by omega)
      rw [List.getElem?_eq_getElem (by omega)] at this
      have := World.cell?_spot this
      simpa [Addr.add] using this
    subst hsp
    obtain ⟨L, hL, h1, h2⟩ := pick_items (w := w) (b := b) (o := o) (p := ItemMach) n0 fun i hi => by
      obtain ⟨cs, hc, ht⟩ := hx i (by omega)
      rw [Go.WideShapes.add_plain] at hc
      exact item_cells hc ht
    refine ⟨some ⟨b, o, none⟩, c0, n0, L, rfl, hL, .inr ⟨b, o, rfl, ?_, h1⟩, hl, by omega, h2⟩
    have h7 := h1 0 _ (List.getElem?_eq_getElem (by omega)) 0 _ rfl
    exact World.block_lt_of_cell? _ _ h7
end Go.Proofs.YtaheiolbeiofpaaGreatDoor
