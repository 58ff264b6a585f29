/-
  Texts of this claim, merged: BsOpen, BsPr.
-/
import Derived.Test.YtfgoakpdfnhddaaDoorMg01
import Derived.Test.YtfgoakpdfnhddaaDoorMg02
import Derived.Deep.CutRange
import Derived.Deep.RegionHeld3
import Derived.Deep.RegionWith
import Derived.Deep.Slices
import Derived.Shelf.Spec.TrailingZeros
/-
  The arguments of layer 13's laws opened: slices of words, slices of bytes, two numbers.
-/
namespace Go.Proofs.YtfgoakpdfnhddaaDoor
open Go.ChangeShapes Go.WideShapes Go.ChangeAt Go.RowKit

theorem okWide_arr {P : Program} {w : World} {r : Reach} {base : Nat} {t : TypeId} {v : Value} {n : Nat} {e : TypeId} (ht : P.underlying t = some (.array n e)) (h : Value.okWide P w r base t v) : ∃ cs, v = .agg cs ∧ cs.size = P.cellsOf t := by
  simp only [Value.okWide, ht] at h
  obtain ⟨cs, h1, h2, _⟩ := h
  exact ⟨cs, h1, h2⟩
theorem cwd13 : Tryd.prog.cellsOf 37 = 1 := by kernel_rfl
theorem cint13 : Tryd.prog.cellsOf 3 = 1 := by kernel_rfl
theorem cbyte13 : Tryd.prog.cellsOf 5 = 1 := by kernel_rfl
theorem cints13 : Tryd.prog.cellsOf 23 = 2 := by kernel_rfl
/-- Things of so many cells, one behind the other, each that reads as one. -/
theorem pick_row {α : Type} {E : Lies α} {Q : α → Prop} {w : World} {b o : Nat} : ∀ (n : Nat), (∀ i, i < n → ∃ y, E.On w b (o + i * E.m) y ∧ Q y) → ∃ L : List α, L.length = n ∧ (∀ k y, L[k]? = some y → E.On w b (o + k * E.m) y) ∧ ∀ y ∈ L, Q y
  | 0, _ => ⟨[], rfl, (fun k y h => by simp at h), (fun y h => by cases h)⟩
  | n + 1, h => by
    obtain ⟨L, hl, h1, h2⟩ := pick_row (Q := Q) n fun i hi => h i (by omega)
    obtain ⟨y, hy, hq⟩ := h n (by omega)
    refine ⟨L ++ [y], by simp [hl], fun k z hz => ?_, fun z hz => ?_⟩
    · rcases Nat.lt_or_ge k L.length with hk | hk
      · rw [List.getElem?_append_left hk] at hz; exact h1 k z hz
      · rw [List.getElem?_append_right hk] at hz
        have hk0 : k = n := by
          have := (List.getElem?_eq_some_iff.1 hz).1
          simp at this; omega
        subst hk0
        rw [hl, Nat.sub_self] at hz
        obtain rfl : y = z := by simpa using hz
        exact hy
    · rcases List.mem_append.1 hz with hz | hz
      · exact h2 z hz
      · obtain rfl : z = y := by simpa using hz
        exact hq
set_option maxRecDepth 100000 in
/-- A slice that reads as one: its elements lie in a row, each as it must be. -/
theorem open_row {α : Type} (E : Lies α) {Q : α → Prop} {e t : TypeId} (hu : Tryd.prog.underlying t = some (.slice e)) (hce : Tryd.prog.cellsOf e = E.m)
    {H : Type} {enc : TypeId × Value → H} {w : World} {base b0 : Nat} {r : Reach} {sp : Nat → Bool} {held : Bool} {v : Value} {d : DataW H} {p : List MemPlace}
    (hone : ∀ {base fuel b o cs} {x : DataW H × List MemPlace}, w.cells? base ⟨b, o, none⟩ E.m = some cs → DataW.trod enc Tryd.prog w base sp held fuel e cs = some x → ∃ y, E.On w b o y ∧ Q y)
    (hval : Value.okWide Tryd.prog w r b0 t v) (hd : DataW.Trod enc Tryd.prog w base sp held t v d p) :
    ∃ A c n L, v = .slice A n c ∧ L.length = n ∧ E.Row w A L ∧ n ≤ c ∧ n ≤ maxLen ∧ ∀ y ∈ L, Q y := by
  obtain ⟨a0, n0, c0, rfl⟩ := okWide_slice hu hval
  obtain ⟨fuel, hf⟩ := hd
  rcases Go.Deep.open_slice hu hf with ⟨h, _⟩ | ⟨a, len, cap, m, f, D, Pl, h, hb, hl, hm, hmm, _, hx⟩
  · simp [Value.cells] at h
    obtain ⟨rfl, rfl, rfl⟩ := h
    exact ⟨none, 0, 0, [], rfl, rfl, .inl rfl, Nat.le_refl _, Nat.zero_le _, fun y h => by cases h⟩
  · simp [Value.cells] at h
    obtain ⟨rfl, rfl, rfl⟩ := h
    have hlm : n0 ≤ m := by rw [hmm]; split <;> omega
    by_cases h0 : n0 = 0
    · subst h0
      exact ⟨some a, c0, 0, [], rfl, rfl, .inl rfl, hl, Nat.zero_le _, fun y h => by cases h⟩
    rw [hce] at hx
    have hp := E.pos
    obtain ⟨b, o, sp'⟩ := a
    have hsp : sp' = none := by
      obtain ⟨cs, hc, _⟩ := hx 0 (by omega)
      obtain ⟨_, hlen, hg⟩ := World.cells?_some hc
      have := hg 0 (by omega)
      rw [List.getElem?_eq_getElem (by omega)] at this
      have := World.cell?_spot this
      simpa [Addr.add] using this
    subst hsp
    obtain ⟨L, hL, h1, h2⟩ := pick_row (E := E) (Q := Q) (w := w) (b := b) (o := o) n0 fun i hi => by
      obtain ⟨cs, hc, ht⟩ := hx i (by omega)
      rw [Go.WideShapes.add_plain] at hc
      exact hone hc ht
    refine ⟨some ⟨b, o, none⟩, c0, n0, L, rfl, hL, .inr ⟨b, o, rfl, ?_, h1⟩, hl, by omega, h2⟩
    have hy : L[0]? = some L[0] := List.getElem?_eq_getElem (by omega)
    have h7 := h1 0 _ hy 0 ((E.enc L[0])[0]'(by rw [E.len]; exact hp)) (List.getElem?_eq_getElem _)
    exact World.block_lt_of_cell? _ _ h7
set_option maxRecDepth 100000 in
theorem wd_cells {H : Type} {enc : TypeId × Value → H} {w : World} {base : Nat} {sp : Nat → Bool} {held : Bool} {fuel : Nat} {b o : Nat} {cs : List Value} {x : DataW H × List MemPlace}
    (hc : w.cells? base ⟨b, o, none⟩ 1 = some cs) (hf : DataW.trod enc Tryd.prog w base sp held fuel 37 cs = some x) : ∃ y, LWd.On w b o y ∧ y < 4294967296 := by
  obtain ⟨k, rfl, _, wk⟩ := DataW.trod_int Tryd.underlying37 hf
  have bk := wf_u32 wk
  obtain ⟨m, rfl⟩ : ∃ m : Nat, k = (m : Int) := ⟨k.toNat, by omega⟩
  refine ⟨m, fun j v hv => ?_, by omega⟩
  have hj : j < 1 := by
    have := (List.getElem?_eq_some_iff.1 hv).1
    rwa [LWd.len] at this
  obtain ⟨_, _, hg⟩ := World.cells?_some hc
  have := hg j hj
  rw [Go.WideShapes.add_plain] at this
  rw [this]
  exact hv
set_option maxRecDepth 100000 in
theorem bt_cells {H : Type} {enc : TypeId × Value → H} {w : World} {base : Nat} {sp : Nat → Bool} {held : Bool} {fuel : Nat} {b o : Nat} {cs : List Value} {x : DataW H × List MemPlace}
    (hc : w.cells? base ⟨b, o, none⟩ 1 = some cs) (hf : DataW.trod enc Tryd.prog w base sp held fuel 5 cs = some x) : ∃ y, LBt.On w b o y ∧ y < 256 := by
  obtain ⟨k, rfl, _, wk⟩ := DataW.trod_int Tryd.underlying5 hf
  have bk := wf_u8 wk
  obtain ⟨m, rfl⟩ : ∃ m : Nat, k = (m : Int) := ⟨k.toNat, by omega⟩
  refine ⟨m, fun j v hv => ?_, by omega⟩
  have hj : j < 1 := by
    have := (List.getElem?_eq_some_iff.1 hv).1
    rwa [LBt.len] at this
  obtain ⟨_, _, hg⟩ := World.cells?_some hc
  have := hg j hj
  rw [Go.WideShapes.add_plain] at this
  rw [this]
  exact hv
set_option maxRecDepth 100000 in
theorem open_words {H : Type} {enc : TypeId × Value → H} {w : World} {base b0 : Nat} {r : Reach} {sp : Nat → Bool} {held : Bool} {v : Value} {d : DataW H} {p : List MemPlace}
    (hval : Value.okWide Tryd.prog w r b0 22 v) (hd : DataW.Trod enc Tryd.prog w base sp held 22 v d p) :
    ∃ A c n L, v = .slice A n c ∧ L.length = n ∧ LWd.Row w A L ∧ n ≤ c ∧ n ≤ maxLen ∧ ∀ y ∈ L, y < 4294967296 :=
  open_row LWd (Q := fun y => y < 4294967296) Tryd.underlying22 cwd13 (fun hc hf => wd_cells hc hf) hval hd
set_option maxRecDepth 100000 in
theorem open_bytes {H : Type} {enc : TypeId × Value → H} {w : World} {base b0 : Nat} {r : Reach} {sp : Nat → Bool} {held : Bool} {v : Value} {d : DataW H} {p : List MemPlace}
    (hval : Value.okWide Tryd.prog w r b0 34 v) (hd : DataW.Trod enc Tryd.prog w base sp held 34 v d p) :
    ∃ A c n L, v = .slice A n c ∧ L.length = n ∧ LBt.Row w A L ∧ n ≤ c ∧ n ≤ maxLen ∧ ∀ y ∈ L, y < 256 :=
  open_row LBt (Q := fun y => y < 256) Tryd.underlying34 cbyte13 (fun hc hf => bt_cells hc hf) hval hd
set_option maxRecDepth 100000 in
theorem open_ints2 {H : Type} {enc : TypeId × Value → H} {w : World} {base b0 : Nat} {r : Reach} {sp : Nat → Bool} {held : Bool} {v : Value} {d : DataW H} {p : List MemPlace}
    (hval : Value.okWide Tryd.prog w r b0 23 v) (hd : DataW.Trod enc Tryd.prog w base sp held 23 v d p) : ∃ a b : Int, v = .agg #[.int .i64 a, .int .i64 b] ∧ (-9223372036854775808 ≤ a ∧ a ≤ 9223372036854775807) ∧ -9223372036854775808 ≤ b ∧ b ≤ 9223372036854775807 := by
  obtain ⟨cs, rfl, _⟩ := okWide_arr Tryd.underlying23 hval
  obtain ⟨fuel, hf⟩ := hd
  obtain ⟨xs, f, _, _, hl, hlen, hi⟩ := DataW.trod_array Tryd.underlying23 hf
  obtain ⟨l⟩ := cs
  rw [cints13] at hl
  match l, hl with
  | [c0, c1], _ =>
    match xs, hlen with
    | [y0, y1], _ =>
      have h0 := hi 0 (by omega)
      have h1 := hi 1 (by omega)
      simp [cint13, Value.cells] at h0 h1
      obtain ⟨k, hk, _, h3⟩ := DataW.trod_int Tryd.underlying3 h0
      obtain ⟨m, hm, _, h4⟩ := DataW.trod_int Tryd.underlying3 h1
      simp only [List.cons.injEq, and_true] at hk hm
      subst hk hm
      exact ⟨k, m, rfl, wf_i64 h3, wf_i64 h4⟩
end Go.Proofs.YtfgoakpdfnhddaaDoor
/-
  The walks of the program's layer 13: whether a set has a bit for a number, the bit, how many bits are 0 ahead of the lowest; Has, New.
-/
namespace Go.Proofs.YtfgoakpdfnhddaaDoor
open Go.RowKit

set_option maxHeartbeats 4000000 in
set_option maxRecDepth 100000 in
theorem bpBit_any (k : Nat) (w : World) : Calls Tryd.prog 24 #[.int .i64 k] w fun e w' => e = .returned (.int .u32 ((2 ^ (k % 32) : Nat) : Int)) ∧ w' = w := by
  --[
  have Q := Lib.hid (Bs.shl_mod (k % 32) (Nat.mod_lt _ (by decide)))
  have q1 : (k : Int).tmod 32 = ((k % 32 : Nat) : Int) := by rw [Int.tmod_eq_emod_of_nonneg (Int.natCast_nonneg k)]; omega
  have i0 : (0 : Int) ≤ ((k % 32 : Nat) : Int) := Int.natCast_nonneg _
  go_enter Tryd.func24, Tryd.ntmps24
  go_wp2_with fail
  go_ret
  exact ⟨by rw [← Q.out] <;> rfl, rfl⟩
  --]
set_option maxHeartbeats 4000000 in
set_option maxRecDepth 100000 in
theorem bpFits_any (A : Option Addr) (c : Nat) (L : List Nat) (n : Int) (w : World) (h0 : -9223372036854775808 ≤ n ∧ n ≤ 9223372036854775807) (_hl : L.length ≤ 1000000000) :
    Calls Tryd.prog 23 #[.slice A L.length c, .int .i64 n] w fun e w' => e = .returned (.bool (Bs.fits L n)) ∧ w' = w := by
  --[
  by_cases hn : 0 ≤ n
  · obtain ⟨k, rfl⟩ : ∃ k : Nat, n = (k : Int) := ⟨n.toNat, by omega⟩
    have d0 : decide ((0 : Int) ≤ (k : Int)) = true := dec_t hn
    have q : IntKind.i64.wrap ((k : Int).tdiv 32) = ((k / 32 : Nat) : Int) := by
      rw [Int.tdiv_eq_ediv_of_nonneg hn, IntWalk.i64_in _ (by omega)]; omega
    have E : Bs.fits L (k : Int) = decide (((k / 32 : Nat) : Int) < (L.length : Int)) := by
      unfold Bs.fits
      rw [d0, Bool.true_and, Int.toNat_natCast]
      congr 1
      rw [eq_iff_iff]; omega
    have HE := Lib.hid E
    clear E
    go_enter Tryd.func23, Tryd.ntmps23
    go_wp2_with fail
    go_ret
    exact ⟨by rw [HE.out] <;> rfl, rfl⟩
  · have d0 : decide ((0 : Int) ≤ n) = false := dec_f hn
    have HE := Lib.hid (show Bs.fits L n = false from by unfold Bs.fits; rw [d0]; rfl)
    clear hn
    go_enter Tryd.func23, Tryd.ntmps23
    go_wp2_with fail
    go_ret
    exact ⟨by rw [HE.out] <;> rfl, rfl⟩
  --]
/-- The library's table is as it lays it. -/
def BitTab (w : World) : Prop := ∀ j, j < 32 → w.cell? ⟨0, j, none⟩ = some (.int .u8 (Lib.deBruijn32tab.getD j 0 : Nat))
theorem BitTab.below {w w' : World} {B : Nat} (h : BitTab w) (hB : B = w.heap.size) (hb : Below B w w') : BitTab w' := fun j hj => by
  subst hB
  rw [hb.cell (World.block_lt_of_cell? _ _ (h j hj))]; exact h j hj
set_option maxHeartbeats 4000000 in
set_option maxRecDepth 100000 in
theorem bpZeros_core (x k idx : Nat) (w : World) (hx0 : ((x : Int) == 0) = false)
    (key : bits BinOp.and IntKind.u32 (x : Int) (-(x : Int) % 4294967296) * 125613361 % 4294967296 / 134217728 = (idx : Int))
    (hi : idx < 32) (hk : k < 32) (hcell : w.cell? ⟨0, idx, none⟩ = some (.int .u8 k)) :
    Calls Tryd.prog 25 #[.int .u32 x] w fun e w' => e = .returned (.int .i64 k) ∧ w' = w := by
  --[
  go_enter Tryd.func25, Tryd.ntmps25
  go_wp2_with (simp only [key])
  go_ret
  exact ⟨rfl, rfl⟩
  --]
theorem bpZeros_any (x : Nat) (hx0 : x ≠ 0) (hx : x < 4294967296) (w : World) (hT : BitTab w) :
    Calls Tryd.prog 25 #[.int .u32 x] w fun e w' => e = .returned (.int .i64 (Lib.ctz 32 x : Nat)) ∧ w' = w := by
  obtain ⟨hlow, hk⟩ := Lib.lowest_bit 32 x hx0 hx
  obtain ⟨hi, htab⟩ := Lib.deBruijn32_at _ hk
  have hcell := hT _ hi
  rw [htab] at hcell
  exact bpZeros_core x _ _ w (by simp; omega) (tz32_key x _ hx hx0 hlow) hi hk hcell
set_option maxHeartbeats 4000000 in
set_option maxRecDepth 100000 in
theorem bpHas_any (A : Option Addr) (c : Nat) (L : List Nat) (n : Int) (w : World) (h0 : -9223372036854775808 ≤ n ∧ n ≤ 9223372036854775807) (h : LWd.Row w A L) (hw : Bs.W32 L) (hl : L.length ≤ 1000000000) :
    Calls Tryd.prog 14 #[.slice A L.length c, .int .i64 n] w fun e w' => e = .returned (.bool (Bs.has L n)) ∧ ∃ q, w' = w.drewN q := by
  --[
  have CF := Lib.hid (fun W => bpFits_any A c L n W h0 hl)
  by_cases hf : Bs.fits L n = true
  · obtain ⟨hn, hk⟩ := Bs.fits_iff.1 hf
    obtain ⟨k, rfl⟩ : ∃ k : Nat, n = (k : Int) := ⟨n.toNat, by omega⟩
    rw [Int.toNat_natCast] at hk
    rw [hf] at CF
    obtain ⟨b, o, rfl, hb, hc⟩ := wd_at h hk
    have hv := hw.at (k / 32)
    have HE := Lib.hid (show Bs.has L (k : Int) = (L.getD (k / 32) 0).testBit (k % 32) from by
      unfold Bs.has
      rw [decide_eq_true hn, Bool.true_and, Int.toNat_natCast])
    generalize L.getD (k / 32) 0 = v at hc hv HE
    have CB := Lib.hid (fun W => bpBit_any k W)
    have q : IntKind.i64.wrap ((k : Int).tdiv 32) = ((k / 32 : Nat) : Int) := by
      rw [Int.tdiv_eq_ediv_of_nonneg hn, IntWalk.i64_in _ (by omega)]; omega
    have q2 : (k : Int) / 32 = ((k / 32 : Nat) : Int) := by omega
    have q3 : IntKind.i64.wrap ((k : Int) / 32) = ((k / 32 : Nat) : Int) := by rw [IntWalk.i64_in _ (by omega)]; omega
    have i0 : (0 : Int) ≤ ((k / 32 : Nat) : Int) := Int.natCast_nonneg _
    have i1 : ((k / 32 : Nat) : Int) < (L.length : Int) := by omega
    have HB := Lib.hid (Bs.and_bit v hv (k % 32) (Nat.mod_lt _ (by decide)))
    generalize k / 32 = i at q q2 q3 i0 i1 hc HE
    generalize ((2 ^ (k % 32) : Nat) : Int) = z at CB HB
    clear hf hk h hw hn
    go_enter Tryd.func14, Tryd.ntmps14
    go_upto_region 1 with fail
    go_quiet (first
      | (go_at_call 23; exact Calls.quiet_of_same (CF.out _))
      | (go_at_call 24; exact Calls.quiet_of_same (CB.out _)))
    go_wp2_with fail
    go_ret
    exact ⟨by rw [HE.out, ← HB.out] <;> rfl, _, rfl⟩
  · have hf2 : Bs.fits L n = false := by simpa using hf
    rw [hf2] at CF
    have HE := Lib.hid (show Bs.has L n = false from by
      rcases Bool.eq_false_or_eq_true (Bs.has L n) with e | e
      · exact absurd (Bs.has_fits e) hf
      · exact e)
    clear hf hf2 h hw
    go_enter Tryd.func14, Tryd.ntmps14
    go_upto_region 1 with fail
    go_quiet (first
      | (go_at_call 23; exact Calls.quiet_of_same (CF.out _)))
    go_wp2_with fail
    go_ret
    exact ⟨by rw [HE.out] <;> rfl, _, rfl⟩
  --]
end Go.Proofs.YtfgoakpdfnhddaaDoor
