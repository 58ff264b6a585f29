/-
  Texts of this claim, merged: DmPrB.
-/
import Derived.Test.YtkdgcibkjhhpoaaMg20
import Derived.Lib.AppendZeros
/-
  The walks of the program's layer 9: slices.Clone, slices.Grow and slices.Concat over demands.
-/
namespace Go.Proofs.Ytkdgcibkjhhpoaa
open Go.RowKit

/-- append, at a plain region's list: a row that lies anywhere, or none, onto a slice of the call's own. -/
theorem wpList_append_at {α : Type} (E : Lies α) {P : Program} {w : World} {ops : Array Oper} {rest : List Oper} {o : Oper} {a : Act} {Q : Exit → Act → World → Prop} (hw : Region.wanted o (yielded ops a.tmps) = true) (s x : Operand) (t : TypeId)
    (ho : o.op = .call { callee := .builtin .append, args := #[s, x], argTypes := #[t, t] })
    (base : Nat) (e : TypeId) (i : TypeInfo) (z : Value) (bytes : Nat) (ht : P.underlying t = some (.slice e)) (hi : P.info? e = some i) (hz : i.zero = some z)
    (hsize : i.size = E.m) (hby : i.bytes = bytes) (hzs : z.cells.size = E.m)
    (v : Value) (n : Nat) (xs : List Value) (hs : a.eval s = v) (hown : w.ownsRow base e E.m v n xs)
    (A : Option Addr) (m c : Nat) (L : List α) (hx : a.eval x = .slice A m c) (hL : L.length = m) (hI : E.Row w A L) (hn2 : n + m ≤ 1000000000) (hbytes : (n + m) * bytes ≤ 140737488355328) (hbase : base ≤ w.heap.size)
    (h : ∀ v' w', w'.ownsRow base e E.m v' (n + m) (xs ++ E.all L) → w.grownBy w' v.ownBlock → wpList P ops Q rest (a.put o.dst v') w') : wpList P ops Q (o :: rest) a w := by
  subst hL
  rcases Nat.eq_zero_or_pos L.length with h0 | h0
  · obtain rfl : L = [] := List.eq_nil_of_length_eq_zero h0
    have hrun := run_append_owned_zero (P := P) (w := w) base t o.type e i E.m ht hi v n xs hown A c
    refine BigFrame.wpList_want hw fun _ hK => ?_
    unfold Oper.wp
    simp [execOp, ho, resolve, invoke, builtin, hs, hx, hrun, Result.andThen]
    exact hK _ _ (h v w (by rw [show E.all [] = [] from rfl, List.append_nil]; exact hown) (World.grownBy.refl w _))
  · exact wpList_append_row E w hw s x t ho base e i z bytes ht hi hz hsize hby hzs v n xs hs hown A c L.length L rfl h0 hx hI hn2 hbytes hbase fun g' cap' w' h1 h2 _ => h _ w' h1 h2
/-- Demands that a call leaves in memory of its own. -/
def DemsNew (L : List Dm.Dem) (w : World) (e : Ending) (w' : World) : Prop := ∃ B d, e = .returned (.slice B L.length d) ∧ LDem.Row w' B L ∧ L.length ≤ d ∧ Below w.heap.size w w' ∧ ∀ a, B = some a → w.heap.size ≤ a.block
theorem DemsNew.yes {L : List Dm.Dem} {w : World} {e : Ending} {w' : World} (h : DemsNew L w e w') : DemsYes L w e w' := by
  obtain ⟨B, d, h1, h2, h3, h4, -⟩ := h
  exact ⟨B, d, h1, h2, h3, h4⟩
theorem DemsNew.of_own {L : List Dm.Dem} {w w' : World} {base n : Nat} {v : Value} (h : w'.ownsRow base 32 LDem.m v n (LDem.all L)) (hn : n = L.length) (hb : Below w.heap.size w w') (hbase : w.heap.size ≤ base) : DemsNew L w (.returned v) w' := by
  subst hn
  have hlt := h.lt
  obtain ⟨-, B, d, rfl, hc, hR⟩ := Lies.Row.of_own (E := LDem) h
  exact ⟨B, d, rfl, hR, hc, hb, fun a ha => by
    subst ha
    exact Nat.le_trans hbase (hlt a.block rfl).1⟩
set_option maxHeartbeats 4000000 in
set_option maxRecDepth 100000 in
theorem pdClone_any (A : Option Addr) (c : Nat) (L : List Dm.Dem) (w : World) (h : LDem.Row w A L) (hl : L.length ≤ 1000) :
    Calls Try.prog 19 #[.slice A L.length c] w (DemsNew L w) := by
  --[
  have q22 : ∀ (w : World) (a : Option Addr) (n c n' c' : Nat), (binOp .eql 22 (.slice a n c) (.slice none n' c')).run Try.prog w = .ok (.bool a.isNone) w := fun w a n c n' c' => Lib.run_eql_slice_nil w _ _ a n c n' c' Try.underlying22
  cases A with
  | none =>
    obtain rfl : L = [] := by
      rcases h with h | ⟨b, o, hA, -⟩
      · exact h
      · cases hA
    go_enter Try.func19, Try.ntmps19
    go_wp2_with fail
    go_ret
    exact ⟨none, 0, rfl, .inl rfl, Nat.le_refl _, Below.refl _ _, fun a ha => by cases ha⟩
  | some a =>
    obtain ⟨b, o, sp⟩ := a
    have HB := Lib.hid ((Below.refl w.heap.size w).alloc (Nat.le_refl _) (.cells #[] 32))
    have HR := Lib.hid (h.below rfl HB.out)
    have HO := Lib.hid (owndm_empty w rfl (Nat.le_refl _))
    clear h
    obtain ⟨i0, hi, hz0, hz1, hz2⟩ := info_parts infoDem
    go_enter Try.func19, Try.ntmps19
    go_wp2_with (at_builtin; refine wpList_append_at LDem rfl (.tmp 5) (.tmp 6) 22 rfl w.heap.size 32 i0 _ 16 Try.underlying22 hi hz0 hz1 hz2 rfl (.slice (some ⟨w.heap.size, 0, none⟩) 0 0) 0 [] rfl HO.out (some ⟨b, o, sp⟩) L.length c L rfl rfl HR.out (by omega) (by omega) (by simp) ?_; intro v1 w1 hown hg)
    have HB1 := Lib.hid (Below.grown HB.out hg (by simp) (fun k hk => by cases hk; exact Nat.le_refl _))
    clear hg
    go_wp2_with fail
    go_ret
    exact DemsNew.of_own hown (by omega) HB1.out (Nat.le_refl _)
  --]
/-- A slice of the call's own, empty, with room. -/
def GrownTo (w : World) (e : Ending) (w' : World) : Prop := ∃ cap, e = .returned (.slice (some ⟨w.heap.size, 0, none⟩) 0 cap) ∧ w'.ownsRow w.heap.size 32 2 (.slice (some ⟨w.heap.size, 0, none⟩) 0 cap) 0 [] ∧ Below w.heap.size w w'
set_option maxHeartbeats 4000000 in
set_option maxRecDepth 100000 in
theorem pdGrow_any (n : Nat) (w : World) (h0 : 0 < n) (hl : n ≤ 1000) :
    Calls Try.prog 33 #[.slice none 0 0, .int .i64 n] w (GrownTo w) := by
  --[
  obtain ⟨i0, hi, hz0, hz1, hz2⟩ := info_parts infoDem
  have hr := fun ty => Lib.run_append_nil_zeros (P := Try.prog) w 22 3 ty 32 i0 (.agg #[.int .i64 0, .int .i64 0]) .i64 .i64 Try.underlying22 Try.underlying3 hi hz0 n h0 (by omega) (by omega) (by rw [hz2]; omega)
  have hge := grownCap_ge w n 0 32
  have hmx := grownCap_le_maxLen w n 0 32 (by unfold maxLen; omega)
  generalize grownCap w n 0 32 = G at hr hge hmx
  have hsz : (Builtin.zeroCells (Value.agg #[.int .i64 0, .int .i64 0]).cells n ++ Builtin.zeroCells (Value.agg #[.int .i64 0, .int .i64 0]).cells (G - n)).size = G * 2 := by
    rw [Array.size_append, size_zeroCells, size_zeroCells, show (Value.agg #[.int .i64 0, .int .i64 0]).cells.size = 2 from rfl, ← Nat.add_mul]
    congr 1; omega
  generalize Builtin.zeroCells (Value.agg #[.int .i64 0, .int .i64 0]).cells n ++ Builtin.zeroCells (Value.agg #[.int .i64 0, .int .i64 0]).cells (G - n) = Z at hr hsz
  have HB := Lib.hid ((Below.refl w.heap.size w).drew.alloc (Nat.le_refl _) (.cells Z 32))
  have HO := Lib.hid (show (w.drew.alloc (.cells Z 32)).ownsRow w.heap.size 32 2 (.slice (some ⟨w.heap.size, 0, none⟩) 0 G) 0 [] from
    ⟨rfl, .inr ⟨w.heap.size, G, Z, rfl, Nat.le_refl _, heap_alloc_new w.drew _, Nat.zero_le _, hmx, hsz, by simp⟩⟩)
  have D1 : decide ((n : Int) < 0) = false := dec_f (by omega)
  have D2 : decide ((0 : Int) < (n : Int)) = true := dec_t (by omega)
  have HG : (G : Int) ≤ 9223372036854775807 := by unfold maxLen at hmx; omega
  clear hsz hmx hz1 hz2 hi
  go_enter Try.func33, Try.ntmps33
  go_wp2_with (at_builtin; refine Lib.wpList_append_run _ rfl _ _ _ _ rfl _ _ rfl rfl _ _ (hr _) ?_)
  go_ret
  exact ⟨G, rfl, HO.out, HB.out⟩
  --]
/-- The first rows of some, one behind the other. -/
def Dm.catTo (Ls : Nat → List Dm.Dem) : Nat → List Dm.Dem
  | 0 => []
  | k + 1 => Dm.catTo Ls k ++ Ls k
theorem Dm.catTo_len (Ls : Nat → List Dm.Dem) : ∀ {k m : Nat}, k ≤ m → (Dm.catTo Ls k).length ≤ (Dm.catTo Ls m).length
  | k, 0, h => by obtain rfl : k = 0 := by omega
                  exact Nat.le_refl _
  | k, m + 1, h => by
    rcases Nat.lt_or_ge m k with h2 | h2
    · obtain rfl : k = m + 1 := by omega
      exact Nat.le_refl _
    · have := Dm.catTo_len Ls h2
      rw [show Dm.catTo Ls (m + 1) = Dm.catTo Ls m ++ Ls m from rfl, List.length_append]
      omega
set_option maxHeartbeats 8000000 in
set_option maxRecDepth 100000 in
theorem pdConcat_any (m : Nat) (g : Nat) (As : Nat → Option Addr) (cs : Nat → Nat) (Ls : Nat → List Dm.Dem) (w : World) (hg : g < w.heap.size)
    (hC : ∀ k, k < m → w.cell? ⟨g, k, none⟩ = some (.slice (As k) (Ls k).length (cs k))) (hR : ∀ k, k < m → LDem.Row w (As k) (Ls k)) (hm : m ≤ 1000) (h0 : 0 < (Dm.catTo Ls m).length) (hl : (Dm.catTo Ls m).length ≤ 1000) :
    Calls Try.prog 22 #[.slice (some ⟨g, 0, none⟩) m m] w (DemsNew (Dm.catTo Ls m) w) := by
  --[
  have B0 := Lib.hid (Below.refl w.heap.size w)
  have KC := Lib.hid (fun W (hW : Below w.heap.size w W) k (hk : k < m) => (hW.cell (p := ⟨g, k, none⟩) hg).trans (hC k hk))
  have KR := Lib.hid (fun W (hW : Below w.heap.size w W) k (hk : k < m) => (hR k hk).below rfl hW)
  have KL := Lib.hid (fun k (hk : k ≤ m) => Dm.catTo_len Ls hk)
  clear hC hR
  obtain ⟨i0, hi, hz0, hz1, hz2⟩ := info_parts infoDem
  go_enter Try.func22, Try.ntmps22
  go_wp2_with fail
  go_loopw [3, 5, 11] (fun v1 _ v2 w' => ∃ k : Nat, k ≤ m ∧ v1 = .int .i64 ((Dm.catTo Ls k).length : Int) ∧ v2 = .int .i64 k ∧ Below w.heap.size w w') (fun _ _ v2 _ => m - (intOf v2).toNat)
  case atStart => exact ⟨0, Nat.zero_le _, rfl, rfl, B0.out⟩
  case round =>
    obtain ⟨k, hk, rfl, rfl, hb⟩ := hrel
    have HB := Lib.hid hb
    clear hb
    by_cases hlt : k < m
    · have c0 := KC.out _ HB.out k hlt
      have hk1 := KL.out (k + 1) hlt
      have hk0 := KL.out k hk
      have HL := Lib.hid (show (Dm.catTo Ls (k + 1)).length = (Dm.catTo Ls k).length + (Ls k).length from by rw [show Dm.catTo Ls (k + 1) = Dm.catTo Ls k ++ Ls k from rfl, List.length_append])
      have d1 : decide ((k : Int) < (m : Int)) = true := dec_t (by omega)
      have i0 : (0 : Int) ≤ (k : Int) := Int.natCast_nonneg k
      have i1 : (k : Int) < (m : Int) := by omega
      have q : IntKind.i64.wrap (((Dm.catTo Ls k).length : Int) + ((Ls k).length : Int)) = ((Dm.catTo Ls (k + 1)).length : Int) := by
        have := HL.out
        rw [IntWalk.i64_in _ (by omega)]; omega
      have D2 : decide (((Dm.catTo Ls (k + 1)).length : Int) < 0) = false := dec_f (by omega)
      clear hk1 hk0
      go_wp2_with fail
      go_roundw
      case rel => exact ⟨k + 1, by omega, rfl, by go_num, HB.out⟩
      case measure => simp [intOf]; omega
    · obtain rfl : k = m := by omega
      have d1 : decide ((k : Int) < (k : Int)) = false := dec_f (by omega)
      have CG := Lib.hid (pdGrow_any (Dm.catTo Ls k).length wr h0 hl)
      have HN := Lib.hid h0
      clear h0
      go_wp2_with fail
      refine CG.out.mono ?_; rintro e w2 ⟨cap, rfl, ho, hb2⟩
      have O2 := Lib.hid (show w2.ownsRow wr.heap.size 32 2 (.slice (some ⟨wr.heap.size, 0, none⟩) 0 cap) (Dm.catTo Ls 0).length (LDem.all (Dm.catTo Ls 0)) from ho)
      have B2 := Lib.hid (HB.out.trans (hb2.mono HB.out.size))
      have S2 := Lib.hid hb2.size
      have SZ := Lib.hid HB.out.size
      clear ho hb2 CG
      go_wp2_with fail
      generalize wr.heap.size = base at O2 S2 SZ ⊢
      go_loopw [6, 8, 27] (fun v1 _ v2 w' => ∃ j : Nat, j ≤ k ∧ v2 = .int .i64 j ∧ w'.ownsRow base 32 2 v1 (Dm.catTo Ls j).length (LDem.all (Dm.catTo Ls j)) ∧ base ≤ w'.heap.size ∧ Below w.heap.size w w') (fun _ _ v2 _ => k - (intOf v2).toNat)
      case atStart => exact ⟨0, Nat.zero_le _, rfl, O2.out, S2.out, B2.out⟩
      case round =>
        obtain ⟨j, hj, rfl, ho, hs, hb⟩ := hrel
        have HO := Lib.hid ho
        have HB3 := Lib.hid hb
        have HS3 := Lib.hid hs
        clear ho hb hs
        by_cases hjt : j < k
        · have c0 := KC.out _ HB3.out j hjt
          have hk1 := KL.out (j + 1) hjt
          have HL := Lib.hid (show (Dm.catTo Ls (j + 1)).length = (Dm.catTo Ls j).length + (Ls j).length from by rw [show Dm.catTo Ls (j + 1) = Dm.catTo Ls j ++ Ls j from rfl, List.length_append])
          have HE := Lib.hid (show LDem.all (Dm.catTo Ls (j + 1)) = LDem.all (Dm.catTo Ls j) ++ LDem.all (Ls j) from by rw [show Dm.catTo Ls (j + 1) = Dm.catTo Ls j ++ Ls j from rfl, LDem.all_append])
          have hsum : (Dm.catTo Ls j).length + (Ls j).length ≤ 1000 := by have := HL.out; omega
          have d1 : decide ((j : Int) < (k : Int)) = true := dec_t (by omega)
          have i0' : (0 : Int) ≤ (j : Int) := Int.natCast_nonneg j
          have i1 : (j : Int) < (k : Int) := by omega
          clear hk1
          go_wp2_with (at_builtin; refine wpList_append_at LDem rfl (.tmp 31) (.tmp 32) 22 rfl base 32 i0 _ 16 Try.underlying22 hi hz0 hz1 hz2 rfl _ (Dm.catTo Ls j).length (LDem.all (Dm.catTo Ls j)) rfl HO.out (As j) (Ls j).length (cs j) (Ls j) rfl rfl (KR.out _ HB3.out j hjt) (by omega) (by omega) HS3.out ?_; intro v4 w4 hown4 hg4)
          have HB4 := Lib.hid (Below.grown HB3.out hg4 HB3.out.size (fun b hb => Nat.le_trans SZ.out (HO.out.lt b hb).1))
          have HS4 := Lib.hid (Nat.le_trans HS3.out hg4.size)
          have HO4 := Lib.hid (show w4.ownsRow base 32 2 v4 (Dm.catTo Ls (j + 1)).length (LDem.all (Dm.catTo Ls (j + 1))) from by rw [HL.out, HE.out]; exact hown4)
          clear hown4 hg4
          go_wp2_with fail
          go_roundw
          case rel => exact ⟨j + 1, by omega, by go_num, HO4.out, HS4.out, HB4.out⟩
          case measure => simp [intOf]; omega
        · obtain rfl : j = k := by omega
          have d1 : decide ((j : Int) < (j : Int)) = false := dec_f (by omega)
          go_wp2_with fail
          go_ret
          exact DemsNew.of_own HO.out rfl HB3.out SZ.out
  --]
end Go.Proofs.Ytkdgcibkjhhpoaa
