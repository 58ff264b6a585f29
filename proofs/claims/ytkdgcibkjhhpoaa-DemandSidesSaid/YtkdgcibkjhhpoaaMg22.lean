/-
  Texts of this claim, merged: DmPrC.
-/
import Derived.Test.YtkdgcibkjhhpoaaMg21
import Derived.Deep.RegionHeld3
/-
  The walk of the program's layer 9: demands with one more.
-/
namespace Go.Proofs.Ytkdgcibkjhhpoaa
open Go.RowKit

theorem pdConcat3 {g : Nat} {A1 A2 A3 : Option Addr} {c1 c2 c3 : Nat} {n1 n2 n3 : Nat} {w : World} (L1 L2 L3 : List Dm.Dem) (h1 : L1.length = n1) (h2 : L2.length = n2) (h3 : L3.length = n3)
    (hb : w.heap[g]? = some (.cells #[.slice A1 n1 c1, .slice A2 n2 c2, .slice A3 n3 c3] 22 (0, 0)))
    (r1 : LDem.Row w A1 L1) (r2 : LDem.Row w A2 L2) (r3 : LDem.Row w A3 L3) (h0 : 0 < n2) (hl : n1 + n2 + n3 ≤ 1000) :
    Calls Try.prog 22 #[.slice (some ⟨g, 0, none⟩) 3 3] w (DemsNew (L1 ++ L2 ++ L3) w) := by
  subst h1 h2 h3
  let As : Nat → Option Addr := fun | 0 => A1 | 1 => A2 | _ => A3
  let cs : Nat → Nat := fun | 0 => c1 | 1 => c2 | _ => c3
  let Ls : Nat → List Dm.Dem := fun | 0 => L1 | 1 => L2 | _ => L3
  have e : Dm.catTo Ls 3 = L1 ++ L2 ++ L3 := by
    show (([] ++ L1) ++ L2) ++ L3 = _
    rw [List.nil_append]
  have hlen : (L1 ++ L2 ++ L3).length = L1.length + L2.length + L3.length := by rw [List.length_append, List.length_append]
  have := pdConcat_any 3 g As cs Ls w (Array.getElem?_eq_some_iff.1 hb).1 (fun k hk => by
      match k, hk with
      | 0, _ => exact cell_of_row w g 0 _ _ _ hb
      | 1, _ => exact cell_of_row w g 1 _ _ _ hb
      | 2, _ => exact cell_of_row w g 2 _ _ _ hb)
    (fun k hk => by
      match k, hk with
      | 0, _ => exact r1
      | 1, _ => exact r2
      | 2, _ => exact r3) (by omega) (by rw [e, hlen]; omega) (by rw [e, hlen]; omega)
  rw [e] at this
  exact this
theorem put_call (w3 : World) (x0 x1 : Int) {A1 A3 : Option Addr} {c1 c3 : Nat} (L1 L3 : List Dm.Dem) {n1 n3 : Nat} (h1 : L1.length = n1) (h3 : L3.length = n3) (r1 : LDem.Row w3 A1 L1) (r3 : LDem.Row w3 A3 L3) (hl : n1 + n3 ≤ 900) :
    Calls Try.prog 22 #[.slice (some ⟨w3.heap.size + 1, 0, none⟩) 3 3]
      ((w3.alloc (.cells #[.int .i64 x0, .int .i64 x1] 32)).alloc (.cells #[.slice A1 n1 c1, .slice (some ⟨w3.heap.size, 0, none⟩) 1 1, .slice A3 n3 c3] 22)).drew fun e w' => ∃ N B d, e = .returned (.slice B N d) ∧ N = (L1 ++ [(⟨x0, x1⟩ : Dm.Dem)] ++ L3).length ∧ LDem.Row w' B (L1 ++ [(⟨x0, x1⟩ : Dm.Dem)] ++ L3) ∧ (L1 ++ [(⟨x0, x1⟩ : Dm.Dem)] ++ L3).length ≤ d ∧ Below w3.heap.size w3 w' ∧ ∀ a, B = some a → w3.heap.size ≤ a.block := by
  have a0 := (Below.refl w3.heap.size w3).alloc (Nat.le_refl _) (.cells #[.int .i64 x0, .int .i64 x1] 32)
  have a1 := (a0.alloc a0.size (.cells #[.slice A1 n1 c1, .slice (some ⟨w3.heap.size, 0, none⟩) 1 1, .slice A3 n3 c3] 22)).drew
  have o2 := (World.ownsRow.alloc (owndm_one w3 ⟨x0, x1⟩ (g := w3.heap.size) (base := w3.heap.size) rfl (Nat.le_refl _)) (.cells #[.slice A1 n1 c1, .slice (some ⟨w3.heap.size, 0, none⟩) 1 1, .slice A3 n3 c3] 22)).drew
  have hb := heap_alloc_new (w3.alloc (.cells #[.int .i64 x0, .int .i64 x1] 32)) (.cells #[.slice A1 n1 c1, .slice (some ⟨w3.heap.size, 0, none⟩) 1 1, .slice A3 n3 c3] 22)
  rw [show (w3.alloc (.cells #[.int .i64 x0, .int .i64 x1] 32)).heap.size = w3.heap.size + 1 by simp] at hb
  refine (pdConcat3 (n2 := 1) (w := ((w3.alloc (.cells #[.int .i64 x0, .int .i64 x1] 32)).alloc (.cells #[.slice A1 n1 c1, .slice (some ⟨w3.heap.size, 0, none⟩) 1 1, .slice A3 n3 c3] 22)).drew) L1 [⟨x0, x1⟩] L3 h1 rfl h3 hb (r1.below rfl a1) (OwnDm.row o2) (r3.below rfl a1) (by omega) (by omega)).mono ?_
  rintro e w' ⟨B, d, rfl, hR, hd, hb', hnew⟩
  exact ⟨_, B, d, rfl, rfl, hR, hd, a1.trans (hb'.mono a1.size), fun a ha => Nat.le_trans a1.size (hnew a ha)⟩
namespace Dm
theorem tw_len {α : Type} {p : α → Bool} : ∀ {L : List α} {k : Nat} {y : α}, L[k]? = some y → p y = false → (∀ j < k, ∀ t, L[j]? = some t → p t = true) → (L.takeWhile p).length = k
  | [], k, y, h, _, _ => by simp at h
  | x :: L, 0, y, h, hy, _ => by
    obtain rfl : x = y := by simpa using h
    rw [List.takeWhile_cons, if_neg (by rw [hy]; decide)]; rfl
  | x :: L, k + 1, y, h, hy, hb => by
    have hx := hb 0 (by omega) x rfl
    rw [List.takeWhile_cons, if_pos hx, List.length_cons]
    congr 1
    exact tw_len (L := L) (by simpa using h) hy fun j hj t ht => hb (j + 1) (by omega) t (by simpa using ht)
theorem tw_all {α : Type} {p : α → Bool} {L : List α} (h : ∀ x ∈ L, p x = true) : (L.takeWhile p).length = L.length := by
  induction L with
  | nil => rfl
  | cons y L ih =>
    rw [List.takeWhile_cons, if_pos (h y (List.mem_cons_self ..)), List.length_cons, List.length_cons, ih fun x hx => h x (List.mem_cons_of_mem _ hx)]
theorem low_not {k : Int} {x : Dem} : low k x = !decide (k ≤ x.pt) := by
  unfold low
  by_cases h : x.pt < k
  · rw [decide_eq_true h, decide_eq_false (by omega)]; rfl
  · rw [decide_eq_false h, decide_eq_true (by omega)]; rfl
end Dm
set_option maxHeartbeats 16000000 in
set_option maxRecDepth 100000 in
theorem pdPut_new (A : Option Addr) (c : Nat) (L : List Dm.Dem) (x : Dm.Dem) (w : World) (h : LDem.Row w A L) (hl : L.length ≤ 900) (hc : L.length ≤ c) :
    Calls Try.prog 11 #[.slice A L.length c, demV x] w (DemsNew (Dm.put L x) w) := by
  --[
  obtain ⟨x0, x1⟩ := x
  have XX := (Below.refl w.heap.size w).alloc (Nat.le_refl _) (.cells #[.int .i64 x0, .int .i64 x1] 32)
  have X0 := Lib.hid XX
  have RX := Lib.hid (heap_alloc_new w (.cells #[.int .i64 x0, .int .i64 x1] 32))
  have HR := Lib.hid (h.below rfl XX)
  have CP := Lib.hid (pdPosition_any A c L x0 _ HR.out (by omega))
  clear h XX
  by_cases h0 : Dm.posOf L x0 = 0
  · rw [h0] at CP
    have P := Lib.hid (Dm.put_free (x := ⟨x0, x1⟩) h0)
    clear h0
    go_enter Try.func11, Try.ntmps11
    go_upto_region 1 with fail
    generalize w.alloc (.cells #[.int .i64 x0, .int .i64 x1] 32) = w1 at X0 RX HR CP ⊢
    generalize w.heap.size = gx at RX ⊢
    have gl := (Array.getElem?_eq_some_iff.1 RX.out).1
    obtain ⟨t0, t1⟩ := cell_posn RX.out
    have KX := Lib.hid (fun W' (hW : Below w1.heap.size w1 W') => (hW.block _ gl).trans RX.out)
    go_wp2_with fail
    refine CP.out.mono ?_; rintro e w2 ⟨rfl, hb2⟩
    have B2 := Lib.hid hb2
    have CI := Lib.hid (pIndexPut A c L (fun y => decide (x0 ≤ y.pt)) gx w2 (HR.out.below rfl hb2) (by omega) fun y W hW => pPutHit y x0 gx W (Nat.lt_of_lt_of_le gl (hb2.trans (hW.mono hb2.size)).size) (cell_posn (KX.out W (hb2.trans (hW.mono hb2.size)))).1)
    obtain ⟨t0', t1'⟩ := cell_posn (KX.out _ hb2)
    clear hb2 t0 t1 CP
    go_wp2_with fail
    refine CI.out.mono ?_; rintro e w3 ⟨i, rfl, hi, hb3⟩
    have B3 := Lib.hid (B2.out.trans (hb3.mono B2.out.size))
    clear hb3 CI t0' t1' B2
    have PRE := Lib.hid (cell_posn (KX.out _ B3.out))
    have RW := Lib.hid (fun W (hW : Below w3.heap.size w3 W) => HR.out.below rfl (B3.out.trans (hW.mono B3.out.size)))
    have KS := Lib.hid (fun W (hW : Below w3.heap.size w3 W) => cell_posn (KX.out _ (B3.out.trans (hW.mono B3.out.size))))
    have T0 := Lib.hid (Below.refl w3.heap.size w3)
    have gx3 : gx < w3.heap.size := Nat.lt_of_lt_of_le gl B3.out.size
    have XZ := Lib.hid (Nat.le_trans X0.out.size B3.out.size)
    have XF := Lib.hid (fun W (hW : Below w3.heap.size w3 W) => X0.out.trans ((B3.out.trans (hW.mono B3.out.size)).mono X0.out.size))
    clear KX gl
    rcases hi with ⟨rfl, hn⟩ | ⟨k, y, rfl, hk, hy, hb⟩
    · have hk : (L.takeWhile (Dm.low x0)).length = L.length := Dm.tw_all fun y hy => by have h7 : decide (x0 ≤ y.pt) = false := hn y hy; rw [Dm.low_not, h7]; rfl
      have PK := Lib.hid (show Dm.put L ⟨x0, x1⟩ = L ++ [⟨x0, x1⟩] ++ [] from by
        rw [P.out, hk, List.take_length, List.drop_length, List.append_nil])
      have D1 : decide ((-1 : Int) < 0) = true := by decide
      have i0 : (0 : Int) ≤ (L.length : Int) := Int.natCast_nonneg _
      have lc : (L.length : Int) ≤ (c : Int) := by omega
      clear hk hn P
      cases A with
      | none =>
        go_upto_region 6 with fail
        obtain ⟨t0, t1⟩ := PRE.out
        go_region_held3 (fun W => W.cell? ⟨gx, 0, none⟩ = some (.int .i64 x0) ∧ W.cell? ⟨gx, 1, none⟩ = some (.int .i64 x1))
          (first | with_reducible exact KS.out _ T0.out.drew | with_reducible exact KS.out _ h9 | (go_keep; done))
          (first | (go_at_call 22; refine (put_call w3 x0 x1 L [] rfl rfl (RW.out _ T0.out) (.inl rfl) (by omega)).mono ?_; rintro e9 w9 ⟨N9, B9, d9, rfl, hN9, hR9, hd9, h9, hw9⟩; have HN9 := Lib.hid hN9; have HW9 := Lib.hid hw9; clear hN9 hw9))
        all_goals go_wp2_with fail
        all_goals go_ret
        all_goals (rw [PK.out]; exact ⟨B9, d9, by rw [← HN9.out] <;> rfl, hR9, hd9, XF.out _ h9, fun a ha => Nat.le_trans XZ.out (HW9.out a ha)⟩)
      | some a =>
        obtain ⟨b, o, sp⟩ := a
        by_cases hck : c = L.length
        · subst hck
          go_upto_region 6 with fail
          obtain ⟨t0, t1⟩ := PRE.out
          go_region_held3 (fun W => W.cell? ⟨gx, 0, none⟩ = some (.int .i64 x0) ∧ W.cell? ⟨gx, 1, none⟩ = some (.int .i64 x1))
            (first | with_reducible exact KS.out _ T0.out.drew | with_reducible exact KS.out _ h9 | (go_keep; done))
            (first | (go_at_call 22; refine (put_call w3 x0 x1 L [] rfl rfl (RW.out _ T0.out) (.inl rfl) (by omega)).mono ?_; rintro e9 w9 ⟨N9, B9, d9, rfl, hN9, hR9, hd9, h9, hw9⟩; have HN9 := Lib.hid hN9; have HW9 := Lib.hid hw9; clear hN9 hw9))
          all_goals go_wp2_with fail
          all_goals go_ret
          all_goals (rw [PK.out]; exact ⟨B9, d9, by rw [← HN9.out] <;> rfl, hR9, hd9, XF.out _ h9, fun a ha => Nat.le_trans XZ.out (HW9.out a ha)⟩)
        ·
          go_upto_region 6 with fail
          obtain ⟨t0, t1⟩ := PRE.out
          go_region_held3 (fun W => W.cell? ⟨gx, 0, none⟩ = some (.int .i64 x0) ∧ W.cell? ⟨gx, 1, none⟩ = some (.int .i64 x1))
            (first | with_reducible exact KS.out _ T0.out.drew | with_reducible exact KS.out _ h9 | (go_keep; done))
            (first | (go_at_call 22; refine (put_call w3 x0 x1 L [] rfl rfl (RW.out _ T0.out) (.inl rfl) (by omega)).mono ?_; rintro e9 w9 ⟨N9, B9, d9, rfl, hN9, hR9, hd9, h9, hw9⟩; have HN9 := Lib.hid hN9; have HW9 := Lib.hid hw9; clear hN9 hw9))
          all_goals go_wp2_with fail
          all_goals go_ret
          all_goals (rw [PK.out]; exact ⟨B9, d9, by rw [← HN9.out] <;> rfl, hR9, hd9, XF.out _ h9, fun a ha => Nat.le_trans XZ.out (HW9.out a ha)⟩)
    · have hkl := (List.getElem?_eq_some_iff.1 hk).1
      have PK := Lib.hid (show Dm.put L ⟨x0, x1⟩ = L.take k ++ [⟨x0, x1⟩] ++ L.drop k from by
        rw [P.out, Dm.tw_len hk (show Dm.low x0 y = false by have h7 : decide (x0 ≤ y.pt) = true := hy; rw [Dm.low_not, h7]; rfl) (fun j hj t ht => by have h7 : decide (x0 ≤ t.pt) = false := hb j hj t ht; rw [Dm.low_not, h7]; rfl), List.append_assoc]; rfl)
      obtain ⟨b, o, rfl, -, -⟩ := HR.out.at hkl
      have D1 : decide ((k : Int) < 0) = false := dec_f (by omega)
      have i0 : (0 : Int) ≤ (k : Int) := Int.natCast_nonneg k
      have ic : (k : Int) ≤ (c : Int) := by omega
      have il : (k : Int) ≤ (L.length : Int) := by omega
      have lc : (L.length : Int) ≤ (c : Int) := by omega
      have ic' : k ≤ c := by omega
      have hck : ¬ c = k := by omega
      clear hk hy hb P
      go_upto_region 6 with fail
      obtain ⟨t0, t1⟩ := PRE.out
      go_region_held3 (fun W => W.cell? ⟨gx, 0, none⟩ = some (.int .i64 x0) ∧ W.cell? ⟨gx, 1, none⟩ = some (.int .i64 x1))
        (first | with_reducible exact KS.out _ T0.out.drew | with_reducible exact KS.out _ h9 | (go_keep; done))
        (first | (go_at_call 22; refine (put_call w3 x0 x1 (L.take k) (L.drop k) (by rw [List.length_take]; omega) (by rw [List.length_drop]) (Lies.Row.take LDem (RW.out _ T0.out) k) (Lies.Row.drop LDem (RW.out _ T0.out) k) (by omega)).mono ?_; rintro e9 w9 ⟨N9, B9, d9, rfl, hN9, hR9, hd9, h9, hw9⟩; have HN9 := Lib.hid hN9; have HW9 := Lib.hid hw9; clear hN9 hw9))
      all_goals go_wp2_with fail
      all_goals go_ret
      all_goals (rw [PK.out]; exact ⟨B9, d9, by rw [← HN9.out] <;> rfl, hR9, hd9, XF.out _ h9, fun a ha => Nat.le_trans XZ.out (HW9.out a ha)⟩)
  · have P := Lib.hid (Dm.put_had (x := ⟨x0, x1⟩) h0)
    have E : (Dm.posOf L x0 != 0) = true := by rw [bne_iff_ne]; exact h0
    generalize Dm.posOf L x0 = n at CP E
    clear h0
    go_enter Try.func11, Try.ntmps11
    go_upto_region 1 with fail
    generalize w.alloc (.cells #[.int .i64 x0, .int .i64 x1] 32) = w1 at X0 RX HR CP ⊢
    generalize w.heap.size = gx at RX ⊢
    obtain ⟨t0, t1⟩ := cell_posn RX.out
    go_wp2_with fail
    refine CP.out.mono ?_; rintro e w2 ⟨rfl, hb2⟩
    have B2 := Lib.hid hb2
    have CC := Lib.hid (pdClone_any A c L w2 (HR.out.below rfl hb2) (by omega))
    clear hb2 t0 t1 CP
    go_wp2_with fail
    refine CC.out.mono ?_; rintro e w3 ⟨B, d, rfl, hR, hd, hb3, hnew⟩
    have XZ := Lib.hid (fun a (ha : B = some a) => Nat.le_trans (Nat.le_trans X0.out.size B2.out.size) (hnew a ha))
    have B3 := Lib.hid (X0.out.trans ((B2.out.trans (hb3.mono B2.out.size)).mono X0.out.size))
    have R3 := Lib.hid hR
    clear hb3 CC hR hnew
    go_wp2_with fail
    go_ret
    rw [P.out]
    exact ⟨B, d, rfl, R3.out, hd, B3.out, XZ.out⟩
  --]
theorem pdPut_any (A : Option Addr) (c : Nat) (L : List Dm.Dem) (x : Dm.Dem) (w : World) (h : LDem.Row w A L) (hl : L.length ≤ 900) (hc : L.length ≤ c) :
    Calls Try.prog 11 #[.slice A L.length c, demV x] w (DemsYes (Dm.put L x) w) := (pdPut_new A c L x w h hl hc).mono fun _ _ h => h.yes
end Go.Proofs.Ytkdgcibkjhhpoaa
