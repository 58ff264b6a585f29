/-
  Texts of this claim, merged: FlRef, FlMem.
-/
import Derived.Test.YtbmmcmdopekccaaMg04
import Derived.Test.YtbmmcmdopekccaaMg10
import Derived.Test.YtbmmcmdopekccaaMg15
import Derived.Test.YtbmmcmdopekccaaMg17
import Derived.Test.YtbmmcmdopekccaaMg21
import Derived.Test.YtbmmcmdopekccaaMg22
import Derived.Laws.Rows
/-
  The walks of the document's answers of layer 10: is a number among others; one more among others.
-/
namespace Go.Proofs.Ytbmmcmdopekccaa
open Go.RowKit

set_option maxHeartbeats 4000000 in
set_option maxRecDepth 100000 in
theorem rfHas_any (A : Option Addr) (c : Nat) (L : List Int) (n : Int) (w : World) (h : LNum.Row w A L) (hl : L.length ≤ 1000000) :
    Calls Try.prog 81 #[.slice A L.length c, .int .i64 n] w fun e w' => e = .returned (.bool (L.any fun y => decide (y = n))) ∧ w = w' := by
  --[
  generalize hq : (L.any fun y => decide (y = n)) = q
  have HQ := Lib.hid hq
  clear hq
  go_enter Try.func81, Try.ntmps81
  go_wp2
  go_loop [5] (fun i => ∃ j : Nat, j ≤ L.length ∧ i = .int .i64 j ∧ ((L.drop j).any fun y => decide (y = n)) = q) (fun i => L.length - (intOf i).toNat)
  case atStart => exact ⟨0, Nat.zero_le _, rfl, by rw [List.drop_zero]; exact HQ.out⟩
  case round =>
    obtain ⟨j, hj, rfl, hp⟩ := hrel
    by_cases hlt : j < L.length
    · obtain ⟨b, o, rfl, hb, on⟩ := h.at hlt
      have hx := List.getElem?_eq_getElem hlt
      generalize L[j] = x at hx on
      have c0 := num_on on
      rw [show j * LNum.m = j from Nat.mul_one j] at c0
      rw [any_drop hx] at hp
      have HP := Lib.hid hp
      clear on hx hp
      by_cases he : x = n
      · have h1 : (x == n) = true := by rw [beq_iff_eq]; exact he
        have P := Lib.hid (show true = q from by have := HP.out; rwa [decide_eq_true he, Bool.true_or] at this)
        clear he
        go_wp2
        go_ret
        exact ⟨by rw [← P.out] <;> rfl, rfl⟩
      · have h1 : (x == n) = false := by rw [beq_eq_false_iff_ne]; exact he
        have P := Lib.hid (show ((L.drop (j + 1)).any fun y => decide (y = n)) = q from by have := HP.out; rwa [decide_eq_false he, Bool.false_or] at this)
        clear he
        go_wp2
        go_round
        case rel => exact ⟨j + 1, by omega, by go_num, P.out⟩
        case measure => simp [intOf]; omega
    · obtain rfl : j = L.length := by omega
      rw [List.drop_length] at hp
      have P := Lib.hid (show false = q from hp)
      clear hp
      go_wp2
      go_ret
      exact ⟨by rw [← P.out] <;> rfl, rfl⟩
  --]
theorem ownnum_row {base : Nat} {w : World} {A : Option Addr} {c n : Nat} {L : List Int} (h : w.ownsRow base 3 LNum.m (.slice A n c) n (LNum.all L)) : LNum.Row w A L := by
  obtain ⟨-, B, d, hv, -, hR⟩ := Lies.Row.of_own (E := LNum) h
  cases hv
  exact hR
theorem ownnum_one (w : World) (y : Int) {g base : Nat} (hg : w.heap.size = g) (hb : base ≤ g := by simp) : (w.alloc (.cells #[.int .i64 y] 3)).ownsRow base 3 LNum.m (.slice (some ⟨g, 0, none⟩) 1 1) 1 (LNum.all [y]) := by
  subst hg
  exact ⟨LNum.all_len [y], .inr ⟨w.heap.size, 1, #[.int .i64 y], rfl, hb, heap_alloc_new _ _, Nat.le_refl _, by unfold maxLen; omega, rfl, rfl⟩⟩
theorem ownnum_empty (w : World) {g base : Nat} (hg : w.heap.size = g) (hb : base ≤ g := by simp) : (w.alloc (.cells #[] 3)).ownsRow base 3 LNum.m (.slice (some ⟨g, 0, none⟩) 0 0) 0 [] := by
  subst hg
  exact ⟨rfl, .inr ⟨w.heap.size, 0, #[], rfl, hb, heap_alloc_new _ _, Nat.le_refl _, by unfold maxLen; omega, rfl, rfl⟩⟩
theorem NumsOr.of_own {A : Option Addr} {L0 M X Y : List Int} {y : Int} {w w' : World} {base n m : Nat} {v : Value} (h : w'.ownsRow base 3 LNum.m v (0 + n + 1 + m) ([] ++ LNum.all X ++ LNum.all [y] ++ LNum.all Y)) (hM : M = X ++ y :: Y) (hb : Below w.heap.size w w') (hbase : w.heap.size ≤ base) : NumsOr A L0 M w (.returned v) w' := by
  have e : [] ++ LNum.all X ++ LNum.all [y] ++ LNum.all Y = LNum.all M := by
    rw [List.nil_append, hM, LNum.all_append, LNum.all_one, LNum.all_cons y Y, List.append_assoc]
  rw [e] at h
  have hlt := h.lt
  obtain ⟨hn, B, d, rfl, hc, hR⟩ := Lies.Row.of_own (E := LNum) h
  rw [hn] at hc hlt ⊢
  exact ⟨B, d, rfl, hR, hc, hb, .inr fun a ha => by
    subst ha
    exact Nat.le_trans hbase (hlt a.block rfl).1⟩
namespace Fl
theorem put_at {L : List Int} {n : Int} {K : Nat} (hK : (L.takeWhile fun x => decide (x < n)).length = K) : put L n = if L[K]? = some n then L else L.take K ++ n :: L.drop K := by
  subst hK
  unfold put
  rw [Dm.tw_take, Dm.tw_drop, ← Dm.tw_drop, List.getElem?_drop, Nat.add_zero, Dm.tw_drop]
end Fl
set_option maxHeartbeats 16000000 in
set_option maxRecDepth 100000 in
theorem rfPut_any (A : Option Addr) (c : Nat) (L : List Int) (n : Int) (w : World) (h : LNum.Row w A L) (hl : L.length ≤ 1000) (hc : L.length ≤ c) :
    Calls Try.prog 82 #[.slice A L.length c, .int .i64 n] w (NumsOr A L (Fl.put L n) w) := by
  --[
  have HR := Lib.hid h
  have HK := Lib.hid (fun y => (fun h => Dm.tw_end (p := fun x => decide (x < n)) (L := L) (y := y) h))
  have HK2 := Lib.hid (fun (j : Nat) (h : j < (L.takeWhile fun x => decide (x < n)).length) => Dm.tw_at (p := fun x => decide (x < n)) (L := L) h)
  have hkl := Dm.tw_le (fun x => decide (x < n)) L
  generalize hK : (L.takeWhile fun x => decide (x < n)).length = K at HK HK2 hkl
  have P0 := Lib.hid (Fl.put_at hK)
  obtain ⟨i0', hi, hz0, hz1, hz2⟩ := info_parts infoNum
  clear h hK
  go_enter Try.func82, Try.ntmps82
  go_wp2_with fail
  go_loopw [5] (fun v w' => ∃ j : Nat, j ≤ K ∧ v = .int .i64 j ∧ w' = w) (fun v _ => L.length - (intOf v).toNat)
  case atStart => exact ⟨0, Nat.zero_le _, rfl, rfl⟩
  case round =>
    obtain ⟨j, hj, rfl, rfl⟩ := hrel
    have i0 : (0 : Int) ≤ (j : Int) := Int.natCast_nonneg j
    by_cases hjk : j < K
    · obtain ⟨y, hy, hlow⟩ := HK2.out j hjk
      have hlt := (List.getElem?_eq_some_iff.1 hy).1
      obtain ⟨b, o, rfl, hbb, on⟩ := HR.out.at hlt
      rw [(List.getElem?_eq_some_iff.1 hy).2] at on
      have c0 := num_on on
      rw [show j * LNum.m = j from Nat.mul_one j] at c0
      have D1 : decide ((j : Int) < (L.length : Int)) = true := dec_t (by omega)
      have i1 : (j : Int) < (L.length : Int) := by omega
      have D2 : decide (y < n) = true := hlow
      clear hy hlow on
      go_wp2_with fail
      go_roundw
      case rel => exact ⟨j + 1, by omega, by go_num, trivial⟩
      case measure => simp [intOf]; omega
    · obtain rfl : j = K := by omega
      by_cases hlt : j < L.length
      · have hy := List.getElem?_eq_getElem hlt
        obtain ⟨b, o, rfl, hbb, on⟩ := HR.out.at hlt
        have D2 : decide (L[j] < n) = false := HK.out _ hy
        have P1 := P0.out
        rw [hy] at P1
        generalize L[j] = y at hy on D2 P1
        have c0 := num_on on
        rw [show j * LNum.m = j from Nat.mul_one j] at c0
        have D1 : decide ((j : Int) < (L.length : Int)) = true := dec_t (by omega)
        have i1 : (j : Int) < (L.length : Int) := by omega
        have hcj : ¬ c = j := by omega
        have ic : (j : Int) ≤ (c : Int) := by omega
        have il : (j : Int) ≤ (L.length : Int) := by omega
        have lc : (L.length : Int) ≤ (c : Int) := by omega
        have ic' : j ≤ c := by omega
        clear hy on
        by_cases hyn : y = n
        · have E : (y == n) = true := by rw [beq_iff_eq]; exact hyn
          rw [if_pos (by rw [hyn])] at P1
          have P := Lib.hid P1
          clear hyn P1
          go_wp2_with fail
          go_ret
          rw [P.out]
          exact ⟨_, c, rfl, HR.out, hc, Below.refl _ _, .inl ⟨rfl, rfl⟩⟩
        · have E : (y == n) = false := by rw [beq_eq_false_iff_ne]; exact hyn
          rw [if_neg (fun h => hyn (Option.some.inj h))] at P1
          have P := Lib.hid P1
          clear hyn P1
          go_wp2_with fail
          clear c0
          have RW := Lib.hid (fun W (hW : Below wr.heap.size wr W) => HR.out.below rfl hW)
          go_region_law (first
            | (refine step_append_at LNum (by rfl) (.tmp 33) (.tmp 36) 33 (by rfl) wr.heap.size 3 i0' _ 8 Try.underlying33 hi hz0 hz1 hz2 rfl (.slice (some ⟨wr.heap.size, 0, none⟩) 0 0) 0 [] (by rfl) ((ownnum_empty wr rfl (Nat.le_refl _)).drew) (some ⟨b, o, none⟩) j c (L.take j) (by rfl) (by rw [List.length_take]; omega) (Lies.Row.take LNum (RW.out _ (((Below.refl wr.heap.size wr).alloc (Nat.le_refl _) _).drew)) j) (by unfold maxLen; omega) (by omega) (by first | omega | (simp; done) | (simp; omega)) ?_
               intro v1 w3 hown1 hg1
               have hb3 : Below wr.heap.size wr w3 := Below.grown (((Below.refl wr.heap.size wr).alloc (by first | omega | (simp; done) | (simp; omega)) _).drew) hg1 (by first | omega | (simp; done) | (simp; omega)) (fun k hk => by cases hk; first | omega | (simp; done) | (simp; omega))
               have hgl3 := hb3.size)
            | (refine step_append_at LNum (by rfl) (.tmp 33) (.tmp 36) 33 (by rfl) wr.heap.size 3 i0' _ 8 Try.underlying33 hi hz0 hz1 hz2 rfl (.slice (some ⟨wr.heap.size, 0, none⟩) 0 0) 0 [] (by rfl) (((ownnum_empty wr rfl (Nat.le_refl _)).alloc _).drew) (some ⟨b, o, none⟩) j c (L.take j) (by rfl) (by rw [List.length_take]; omega) (Lies.Row.take LNum (RW.out _ ((((Below.refl wr.heap.size wr).alloc (Nat.le_refl _) _).alloc (by first | omega | (simp; done) | (simp; omega)) _).drew)) j) (by unfold maxLen; omega) (by omega) (by first | omega | (simp; done) | (simp; omega)) ?_
               intro v1 w3 hown1 hg1
               have hb3 : Below wr.heap.size wr w3 := Below.grown ((((Below.refl wr.heap.size wr).alloc (by first | omega | (simp; done) | (simp; omega)) _).alloc (by first | omega | (simp; done) | (simp; omega)) _).drew) hg1 (by first | omega | (simp; done) | (simp; omega)) (fun k hk => by cases hk; first | omega | (simp; done) | (simp; omega))
               have hgl3 := hb3.size
               have hx3 : LNum.Row w3 (some ⟨wr.heap.size + 1, 0, none⟩) [n] := ownnum_row (own_kept (World.ownsRow.drew (ownnum_one (wr.alloc (.cells #[] 3)) n (g := wr.heap.size + 1) (base := wr.heap.size) (by simp))) (fun k hk => by cases hk; exact hg1.block _ (by first | omega | (simp; done) | (simp; omega)) (fun h => by simp [Value.ownBlock] at h))))
            | (refine step_append_at LNum (by rfl) (.tmp 33) (.tmp 36) 33 (by rfl) wr.heap.size 3 i0' _ 8 Try.underlying33 hi hz0 hz1 hz2 rfl (.slice (some ⟨wr.heap.size + 1, 0, none⟩) 0 0) 0 [] (by rfl) ((ownnum_empty (wr.alloc (.cells #[.int .i64 n] 3)) (by simp) (by simp)).drew) (some ⟨b, o, none⟩) j c (L.take j) (by rfl) (by rw [List.length_take]; omega) (Lies.Row.take LNum (RW.out _ ((((Below.refl wr.heap.size wr).alloc (Nat.le_refl _) _).alloc (by first | omega | (simp; done) | (simp; omega)) _).drew)) j) (by unfold maxLen; omega) (by omega) (by first | omega | (simp; done) | (simp; omega)) ?_
               intro v1 w3 hown1 hg1
               have hb3 : Below wr.heap.size wr w3 := Below.grown ((((Below.refl wr.heap.size wr).alloc (by first | omega | (simp; done) | (simp; omega)) _).alloc (by first | omega | (simp; done) | (simp; omega)) _).drew) hg1 (by first | omega | (simp; done) | (simp; omega)) (fun k hk => by cases hk; first | omega | (simp; done) | (simp; omega))
               have hgl3 := hb3.size
               have hx3 : LNum.Row w3 (some ⟨wr.heap.size, 0, none⟩) [n] := ownnum_row (own_kept (World.ownsRow.drew (World.ownsRow.alloc (ownnum_one wr n (g := wr.heap.size) (base := wr.heap.size) rfl (Nat.le_refl _)) _)) (fun k hk => by cases hk; exact hg1.block _ (by first | omega | (simp; done) | (simp; omega)) (fun h => by simp [Value.ownBlock] at h))))
            | (refine step_append_at LNum (by rfl) (.tmp 37) (.tmp 39) 33 (by rfl) wr.heap.size 3 i0' _ 8 Try.underlying33 hi hz0 hz1 hz2 rfl v1 (0 + j) ([] ++ LNum.all (L.take j)) (by rfl) (by first | exact hown1 | exact hown1.alloc _) (some ⟨w3.heap.size, 0, none⟩) 1 1 [n] (by rfl) rfl (ownnum_row (ownnum_one w3 n rfl hgl3)) (by unfold maxLen; omega) (by omega) (by first | omega | (simp; done) | (simp; omega)) ?_
               intro v2 w4 hown2 hg2
               have hb4 : Below wr.heap.size wr w4 := Below.grown (hb3.alloc hb3.size _) hg2 (by first | omega | (simp; done) | (simp; omega)) (fun k hk => (hown1.lt k hk).1))
            | (refine step_append_at LNum (by rfl) (.tmp 37) (.tmp 39) 33 (by rfl) wr.heap.size 3 i0' _ 8 Try.underlying33 hi hz0 hz1 hz2 rfl v1 (0 + j) ([] ++ LNum.all (L.take j)) (by rfl) (by first | exact hown1 | exact hown1.alloc _) (some ⟨wr.heap.size + 1, 0, none⟩) 1 1 [n] (by rfl) rfl (hx3) (by unfold maxLen; omega) (by omega) (by first | omega | (simp; done) | (simp; omega)) ?_
               intro v2 w4 hown2 hg2
               have hb4 : Below wr.heap.size wr w4 := Below.grown (hb3) hg2 (by first | omega | (simp; done) | (simp; omega)) (fun k hk => (hown1.lt k hk).1))
            | (refine step_append_at LNum (by rfl) (.tmp 37) (.tmp 39) 33 (by rfl) wr.heap.size 3 i0' _ 8 Try.underlying33 hi hz0 hz1 hz2 rfl v1 (0 + j) ([] ++ LNum.all (L.take j)) (by rfl) (by first | exact hown1 | exact hown1.alloc _) (some ⟨wr.heap.size, 0, none⟩) 1 1 [n] (by rfl) rfl (hx3) (by unfold maxLen; omega) (by omega) (by first | omega | (simp; done) | (simp; omega)) ?_
               intro v2 w4 hown2 hg2
               have hb4 : Below wr.heap.size wr w4 := Below.grown (hb3) hg2 (by first | omega | (simp; done) | (simp; omega)) (fun k hk => (hown1.lt k hk).1))
            | (refine step_append_at LNum (by rfl) (.tmp 40) (.tmp 43) 33 (by rfl) wr.heap.size 3 i0' _ 8 Try.underlying33 hi hz0 hz1 hz2 rfl v2 (0 + j + 1) ([] ++ LNum.all (L.take j) ++ LNum.all [n]) (by rfl) hown2 (some ⟨b, o + j, none⟩) (L.length - j) (c - j) (L.drop j) (by rfl) (by rw [List.length_drop]) (by have := Lies.Row.drop LNum (RW.out _ hb4) j; rwa [show j * LNum.m = j from Nat.mul_one j] at this) (by unfold maxLen; omega) (by omega) hb4.size ?_
               intro v3 w5 hown3 hg3
               have hb5 : Below wr.heap.size wr w5 := Below.grown hb4 hg3 hb4.size (fun k hk => (hown2.lt k hk).1)))
          all_goals go_wp2_with fail
          all_goals go_ret
          all_goals (rw [P.out]; exact NumsOr.of_own hown3 rfl hb5 (Nat.le_refl _))
      · have hjl : L.length = j := by omega
        have P1 := P0.out
        rw [List.getElem?_eq_none (by omega), if_neg (by simp), List.drop_eq_nil_of_le (by omega)] at P1
        have D1 : decide ((j : Int) < (L.length : Int)) = false := dec_f (by omega)
        have ic : (j : Int) ≤ (c : Int) := by omega
        have il : (j : Int) ≤ (L.length : Int) := by omega
        have lc : (L.length : Int) ≤ (c : Int) := by omega
        have ic' : j ≤ c := by omega
        have P := Lib.hid P1
        clear P1
        by_cases h0 : L = []
        · subst h0
          obtain rfl : j = 0 := by simpa using hjl.symm
          cases A with
          | none =>
            go_wp2_with fail
            have RW := Lib.hid (fun W (hW : Below wr.heap.size wr W) => HR.out.below rfl hW)
            go_region_law (first
              | (refine step_append_at LNum (by rfl) (.tmp 33) (.tmp 36) 33 (by rfl) wr.heap.size 3 i0' _ 8 Try.underlying33 hi hz0 hz1 hz2 rfl (.slice (some ⟨wr.heap.size, 0, none⟩) 0 0) 0 [] (by rfl) ((ownnum_empty wr rfl (Nat.le_refl _)).drew) _ 0 _ [] (by rfl) rfl (.inl rfl) (by unfold maxLen; omega) (by omega) (by first | omega | (simp; done) | (simp; omega)) ?_
                 intro v1 w3 hown1 hg1
                 have hb3 : Below wr.heap.size wr w3 := Below.grown (((Below.refl wr.heap.size wr).alloc (by first | omega | (simp; done) | (simp; omega)) _).drew) hg1 (by first | omega | (simp; done) | (simp; omega)) (fun k hk => by cases hk; first | omega | (simp; done) | (simp; omega))
                 have hgl3 := hb3.size)
              | (refine step_append_at LNum (by rfl) (.tmp 33) (.tmp 36) 33 (by rfl) wr.heap.size 3 i0' _ 8 Try.underlying33 hi hz0 hz1 hz2 rfl (.slice (some ⟨wr.heap.size, 0, none⟩) 0 0) 0 [] (by rfl) (((ownnum_empty wr rfl (Nat.le_refl _)).alloc _).drew) _ 0 _ [] (by rfl) rfl (.inl rfl) (by unfold maxLen; omega) (by omega) (by first | omega | (simp; done) | (simp; omega)) ?_
                 intro v1 w3 hown1 hg1
                 have hb3 : Below wr.heap.size wr w3 := Below.grown ((((Below.refl wr.heap.size wr).alloc (by first | omega | (simp; done) | (simp; omega)) _).alloc (by first | omega | (simp; done) | (simp; omega)) _).drew) hg1 (by first | omega | (simp; done) | (simp; omega)) (fun k hk => by cases hk; first | omega | (simp; done) | (simp; omega))
                 have hgl3 := hb3.size
                 have hx3 : LNum.Row w3 (some ⟨wr.heap.size + 1, 0, none⟩) [n] := ownnum_row (own_kept (World.ownsRow.drew (ownnum_one (wr.alloc (.cells #[] 3)) n (g := wr.heap.size + 1) (base := wr.heap.size) (by simp))) (fun k hk => by cases hk; exact hg1.block _ (by first | omega | (simp; done) | (simp; omega)) (fun h => by simp [Value.ownBlock] at h))))
              | (refine step_append_at LNum (by rfl) (.tmp 33) (.tmp 36) 33 (by rfl) wr.heap.size 3 i0' _ 8 Try.underlying33 hi hz0 hz1 hz2 rfl (.slice (some ⟨wr.heap.size + 1, 0, none⟩) 0 0) 0 [] (by rfl) ((ownnum_empty (wr.alloc (.cells #[.int .i64 n] 3)) (by simp) (by simp)).drew) _ 0 _ [] (by rfl) rfl (.inl rfl) (by unfold maxLen; omega) (by omega) (by first | omega | (simp; done) | (simp; omega)) ?_
                 intro v1 w3 hown1 hg1
                 have hb3 : Below wr.heap.size wr w3 := Below.grown ((((Below.refl wr.heap.size wr).alloc (by first | omega | (simp; done) | (simp; omega)) _).alloc (by first | omega | (simp; done) | (simp; omega)) _).drew) hg1 (by first | omega | (simp; done) | (simp; omega)) (fun k hk => by cases hk; first | omega | (simp; done) | (simp; omega))
                 have hgl3 := hb3.size
                 have hx3 : LNum.Row w3 (some ⟨wr.heap.size, 0, none⟩) [n] := ownnum_row (own_kept (World.ownsRow.drew (World.ownsRow.alloc (ownnum_one wr n (g := wr.heap.size) (base := wr.heap.size) rfl (Nat.le_refl _)) _)) (fun k hk => by cases hk; exact hg1.block _ (by first | omega | (simp; done) | (simp; omega)) (fun h => by simp [Value.ownBlock] at h))))
              | (refine step_append_at LNum (by rfl) (.tmp 37) (.tmp 39) 33 (by rfl) wr.heap.size 3 i0' _ 8 Try.underlying33 hi hz0 hz1 hz2 rfl v1 (0 + 0) ([] ++ LNum.all (List.nil (α := Int))) (by rfl) (by first | exact hown1 | exact hown1.alloc _) (some ⟨w3.heap.size, 0, none⟩) 1 1 [n] (by rfl) rfl (ownnum_row (ownnum_one w3 n rfl hgl3)) (by unfold maxLen; omega) (by omega) (by first | omega | (simp; done) | (simp; omega)) ?_
                 intro v2 w4 hown2 hg2
                 have hb4 : Below wr.heap.size wr w4 := Below.grown (hb3.alloc hb3.size _) hg2 (by first | omega | (simp; done) | (simp; omega)) (fun k hk => (hown1.lt k hk).1))
              | (refine step_append_at LNum (by rfl) (.tmp 37) (.tmp 39) 33 (by rfl) wr.heap.size 3 i0' _ 8 Try.underlying33 hi hz0 hz1 hz2 rfl v1 (0 + 0) ([] ++ LNum.all (List.nil (α := Int))) (by rfl) (by first | exact hown1 | exact hown1.alloc _) (some ⟨wr.heap.size + 1, 0, none⟩) 1 1 [n] (by rfl) rfl (hx3) (by unfold maxLen; omega) (by omega) (by first | omega | (simp; done) | (simp; omega)) ?_
                 intro v2 w4 hown2 hg2
                 have hb4 : Below wr.heap.size wr w4 := Below.grown (hb3) hg2 (by first | omega | (simp; done) | (simp; omega)) (fun k hk => (hown1.lt k hk).1))
              | (refine step_append_at LNum (by rfl) (.tmp 37) (.tmp 39) 33 (by rfl) wr.heap.size 3 i0' _ 8 Try.underlying33 hi hz0 hz1 hz2 rfl v1 (0 + 0) ([] ++ LNum.all (List.nil (α := Int))) (by rfl) (by first | exact hown1 | exact hown1.alloc _) (some ⟨wr.heap.size, 0, none⟩) 1 1 [n] (by rfl) rfl (hx3) (by unfold maxLen; omega) (by omega) (by first | omega | (simp; done) | (simp; omega)) ?_
                 intro v2 w4 hown2 hg2
                 have hb4 : Below wr.heap.size wr w4 := Below.grown (hb3) hg2 (by first | omega | (simp; done) | (simp; omega)) (fun k hk => (hown1.lt k hk).1))
              | (refine step_append_at LNum (by rfl) (.tmp 40) (.tmp 43) 33 (by rfl) wr.heap.size 3 i0' _ 8 Try.underlying33 hi hz0 hz1 hz2 rfl v2 (0 + 0 + 1) ([] ++ LNum.all (List.nil (α := Int)) ++ LNum.all [n]) (by rfl) hown2 _ 0 _ [] (by rfl) rfl (.inl rfl) (by unfold maxLen; omega) (by omega) hb4.size ?_
                 intro v3 w5 hown3 hg3
                 have hb5 : Below wr.heap.size wr w5 := Below.grown hb4 hg3 hb4.size (fun k hk => (hown2.lt k hk).1)))
            all_goals go_wp2_with fail
            all_goals go_ret
            all_goals (rw [P.out]; exact NumsOr.of_own (v := v3) (n := 0) (m := 0) (X := []) (Y := []) hown3 rfl hb5 (Nat.le_refl _))
          | some a =>
            obtain ⟨b, o, sp⟩ := a
            by_cases hcj : c = 0
            · subst hcj
              go_wp2_with fail
              have RW := Lib.hid (fun W (hW : Below wr.heap.size wr W) => HR.out.below rfl hW)
              go_region_law (first
                | (refine step_append_at LNum (by rfl) (.tmp 33) (.tmp 36) 33 (by rfl) wr.heap.size 3 i0' _ 8 Try.underlying33 hi hz0 hz1 hz2 rfl (.slice (some ⟨wr.heap.size, 0, none⟩) 0 0) 0 [] (by rfl) ((ownnum_empty wr rfl (Nat.le_refl _)).drew) _ 0 _ [] (by rfl) rfl (.inl rfl) (by unfold maxLen; omega) (by omega) (by first | omega | (simp; done) | (simp; omega)) ?_
                   intro v1 w3 hown1 hg1
                   have hb3 : Below wr.heap.size wr w3 := Below.grown (((Below.refl wr.heap.size wr).alloc (by first | omega | (simp; done) | (simp; omega)) _).drew) hg1 (by first | omega | (simp; done) | (simp; omega)) (fun k hk => by cases hk; first | omega | (simp; done) | (simp; omega))
                   have hgl3 := hb3.size)
                | (refine step_append_at LNum (by rfl) (.tmp 33) (.tmp 36) 33 (by rfl) wr.heap.size 3 i0' _ 8 Try.underlying33 hi hz0 hz1 hz2 rfl (.slice (some ⟨wr.heap.size, 0, none⟩) 0 0) 0 [] (by rfl) (((ownnum_empty wr rfl (Nat.le_refl _)).alloc _).drew) _ 0 _ [] (by rfl) rfl (.inl rfl) (by unfold maxLen; omega) (by omega) (by first | omega | (simp; done) | (simp; omega)) ?_
                   intro v1 w3 hown1 hg1
                   have hb3 : Below wr.heap.size wr w3 := Below.grown ((((Below.refl wr.heap.size wr).alloc (by first | omega | (simp; done) | (simp; omega)) _).alloc (by first | omega | (simp; done) | (simp; omega)) _).drew) hg1 (by first | omega | (simp; done) | (simp; omega)) (fun k hk => by cases hk; first | omega | (simp; done) | (simp; omega))
                   have hgl3 := hb3.size
                   have hx3 : LNum.Row w3 (some ⟨wr.heap.size + 1, 0, none⟩) [n] := ownnum_row (own_kept (World.ownsRow.drew (ownnum_one (wr.alloc (.cells #[] 3)) n (g := wr.heap.size + 1) (base := wr.heap.size) (by simp))) (fun k hk => by cases hk; exact hg1.block _ (by first | omega | (simp; done) | (simp; omega)) (fun h => by simp [Value.ownBlock] at h))))
                | (refine step_append_at LNum (by rfl) (.tmp 33) (.tmp 36) 33 (by rfl) wr.heap.size 3 i0' _ 8 Try.underlying33 hi hz0 hz1 hz2 rfl (.slice (some ⟨wr.heap.size + 1, 0, none⟩) 0 0) 0 [] (by rfl) ((ownnum_empty (wr.alloc (.cells #[.int .i64 n] 3)) (by simp) (by simp)).drew) _ 0 _ [] (by rfl) rfl (.inl rfl) (by unfold maxLen; omega) (by omega) (by first | omega | (simp; done) | (simp; omega)) ?_
                   intro v1 w3 hown1 hg1
                   have hb3 : Below wr.heap.size wr w3 := Below.grown ((((Below.refl wr.heap.size wr).alloc (by first | omega | (simp; done) | (simp; omega)) _).alloc (by first | omega | (simp; done) | (simp; omega)) _).drew) hg1 (by first | omega | (simp; done) | (simp; omega)) (fun k hk => by cases hk; first | omega | (simp; done) | (simp; omega))
                   have hgl3 := hb3.size
                   have hx3 : LNum.Row w3 (some ⟨wr.heap.size, 0, none⟩) [n] := ownnum_row (own_kept (World.ownsRow.drew (World.ownsRow.alloc (ownnum_one wr n (g := wr.heap.size) (base := wr.heap.size) rfl (Nat.le_refl _)) _)) (fun k hk => by cases hk; exact hg1.block _ (by first | omega | (simp; done) | (simp; omega)) (fun h => by simp [Value.ownBlock] at h))))
                | (refine step_append_at LNum (by rfl) (.tmp 37) (.tmp 39) 33 (by rfl) wr.heap.size 3 i0' _ 8 Try.underlying33 hi hz0 hz1 hz2 rfl v1 (0 + 0) ([] ++ LNum.all (List.nil (α := Int))) (by rfl) (by first | exact hown1 | exact hown1.alloc _) (some ⟨w3.heap.size, 0, none⟩) 1 1 [n] (by rfl) rfl (ownnum_row (ownnum_one w3 n rfl hgl3)) (by unfold maxLen; omega) (by omega) (by first | omega | (simp; done) | (simp; omega)) ?_
                   intro v2 w4 hown2 hg2
                   have hb4 : Below wr.heap.size wr w4 := Below.grown (hb3.alloc hb3.size _) hg2 (by first | omega | (simp; done) | (simp; omega)) (fun k hk => (hown1.lt k hk).1))
                | (refine step_append_at LNum (by rfl) (.tmp 37) (.tmp 39) 33 (by rfl) wr.heap.size 3 i0' _ 8 Try.underlying33 hi hz0 hz1 hz2 rfl v1 (0 + 0) ([] ++ LNum.all (List.nil (α := Int))) (by rfl) (by first | exact hown1 | exact hown1.alloc _) (some ⟨wr.heap.size + 1, 0, none⟩) 1 1 [n] (by rfl) rfl (hx3) (by unfold maxLen; omega) (by omega) (by first | omega | (simp; done) | (simp; omega)) ?_
                   intro v2 w4 hown2 hg2
                   have hb4 : Below wr.heap.size wr w4 := Below.grown (hb3) hg2 (by first | omega | (simp; done) | (simp; omega)) (fun k hk => (hown1.lt k hk).1))
                | (refine step_append_at LNum (by rfl) (.tmp 37) (.tmp 39) 33 (by rfl) wr.heap.size 3 i0' _ 8 Try.underlying33 hi hz0 hz1 hz2 rfl v1 (0 + 0) ([] ++ LNum.all (List.nil (α := Int))) (by rfl) (by first | exact hown1 | exact hown1.alloc _) (some ⟨wr.heap.size, 0, none⟩) 1 1 [n] (by rfl) rfl (hx3) (by unfold maxLen; omega) (by omega) (by first | omega | (simp; done) | (simp; omega)) ?_
                   intro v2 w4 hown2 hg2
                   have hb4 : Below wr.heap.size wr w4 := Below.grown (hb3) hg2 (by first | omega | (simp; done) | (simp; omega)) (fun k hk => (hown1.lt k hk).1))
                | (refine step_append_at LNum (by rfl) (.tmp 40) (.tmp 43) 33 (by rfl) wr.heap.size 3 i0' _ 8 Try.underlying33 hi hz0 hz1 hz2 rfl v2 (0 + 0 + 1) ([] ++ LNum.all (List.nil (α := Int)) ++ LNum.all [n]) (by rfl) hown2 _ 0 _ [] (by rfl) rfl (.inl rfl) (by unfold maxLen; omega) (by omega) hb4.size ?_
                   intro v3 w5 hown3 hg3
                   have hb5 : Below wr.heap.size wr w5 := Below.grown hb4 hg3 hb4.size (fun k hk => (hown2.lt k hk).1)))
              all_goals go_wp2_with fail
              all_goals go_ret
              all_goals (rw [P.out]; exact NumsOr.of_own (v := v3) (n := 0) (m := 0) (X := []) (Y := []) hown3 rfl hb5 (Nat.le_refl _))
            · go_wp2_with fail
              have RW := Lib.hid (fun W (hW : Below wr.heap.size wr W) => HR.out.below rfl hW)
              go_region_law (first
                | (refine step_append_at LNum (by rfl) (.tmp 33) (.tmp 36) 33 (by rfl) wr.heap.size 3 i0' _ 8 Try.underlying33 hi hz0 hz1 hz2 rfl (.slice (some ⟨wr.heap.size, 0, none⟩) 0 0) 0 [] (by rfl) ((ownnum_empty wr rfl (Nat.le_refl _)).drew) _ 0 _ [] (by rfl) rfl (.inl rfl) (by unfold maxLen; omega) (by omega) (by first | omega | (simp; done) | (simp; omega)) ?_
                   intro v1 w3 hown1 hg1
                   have hb3 : Below wr.heap.size wr w3 := Below.grown (((Below.refl wr.heap.size wr).alloc (by first | omega | (simp; done) | (simp; omega)) _).drew) hg1 (by first | omega | (simp; done) | (simp; omega)) (fun k hk => by cases hk; first | omega | (simp; done) | (simp; omega))
                   have hgl3 := hb3.size)
                | (refine step_append_at LNum (by rfl) (.tmp 33) (.tmp 36) 33 (by rfl) wr.heap.size 3 i0' _ 8 Try.underlying33 hi hz0 hz1 hz2 rfl (.slice (some ⟨wr.heap.size, 0, none⟩) 0 0) 0 [] (by rfl) (((ownnum_empty wr rfl (Nat.le_refl _)).alloc _).drew) _ 0 _ [] (by rfl) rfl (.inl rfl) (by unfold maxLen; omega) (by omega) (by first | omega | (simp; done) | (simp; omega)) ?_
                   intro v1 w3 hown1 hg1
                   have hb3 : Below wr.heap.size wr w3 := Below.grown ((((Below.refl wr.heap.size wr).alloc (by first | omega | (simp; done) | (simp; omega)) _).alloc (by first | omega | (simp; done) | (simp; omega)) _).drew) hg1 (by first | omega | (simp; done) | (simp; omega)) (fun k hk => by cases hk; first | omega | (simp; done) | (simp; omega))
                   have hgl3 := hb3.size
                   have hx3 : LNum.Row w3 (some ⟨wr.heap.size + 1, 0, none⟩) [n] := ownnum_row (own_kept (World.ownsRow.drew (ownnum_one (wr.alloc (.cells #[] 3)) n (g := wr.heap.size + 1) (base := wr.heap.size) (by simp))) (fun k hk => by cases hk; exact hg1.block _ (by first | omega | (simp; done) | (simp; omega)) (fun h => by simp [Value.ownBlock] at h))))
                | (refine step_append_at LNum (by rfl) (.tmp 33) (.tmp 36) 33 (by rfl) wr.heap.size 3 i0' _ 8 Try.underlying33 hi hz0 hz1 hz2 rfl (.slice (some ⟨wr.heap.size + 1, 0, none⟩) 0 0) 0 [] (by rfl) ((ownnum_empty (wr.alloc (.cells #[.int .i64 n] 3)) (by simp) (by simp)).drew) _ 0 _ [] (by rfl) rfl (.inl rfl) (by unfold maxLen; omega) (by omega) (by first | omega | (simp; done) | (simp; omega)) ?_
                   intro v1 w3 hown1 hg1
                   have hb3 : Below wr.heap.size wr w3 := Below.grown ((((Below.refl wr.heap.size wr).alloc (by first | omega | (simp; done) | (simp; omega)) _).alloc (by first | omega | (simp; done) | (simp; omega)) _).drew) hg1 (by first | omega | (simp; done) | (simp; omega)) (fun k hk => by cases hk; first | omega | (simp; done) | (simp; omega))
                   have hgl3 := hb3.size
                   have hx3 : LNum.Row w3 (some ⟨wr.heap.size, 0, none⟩) [n] := ownnum_row (own_kept (World.ownsRow.drew (World.ownsRow.alloc (ownnum_one wr n (g := wr.heap.size) (base := wr.heap.size) rfl (Nat.le_refl _)) _)) (fun k hk => by cases hk; exact hg1.block _ (by first | omega | (simp; done) | (simp; omega)) (fun h => by simp [Value.ownBlock] at h))))
                | (refine step_append_at LNum (by rfl) (.tmp 37) (.tmp 39) 33 (by rfl) wr.heap.size 3 i0' _ 8 Try.underlying33 hi hz0 hz1 hz2 rfl v1 (0 + 0) ([] ++ LNum.all (List.nil (α := Int))) (by rfl) (by first | exact hown1 | exact hown1.alloc _) (some ⟨w3.heap.size, 0, none⟩) 1 1 [n] (by rfl) rfl (ownnum_row (ownnum_one w3 n rfl hgl3)) (by unfold maxLen; omega) (by omega) (by first | omega | (simp; done) | (simp; omega)) ?_
                   intro v2 w4 hown2 hg2
                   have hb4 : Below wr.heap.size wr w4 := Below.grown (hb3.alloc hb3.size _) hg2 (by first | omega | (simp; done) | (simp; omega)) (fun k hk => (hown1.lt k hk).1))
                | (refine step_append_at LNum (by rfl) (.tmp 37) (.tmp 39) 33 (by rfl) wr.heap.size 3 i0' _ 8 Try.underlying33 hi hz0 hz1 hz2 rfl v1 (0 + 0) ([] ++ LNum.all (List.nil (α := Int))) (by rfl) (by first | exact hown1 | exact hown1.alloc _) (some ⟨wr.heap.size + 1, 0, none⟩) 1 1 [n] (by rfl) rfl (hx3) (by unfold maxLen; omega) (by omega) (by first | omega | (simp; done) | (simp; omega)) ?_
                   intro v2 w4 hown2 hg2
                   have hb4 : Below wr.heap.size wr w4 := Below.grown (hb3) hg2 (by first | omega | (simp; done) | (simp; omega)) (fun k hk => (hown1.lt k hk).1))
                | (refine step_append_at LNum (by rfl) (.tmp 37) (.tmp 39) 33 (by rfl) wr.heap.size 3 i0' _ 8 Try.underlying33 hi hz0 hz1 hz2 rfl v1 (0 + 0) ([] ++ LNum.all (List.nil (α := Int))) (by rfl) (by first | exact hown1 | exact hown1.alloc _) (some ⟨wr.heap.size, 0, none⟩) 1 1 [n] (by rfl) rfl (hx3) (by unfold maxLen; omega) (by omega) (by first | omega | (simp; done) | (simp; omega)) ?_
                   intro v2 w4 hown2 hg2
                   have hb4 : Below wr.heap.size wr w4 := Below.grown (hb3) hg2 (by first | omega | (simp; done) | (simp; omega)) (fun k hk => (hown1.lt k hk).1))
                | (refine step_append_at LNum (by rfl) (.tmp 40) (.tmp 43) 33 (by rfl) wr.heap.size 3 i0' _ 8 Try.underlying33 hi hz0 hz1 hz2 rfl v2 (0 + 0 + 1) ([] ++ LNum.all (List.nil (α := Int)) ++ LNum.all [n]) (by rfl) hown2 _ 0 _ [] (by rfl) rfl (.inl rfl) (by unfold maxLen; omega) (by omega) hb4.size ?_
                   intro v3 w5 hown3 hg3
                   have hb5 : Below wr.heap.size wr w5 := Below.grown hb4 hg3 hb4.size (fun k hk => (hown2.lt k hk).1)))
              all_goals go_wp2_with fail
              all_goals go_ret
              all_goals (rw [P.out]; exact NumsOr.of_own (v := v3) (n := 0) (m := 0) (X := []) (Y := []) hown3 rfl hb5 (Nat.le_refl _))
        · obtain ⟨b, o, rfl, hbb, -⟩ := HR.out.at (show 0 < L.length from List.length_pos_iff.2 h0)
          by_cases hcj : c = j
          · subst hcj
            go_wp2_with fail
            have RW := Lib.hid (fun W (hW : Below wr.heap.size wr W) => HR.out.below rfl hW)
            go_region_law (first
              | (refine step_append_at LNum (by rfl) (.tmp 33) (.tmp 36) 33 (by rfl) wr.heap.size 3 i0' _ 8 Try.underlying33 hi hz0 hz1 hz2 rfl (.slice (some ⟨wr.heap.size, 0, none⟩) 0 0) 0 [] (by rfl) ((ownnum_empty wr rfl (Nat.le_refl _)).drew) (some ⟨b, o, none⟩) c c (L.take c) (by rfl) (by rw [List.length_take]; omega) (Lies.Row.take LNum (RW.out _ (((Below.refl wr.heap.size wr).alloc (Nat.le_refl _) _).drew)) c) (by unfold maxLen; omega) (by omega) (by first | omega | (simp; done) | (simp; omega)) ?_
                 intro v1 w3 hown1 hg1
                 have hb3 : Below wr.heap.size wr w3 := Below.grown (((Below.refl wr.heap.size wr).alloc (by first | omega | (simp; done) | (simp; omega)) _).drew) hg1 (by first | omega | (simp; done) | (simp; omega)) (fun k hk => by cases hk; first | omega | (simp; done) | (simp; omega))
                 have hgl3 := hb3.size)
              | (refine step_append_at LNum (by rfl) (.tmp 33) (.tmp 36) 33 (by rfl) wr.heap.size 3 i0' _ 8 Try.underlying33 hi hz0 hz1 hz2 rfl (.slice (some ⟨wr.heap.size, 0, none⟩) 0 0) 0 [] (by rfl) (((ownnum_empty wr rfl (Nat.le_refl _)).alloc _).drew) (some ⟨b, o, none⟩) c c (L.take c) (by rfl) (by rw [List.length_take]; omega) (Lies.Row.take LNum (RW.out _ ((((Below.refl wr.heap.size wr).alloc (Nat.le_refl _) _).alloc (by first | omega | (simp; done) | (simp; omega)) _).drew)) c) (by unfold maxLen; omega) (by omega) (by first | omega | (simp; done) | (simp; omega)) ?_
                 intro v1 w3 hown1 hg1
                 have hb3 : Below wr.heap.size wr w3 := Below.grown ((((Below.refl wr.heap.size wr).alloc (by first | omega | (simp; done) | (simp; omega)) _).alloc (by first | omega | (simp; done) | (simp; omega)) _).drew) hg1 (by first | omega | (simp; done) | (simp; omega)) (fun k hk => by cases hk; first | omega | (simp; done) | (simp; omega))
                 have hgl3 := hb3.size
                 have hx3 : LNum.Row w3 (some ⟨wr.heap.size + 1, 0, none⟩) [n] := ownnum_row (own_kept (World.ownsRow.drew (ownnum_one (wr.alloc (.cells #[] 3)) n (g := wr.heap.size + 1) (base := wr.heap.size) (by simp))) (fun k hk => by cases hk; exact hg1.block _ (by first | omega | (simp; done) | (simp; omega)) (fun h => by simp [Value.ownBlock] at h))))
              | (refine step_append_at LNum (by rfl) (.tmp 33) (.tmp 36) 33 (by rfl) wr.heap.size 3 i0' _ 8 Try.underlying33 hi hz0 hz1 hz2 rfl (.slice (some ⟨wr.heap.size + 1, 0, none⟩) 0 0) 0 [] (by rfl) ((ownnum_empty (wr.alloc (.cells #[.int .i64 n] 3)) (by simp) (by simp)).drew) (some ⟨b, o, none⟩) c c (L.take c) (by rfl) (by rw [List.length_take]; omega) (Lies.Row.take LNum (RW.out _ ((((Below.refl wr.heap.size wr).alloc (Nat.le_refl _) _).alloc (by first | omega | (simp; done) | (simp; omega)) _).drew)) c) (by unfold maxLen; omega) (by omega) (by first | omega | (simp; done) | (simp; omega)) ?_
                 intro v1 w3 hown1 hg1
                 have hb3 : Below wr.heap.size wr w3 := Below.grown ((((Below.refl wr.heap.size wr).alloc (by first | omega | (simp; done) | (simp; omega)) _).alloc (by first | omega | (simp; done) | (simp; omega)) _).drew) hg1 (by first | omega | (simp; done) | (simp; omega)) (fun k hk => by cases hk; first | omega | (simp; done) | (simp; omega))
                 have hgl3 := hb3.size
                 have hx3 : LNum.Row w3 (some ⟨wr.heap.size, 0, none⟩) [n] := ownnum_row (own_kept (World.ownsRow.drew (World.ownsRow.alloc (ownnum_one wr n (g := wr.heap.size) (base := wr.heap.size) rfl (Nat.le_refl _)) _)) (fun k hk => by cases hk; exact hg1.block _ (by first | omega | (simp; done) | (simp; omega)) (fun h => by simp [Value.ownBlock] at h))))
              | (refine step_append_at LNum (by rfl) (.tmp 37) (.tmp 39) 33 (by rfl) wr.heap.size 3 i0' _ 8 Try.underlying33 hi hz0 hz1 hz2 rfl v1 (0 + c) ([] ++ LNum.all (L.take c)) (by rfl) (by first | exact hown1 | exact hown1.alloc _) (some ⟨w3.heap.size, 0, none⟩) 1 1 [n] (by rfl) rfl (ownnum_row (ownnum_one w3 n rfl hgl3)) (by unfold maxLen; omega) (by omega) (by first | omega | (simp; done) | (simp; omega)) ?_
                 intro v2 w4 hown2 hg2
                 have hb4 : Below wr.heap.size wr w4 := Below.grown (hb3.alloc hb3.size _) hg2 (by first | omega | (simp; done) | (simp; omega)) (fun k hk => (hown1.lt k hk).1))
              | (refine step_append_at LNum (by rfl) (.tmp 37) (.tmp 39) 33 (by rfl) wr.heap.size 3 i0' _ 8 Try.underlying33 hi hz0 hz1 hz2 rfl v1 (0 + c) ([] ++ LNum.all (L.take c)) (by rfl) (by first | exact hown1 | exact hown1.alloc _) (some ⟨wr.heap.size + 1, 0, none⟩) 1 1 [n] (by rfl) rfl (hx3) (by unfold maxLen; omega) (by omega) (by first | omega | (simp; done) | (simp; omega)) ?_
                 intro v2 w4 hown2 hg2
                 have hb4 : Below wr.heap.size wr w4 := Below.grown (hb3) hg2 (by first | omega | (simp; done) | (simp; omega)) (fun k hk => (hown1.lt k hk).1))
              | (refine step_append_at LNum (by rfl) (.tmp 37) (.tmp 39) 33 (by rfl) wr.heap.size 3 i0' _ 8 Try.underlying33 hi hz0 hz1 hz2 rfl v1 (0 + c) ([] ++ LNum.all (L.take c)) (by rfl) (by first | exact hown1 | exact hown1.alloc _) (some ⟨wr.heap.size, 0, none⟩) 1 1 [n] (by rfl) rfl (hx3) (by unfold maxLen; omega) (by omega) (by first | omega | (simp; done) | (simp; omega)) ?_
                 intro v2 w4 hown2 hg2
                 have hb4 : Below wr.heap.size wr w4 := Below.grown (hb3) hg2 (by first | omega | (simp; done) | (simp; omega)) (fun k hk => (hown1.lt k hk).1))
              | (refine step_append_at LNum (by rfl) (.tmp 40) (.tmp 43) 33 (by rfl) wr.heap.size 3 i0' _ 8 Try.underlying33 hi hz0 hz1 hz2 rfl v2 (0 + c + 1) ([] ++ LNum.all (L.take c) ++ LNum.all [n]) (by rfl) hown2 _ 0 _ [] (by rfl) rfl (.inl rfl) (by unfold maxLen; omega) (by omega) hb4.size ?_
                 intro v3 w5 hown3 hg3
                 have hb5 : Below wr.heap.size wr w5 := Below.grown hb4 hg3 hb4.size (fun k hk => (hown2.lt k hk).1)))
            all_goals go_wp2_with fail
            all_goals go_ret
            all_goals (rw [P.out]; exact NumsOr.of_own hown3 rfl hb5 (Nat.le_refl _))
          · go_wp2_with fail
            have RW := Lib.hid (fun W (hW : Below wr.heap.size wr W) => HR.out.below rfl hW)
            go_region_law (first
              | (refine step_append_at LNum (by rfl) (.tmp 33) (.tmp 36) 33 (by rfl) wr.heap.size 3 i0' _ 8 Try.underlying33 hi hz0 hz1 hz2 rfl (.slice (some ⟨wr.heap.size, 0, none⟩) 0 0) 0 [] (by rfl) ((ownnum_empty wr rfl (Nat.le_refl _)).drew) (some ⟨b, o, none⟩) j c (L.take j) (by rfl) (by rw [List.length_take]; omega) (Lies.Row.take LNum (RW.out _ (((Below.refl wr.heap.size wr).alloc (Nat.le_refl _) _).drew)) j) (by unfold maxLen; omega) (by omega) (by first | omega | (simp; done) | (simp; omega)) ?_
                 intro v1 w3 hown1 hg1
                 have hb3 : Below wr.heap.size wr w3 := Below.grown (((Below.refl wr.heap.size wr).alloc (by first | omega | (simp; done) | (simp; omega)) _).drew) hg1 (by first | omega | (simp; done) | (simp; omega)) (fun k hk => by cases hk; first | omega | (simp; done) | (simp; omega))
                 have hgl3 := hb3.size)
              | (refine step_append_at LNum (by rfl) (.tmp 33) (.tmp 36) 33 (by rfl) wr.heap.size 3 i0' _ 8 Try.underlying33 hi hz0 hz1 hz2 rfl (.slice (some ⟨wr.heap.size, 0, none⟩) 0 0) 0 [] (by rfl) (((ownnum_empty wr rfl (Nat.le_refl _)).alloc _).drew) (some ⟨b, o, none⟩) j c (L.take j) (by rfl) (by rw [List.length_take]; omega) (Lies.Row.take LNum (RW.out _ ((((Below.refl wr.heap.size wr).alloc (Nat.le_refl _) _).alloc (by first | omega | (simp; done) | (simp; omega)) _).drew)) j) (by unfold maxLen; omega) (by omega) (by first | omega | (simp; done) | (simp; omega)) ?_
                 intro v1 w3 hown1 hg1
                 have hb3 : Below wr.heap.size wr w3 := Below.grown ((((Below.refl wr.heap.size wr).alloc (by first | omega | (simp; done) | (simp; omega)) _).alloc (by first | omega | (simp; done) | (simp; omega)) _).drew) hg1 (by first | omega | (simp; done) | (simp; omega)) (fun k hk => by cases hk; first | omega | (simp; done) | (simp; omega))
                 have hgl3 := hb3.size
                 have hx3 : LNum.Row w3 (some ⟨wr.heap.size + 1, 0, none⟩) [n] := ownnum_row (own_kept (World.ownsRow.drew (ownnum_one (wr.alloc (.cells #[] 3)) n (g := wr.heap.size + 1) (base := wr.heap.size) (by simp))) (fun k hk => by cases hk; exact hg1.block _ (by first | omega | (simp; done) | (simp; omega)) (fun h => by simp [Value.ownBlock] at h))))
              | (refine step_append_at LNum (by rfl) (.tmp 33) (.tmp 36) 33 (by rfl) wr.heap.size 3 i0' _ 8 Try.underlying33 hi hz0 hz1 hz2 rfl (.slice (some ⟨wr.heap.size + 1, 0, none⟩) 0 0) 0 [] (by rfl) ((ownnum_empty (wr.alloc (.cells #[.int .i64 n] 3)) (by simp) (by simp)).drew) (some ⟨b, o, none⟩) j c (L.take j) (by rfl) (by rw [List.length_take]; omega) (Lies.Row.take LNum (RW.out _ ((((Below.refl wr.heap.size wr).alloc (Nat.le_refl _) _).alloc (by first | omega | (simp; done) | (simp; omega)) _).drew)) j) (by unfold maxLen; omega) (by omega) (by first | omega | (simp; done) | (simp; omega)) ?_
                 intro v1 w3 hown1 hg1
                 have hb3 : Below wr.heap.size wr w3 := Below.grown ((((Below.refl wr.heap.size wr).alloc (by first | omega | (simp; done) | (simp; omega)) _).alloc (by first | omega | (simp; done) | (simp; omega)) _).drew) hg1 (by first | omega | (simp; done) | (simp; omega)) (fun k hk => by cases hk; first | omega | (simp; done) | (simp; omega))
                 have hgl3 := hb3.size
                 have hx3 : LNum.Row w3 (some ⟨wr.heap.size, 0, none⟩) [n] := ownnum_row (own_kept (World.ownsRow.drew (World.ownsRow.alloc (ownnum_one wr n (g := wr.heap.size) (base := wr.heap.size) rfl (Nat.le_refl _)) _)) (fun k hk => by cases hk; exact hg1.block _ (by first | omega | (simp; done) | (simp; omega)) (fun h => by simp [Value.ownBlock] at h))))
              | (refine step_append_at LNum (by rfl) (.tmp 37) (.tmp 39) 33 (by rfl) wr.heap.size 3 i0' _ 8 Try.underlying33 hi hz0 hz1 hz2 rfl v1 (0 + j) ([] ++ LNum.all (L.take j)) (by rfl) (by first | exact hown1 | exact hown1.alloc _) (some ⟨w3.heap.size, 0, none⟩) 1 1 [n] (by rfl) rfl (ownnum_row (ownnum_one w3 n rfl hgl3)) (by unfold maxLen; omega) (by omega) (by first | omega | (simp; done) | (simp; omega)) ?_
                 intro v2 w4 hown2 hg2
                 have hb4 : Below wr.heap.size wr w4 := Below.grown (hb3.alloc hb3.size _) hg2 (by first | omega | (simp; done) | (simp; omega)) (fun k hk => (hown1.lt k hk).1))
              | (refine step_append_at LNum (by rfl) (.tmp 37) (.tmp 39) 33 (by rfl) wr.heap.size 3 i0' _ 8 Try.underlying33 hi hz0 hz1 hz2 rfl v1 (0 + j) ([] ++ LNum.all (L.take j)) (by rfl) (by first | exact hown1 | exact hown1.alloc _) (some ⟨wr.heap.size + 1, 0, none⟩) 1 1 [n] (by rfl) rfl (hx3) (by unfold maxLen; omega) (by omega) (by first | omega | (simp; done) | (simp; omega)) ?_
                 intro v2 w4 hown2 hg2
                 have hb4 : Below wr.heap.size wr w4 := Below.grown (hb3) hg2 (by first | omega | (simp; done) | (simp; omega)) (fun k hk => (hown1.lt k hk).1))
              | (refine step_append_at LNum (by rfl) (.tmp 37) (.tmp 39) 33 (by rfl) wr.heap.size 3 i0' _ 8 Try.underlying33 hi hz0 hz1 hz2 rfl v1 (0 + j) ([] ++ LNum.all (L.take j)) (by rfl) (by first | exact hown1 | exact hown1.alloc _) (some ⟨wr.heap.size, 0, none⟩) 1 1 [n] (by rfl) rfl (hx3) (by unfold maxLen; omega) (by omega) (by first | omega | (simp; done) | (simp; omega)) ?_
                 intro v2 w4 hown2 hg2
                 have hb4 : Below wr.heap.size wr w4 := Below.grown (hb3) hg2 (by first | omega | (simp; done) | (simp; omega)) (fun k hk => (hown1.lt k hk).1))
              | (refine step_append_at LNum (by rfl) (.tmp 40) (.tmp 43) 33 (by rfl) wr.heap.size 3 i0' _ 8 Try.underlying33 hi hz0 hz1 hz2 rfl v2 (0 + j + 1) ([] ++ LNum.all (L.take j) ++ LNum.all [n]) (by rfl) hown2 (some ⟨b, o + j, none⟩) 0 (c - j) [] (by rfl) rfl (.inr ⟨b, o + j, rfl, Nat.lt_of_lt_of_le hbb hb4.size, fun k y hk => by simp at hk⟩) (by unfold maxLen; omega) (by omega) hb4.size ?_
                 intro v3 w5 hown3 hg3
                 have hb5 : Below wr.heap.size wr w5 := Below.grown hb4 hg3 hb4.size (fun k hk => (hown2.lt k hk).1)))
            all_goals go_wp2_with fail
            all_goals go_ret
            all_goals (rw [P.out]; exact NumsOr.of_own hown3 rfl hb5 (Nat.le_refl _))
  --]
end Go.Proofs.Ytbmmcmdopekccaa
/-
  The memory of the document's search of layer 10. No walk is here.
-/
namespace Go.Proofs.Ytbmmcmdopekccaa
open Go.RowKit

abbrev grdO (p : Pl.Plan) (A : Option Addr) (c : Nat) (A' : Option Addr) (c' : Nat) (B : Option Addr) (d n : Nat) (v7 v8 v9 : Value) : Obj := .cells #[.int .i64 p.ov, .int .i64 p.ap, .int .i64 p.se, .int .i64 p.ho, .slice A p.secs.length c, .slice A' p.sigs.length c', .slice B n d, v7, v8, v9] 139
/-- What a search holds: the points' slice, the flanks' slice, what it has seen. -/
structure GrdV where
  B1 : Option Addr
  d1 : Nat
  B2 : Option Addr
  d2 : Nat
  v : Value
/-- A search in memory: what it told lies apart from it and from what it has seen. -/
structure GrdAt (p : Pl.Plan) (A : Option Addr) (c : Nat) (A' : Option Addr) (c' : Nat) (B : Option Addr) (d n : Nat) (G : Nat) (w0 wr : World) (V : GrdV) (g : Fl.G) : Prop where
  below : Below w0.heap.size w0 wr
  hG : w0.heap.size ≤ G
  at_ : wr.heap[G]? = some (grdO p A c A' c' B d n (.slice V.B1 g.pts.length V.d1) (.slice V.B2 g.fl.length V.d2) V.v)
  pts : LDem.Row wr V.B1 g.pts
  fl : LNum.Row wr V.B2 g.fl
  l1 : g.pts.length ≤ V.d1
  l2 : g.fl.length ≤ V.d2
  seen : wr.ownsRow (G + 1) 3 LNum.m V.v g.seen.length (LNum.all g.seen)
  n1 : g.pts ≠ [] → ∀ a, V.B1 = some a → a.block ≠ G ∧ V.v.ownBlock ≠ some a.block ∧ a.block < wr.heap.size ∧ w0.heap.size ≤ a.block
  n2 : g.fl ≠ [] → ∀ a, V.B2 = some a → a.block ≠ G ∧ V.v.ownBlock ≠ some a.block ∧ a.block < wr.heap.size ∧ w0.heap.size ≤ a.block
/-- What a call of the search's leaves. -/
def GrdGives (p : Pl.Plan) (A : Option Addr) (c : Nat) (A' : Option Addr) (c' : Nat) (B : Option Addr) (d n : Nat) (G : Nat) (w0 : World) (g : Fl.G) (e : Ending) (w' : World) : Prop :=
  e = .returned (.tuple #[]) ∧ ∃ V, GrdAt p A c A' c' B d n G w0 w' V g
section
variable {p : Pl.Plan} {A : Option Addr} {c : Nat} {A' : Option Addr} {c' : Nat} {B : Option Addr} {d n : Nat} {G : Nat} {w0 wr : World} {V : GrdV} {g : Fl.G}
theorem GrdAt.lt (h : GrdAt p A c A' c' B d n G w0 wr V g) : G < wr.heap.size := (Array.getElem?_eq_some_iff.1 h.at_).1
theorem GrdAt.next {w2 : World} (h : GrdAt p A c A' c' B d n G w0 wr V g) (hb : Below wr.heap.size wr w2) : GrdAt p A c A' c' B d n G w0 w2 V g :=
  ⟨h.below.trans (hb.mono h.below.size), h.hG, (hb.block _ h.lt).trans h.at_, h.pts.below rfl hb, h.fl.below rfl hb, h.l1, h.l2, ownsRow_below h.seen hb,
    fun hz a ha => ⟨(h.n1 hz a ha).1, (h.n1 hz a ha).2.1, Nat.lt_of_lt_of_le (h.n1 hz a ha).2.2.1 hb.size, (h.n1 hz a ha).2.2.2⟩, fun hz a ha => ⟨(h.n2 hz a ha).1, (h.n2 hz a ha).2.1, Nat.lt_of_lt_of_le (h.n2 hz a ha).2.2.1 hb.size, (h.n2 hz a ha).2.2.2⟩⟩
theorem GrdAt.own_lt (h : GrdAt p A c A' c' B d n G w0 wr V g) {k : Nat} (hk : V.v.ownBlock = some k) : k < wr.heap.size := (h.seen.lt k hk).2
theorem row10f {w : World} {g : Nat} {a b c d e f i j k l : Value} {t : TypeId} (h : w.heap[g]? = some (.cells #[a, b, c, d, e, f, i, j, k, l] t (0, 0))) :
    (w.cell? ⟨g, 0, none⟩ = some a ∧ w.cell? ⟨g, 1, none⟩ = some b ∧ w.cell? ⟨g, 2, none⟩ = some c ∧ w.cell? ⟨g, 3, none⟩ = some d ∧ w.cell? ⟨g, 4, none⟩ = some e ∧ w.cell? ⟨g, 5, none⟩ = some f ∧ w.cell? ⟨g, 6, none⟩ = some i ∧ w.cell? ⟨g, 7, none⟩ = some j ∧ w.cell? ⟨g, 8, none⟩ = some k ∧ w.cell? ⟨g, 9, none⟩ = some l) ∧
    (w.frozen? ⟨g, 7, none⟩ = false ∧ w.frozen? ⟨g, 8, none⟩ = false ∧ w.frozen? ⟨g, 9, none⟩ = false) ∧ g < w.heap.size :=
  ⟨⟨cell_of_row w g 0 _ t _ h, cell_of_row w g 1 _ t _ h, cell_of_row w g 2 _ t _ h, cell_of_row w g 3 _ t _ h, cell_of_row w g 4 _ t _ h, cell_of_row w g 5 _ t _ h, cell_of_row w g 6 _ t _ h, cell_of_row w g 7 _ t _ h, cell_of_row w g 8 _ t _ h, cell_of_row w g 9 _ t _ h⟩,
    ⟨frozen_of_row w g 7 _ t h, frozen_of_row w g 8 _ t h, frozen_of_row w g 9 _ t h⟩, (Array.getElem?_eq_some_iff.1 h).1⟩
/-- The points are set. -/
theorem GrdAt.setPts {L : List Dm.Dem} {B1 : Option Addr} {d1 : Nat} {w2 : World} (h : GrdAt p A c A' c' B d n G w0 wr V g) (hb : Below wr.heap.size wr w2) (hR : LDem.Row w2 B1 L) (hl : L.length ≤ d1) (hn : (B1 = V.B1 ∧ L = g.pts) ∨ ∀ a, B1 = some a → wr.heap.size ≤ a.block) (hlt : L ≠ [] → ∀ a, B1 = some a → a.block < w2.heap.size) :
    GrdAt p A c A' c' B d n G w0 (w2.setCell ⟨G, 7, none⟩ (.slice B1 L.length d1)) ⟨B1, d1, V.B2, V.d2, V.v⟩ { g with pts := L } := by
  have hG := h.lt
  have hV : ∀ k, V.v.ownBlock = some k → k < wr.heap.size := fun k hk => h.own_lt hk
  obtain ⟨h1, h2, h3, h4, h5, h6, h7, h8, h9, h10⟩ := h.next hb
  have q1 : L ≠ [] → ∀ a, B1 = some a → a.block ≠ G ∧ V.v.ownBlock ≠ some a.block ∧ a.block < w2.heap.size ∧ w0.heap.size ≤ a.block := fun hz a ha => by
    rcases hn with ⟨hn, hn2⟩ | hn
    · exact h9 (hn2 ▸ hz) a (hn ▸ ha)
    · have := hn a ha
      exact ⟨by omega, fun e => by have := hV _ e; omega, hlt hz a ha, by have := h.below.size; omega⟩
  refine ⟨h1.setCell h2 _, h2, ?_, hR.kept (by simp) fun hz a ha => heap_setCell_other _ _ _ _ (q1 hz a ha).1, h5.kept (by simp) fun hz a ha => heap_setCell_other _ _ _ _ (h10 hz a ha).1, hl, h7, own_kept h8 fun b hb => heap_setCell_other _ _ _ _ fun e => ?_, fun hz a ha => ⟨(q1 hz a ha).1, (q1 hz a ha).2.1, by simpa using (q1 hz a ha).2.2.1, (q1 hz a ha).2.2.2⟩, fun hz a ha => ⟨(h10 hz a ha).1, (h10 hz a ha).2.1, by simpa using (h10 hz a ha).2.2.1, (h10 hz a ha).2.2.2⟩⟩
  · rw [heap_setCell_same _ _ _ _ _ _ h3]; rfl
  · have := (h8.lt b hb).1
    have e' : b = G := e
    omega
/-- The flanks are set. -/
theorem GrdAt.setFl {L : List Int} {B2 : Option Addr} {d2 : Nat} {w2 : World} (h : GrdAt p A c A' c' B d n G w0 wr V g) (hb : Below wr.heap.size wr w2) (hR : LNum.Row w2 B2 L) (hl : L.length ≤ d2) (hn : (B2 = V.B2 ∧ L = g.fl) ∨ ∀ a, B2 = some a → wr.heap.size ≤ a.block) (hlt : L ≠ [] → ∀ a, B2 = some a → a.block < w2.heap.size) :
    GrdAt p A c A' c' B d n G w0 (w2.setCell ⟨G, 8, none⟩ (.slice B2 L.length d2)) ⟨V.B1, V.d1, B2, d2, V.v⟩ { g with fl := L } := by
  have hG := h.lt
  have hV : ∀ k, V.v.ownBlock = some k → k < wr.heap.size := fun k hk => h.own_lt hk
  obtain ⟨h1, h2, h3, h4, h5, h6, h7, h8, h9, h10⟩ := h.next hb
  have q1 : L ≠ [] → ∀ a, B2 = some a → a.block ≠ G ∧ V.v.ownBlock ≠ some a.block ∧ a.block < w2.heap.size ∧ w0.heap.size ≤ a.block := fun hz a ha => by
    rcases hn with ⟨hn, hn2⟩ | hn
    · exact h10 (hn2 ▸ hz) a (hn ▸ ha)
    · have := hn a ha
      exact ⟨by omega, fun e => by have := hV _ e; omega, hlt hz a ha, by have := h.below.size; omega⟩
  refine ⟨h1.setCell h2 _, h2, ?_, h4.kept (by simp) fun hz a ha => heap_setCell_other _ _ _ _ (h9 hz a ha).1, hR.kept (by simp) fun hz a ha => heap_setCell_other _ _ _ _ (q1 hz a ha).1, h6, hl, own_kept h8 fun b hb => heap_setCell_other _ _ _ _ fun e => ?_, fun hz a ha => ⟨(h9 hz a ha).1, (h9 hz a ha).2.1, by simpa using (h9 hz a ha).2.2.1, (h9 hz a ha).2.2.2⟩, fun hz a ha => ⟨(q1 hz a ha).1, (q1 hz a ha).2.1, by simpa using (q1 hz a ha).2.2.1, (q1 hz a ha).2.2.2⟩⟩
  · rw [heap_setCell_same _ _ _ _ _ _ h3]; rfl
  · have := (h8.lt b hb).1
    have e' : b = G := e
    omega
/-- Nothing is seen. -/
theorem GrdAt.clear (h : GrdAt p A c A' c' B d n G w0 wr V g) : GrdAt p A c A' c' B d n G w0 (wr.setCell ⟨G, 9, none⟩ (.slice none 0 0)) ⟨V.B1, V.d1, V.B2, V.d2, .slice none 0 0⟩ { g with seen := [] } := by
  obtain ⟨h1, h2, h3, h4, h5, h6, h7, h8, h9, h10⟩ := h
  refine ⟨h1.setCell h2 _, h2, ?_, h4.kept (by simp) fun hz a ha => heap_setCell_other _ _ _ _ (h9 hz a ha).1, h5.kept (by simp) fun hz a ha => heap_setCell_other _ _ _ _ (h10 hz a ha).1, h6, h7, ⟨rfl, .inl ⟨rfl, rfl⟩⟩, fun hz a ha => ⟨(h9 hz a ha).1, (fun e => by cases e), by simpa using (h9 hz a ha).2.2.1, (h9 hz a ha).2.2.2⟩, fun hz a ha => ⟨(h10 hz a ha).1, (fun e => by cases e), by simpa using (h10 hz a ha).2.2.1, (h10 hz a ha).2.2.2⟩⟩
  rw [heap_setCell_same _ _ _ _ _ _ h3]; rfl
/-- One more is seen. -/
theorem GrdAt.see {q : Int} {w2 w4 : World} {v' : Value} (h : GrdAt p A c A' c' B d n G w0 wr V g) (hb : Below wr.heap.size wr w2) (hown : w4.ownsRow (G + 1) 3 LNum.m v' (g.seen.length + 1) (LNum.all g.seen ++ LNum.all [q])) (hg : w2.grownBy w4 V.v.ownBlock) (hv : ∀ k, v'.ownBlock = some k → V.v.ownBlock = some k ∨ wr.heap.size ≤ k) :
    GrdAt p A c A' c' B d n G w0 (w4.setCell ⟨G, 9, none⟩ v') ⟨V.B1, V.d1, V.B2, V.d2, v'⟩ { g with seen := g.seen ++ [q] } := by
  have hGl := h.lt
  have k1 := h.n1
  have k2 := h.n2
  obtain ⟨h1, h2, h3, h4, h5, h6, h7, h8, h9, h10⟩ := h.next hb
  have hs : w2.heap.size ≤ w4.heap.size := hg.size
  have e3 : w4.heap[G]? = w2.heap[G]? := hg.block G (by have := hb.size; omega) (fun e => by have := (h8.lt G e.symm).1; omega)
  refine ⟨((h1.grown hg (by have := h1.size; omega) fun k hk => ?_).setCell h2 _), h2, ?_, h4.kept (by simp; omega) fun hz a ha => (heap_setCell_other _ _ _ _ (h9 hz a ha).1).trans (hg.block _ (h9 hz a ha).2.2.1 fun e => (h9 hz a ha).2.1 e.symm), h5.kept (by simp; omega) fun hz a ha => (heap_setCell_other _ _ _ _ (h10 hz a ha).1).trans (hg.block _ (h10 hz a ha).2.2.1 fun e => (h10 hz a ha).2.1 e.symm), h6, h7, ?_, fun hz a ha => ⟨(h9 hz a ha).1, fun e => ?_, by have := (h9 hz a ha).2.2.1; simp; omega, (h9 hz a ha).2.2.2⟩, fun hz a ha => ⟨(h10 hz a ha).1, fun e => ?_, by have := (h10 hz a ha).2.2.1; simp; omega, (h10 hz a ha).2.2.2⟩⟩
  · have := (h8.lt k hk).1; omega
  · rw [heap_setCell_same _ _ _ _ _ _ (e3.trans h3)]; rfl
  · refine own_kept ?_ fun b hb => heap_setCell_other _ _ _ _ fun e => ?_
    · show w4.ownsRow (G + 1) 3 LNum.m v' (g.seen ++ [q]).length (LNum.all (g.seen ++ [q]))
      rw [List.length_append, LNum.all_append]; exact hown
    · have := (hown.lt b hb).1
      have e' : b = G := e
      omega
  · rcases hv _ e with e | e
    · exact (h9 hz a ha).2.1 e
    · have := (k1 hz a ha).2.2.1; omega
  · rcases hv _ e with e | e
    · exact (h10 hz a ha).2.1 e
    · have := (k2 hz a ha).2.2.1; omega
end
end Go.Proofs.Ytbmmcmdopekccaa
