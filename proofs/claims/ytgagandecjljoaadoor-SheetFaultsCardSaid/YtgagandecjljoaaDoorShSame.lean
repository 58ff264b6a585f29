/-
  The walk of layer 4's Same: are two slices of items the same?
-/
import Derived.Test.YtgagandecjljoaaDoorShMem
namespace Go.Proofs.YtgagandecjljoaaDoor
open Go.RowKit

theorem ne_items (W : World) (y z : It.Itm) : Sem.run Tryd.prog (binOp .neq 38 (itemV y) (itemV z)) W = .ok (.bool (!decide (y = z))) W := by
  rw [run_neq_struct, eql_items]; rfl
set_option maxHeartbeats 2000000 in
set_option maxRecDepth 100000 in
theorem isame_any (A B : Option Addr) (c d : Nat) (L M : List It.Itm) (w : World) (hA : Its w A L) (hB : Its w B M) (hl : L.length ≤ 1000000) (hm : M.length ≤ 1000000) :
    Calls Tryd.prog 11 #[.slice A L.length c, .slice B M.length d] w fun e w' => e = .returned (.bool (decide (L = M))) ∧ Below w.heap.size w w' := by
  by_cases hlm : L.length = M.length
  · have h1 : ((L.length : Int) != M.length) = false := by simpa using by omega
    have H := Lib.hid hlm
    have hle : M.length ≤ L.length := by omega
    have hge : L.length ≤ M.length := by omega
    clear hlm
    go_enter Tryd.func11, Tryd.ntmps11
    go_wp2
    go_loopw [5] (fun i wr => ∃ k : Nat, k ≤ L.length ∧ i = .int .i64 k ∧ L.take k = M.take k ∧ Below w.heap.size w wr) (fun i _ => L.length - (intOf i).toNat)
    case atStart => exact ⟨0, Nat.zero_le _, rfl, by simp, Below.refl _ _⟩
    case round =>
      obtain ⟨k, hk, rfl, ht, hbel⟩ := hrel
      have HT := Lib.hid ht
      clear ht
      by_cases hlt : k < L.length
      · obtain ⟨b, o, rfl, hb, i7⟩ := (hA.below rfl hbel).at hlt
        obtain ⟨b', o', rfl, hb', i7'⟩ := (hB.below rfl hbel).at (k := k) (by omega)
        obtain ⟨a0, a1, a2, a3, a4, a5, a6⟩ := i7.cells
        obtain ⟨b0, b1, b2, b3, b4, b5, b6⟩ := i7'.cells
        clear i7 i7'
        by_cases he : L[k] = M[k]'(by omega)
        · have hn : (!decide (L[k] = M[k]'(by omega))) = false := by rw [he]; simp
          have HE := Lib.hid he
          clear he
          have Q := fun W => (ne_items W L[k] (M[k]'(by omega))).trans (by rw [hn])
          go_wp2
          go_region
          go_wp2
          go_roundw
          case rel => exact ⟨k + 1, by omega, by go_num, by rw [List.take_succ_eq_append_getElem hlt, List.take_succ_eq_append_getElem (by omega), HT.out, HE.out], hbel.drew⟩
          case measure => simp [intOf]; omega
        · have hn : (!decide (L[k] = M[k]'(by omega))) = true := by simpa using he
          have HE := Lib.hid he
          clear he
          have Q := fun W => (ne_items W L[k] (M[k]'(by omega))).trans (by rw [hn])
          go_wp2
          go_region
          go_wp2
          go_ret
          exact ⟨retB (dec_f (fun e => HE.out (by subst e; rfl))).symm, hbel.drew⟩
      · go_wp2
        go_ret
        refine ⟨retB ?_, hbel⟩
        have := HT.out
        rw [List.take_of_length_le (by omega), List.take_of_length_le (by omega)] at this
        exact (dec_t this).symm
  · have h1 : ((L.length : Int) != M.length) = true := by simpa using by omega
    go_enter Tryd.func11, Tryd.ntmps11
    go_wp2
    go_ret
    exact ⟨retB (dec_f (fun e => hlm (by rw [e]))).symm, Below.refl _ _⟩
end Go.Proofs.YtgagandecjljoaaDoor

