/-
  The walks of layer 4's Print, and of the document's answer to it.
-/
import Derived.Test.YtgagandecjljoaaDoorShRParse
import Derived.Deep.OwnRows
namespace Go.Proofs.YtgagandecjljoaaDoor
open Go.RowKit

/-- Items that may be written: numbers from 0 on, names of whatever moderate length. -/
def FitsP (y : It.Itm) : Prop := 0 ≤ y.n ∧ y.n ≤ 9223372036854775807 ∧ y.name.length ≤ 1000 ∧ y.e0.n.length ≤ 1000 ∧ y.e1.n.length ≤ 1000
theorem iprint_y (y : It.Itm) (w : World) (h : FitsP y) (hE : Env w) :
    Calls Tryd.prog 19 #[itemV y] w fun e w' => e = .returned (.string (txt (It.print y))) ∧ Below w.heap.size w w' := by
  have := iprint_any y.k (txt y.name) y.n (txt y.e0.n) y.e0.c (txt y.e1.n) y.e1.c w h.1 h.2.1 (by rw [txt_size]; exact h.2.2.1) (by rw [txt_size]; exact h.2.2.2.1) (by rw [txt_size]; exact h.2.2.2.2) hE
  rwa [ofV_txt] at this
theorem riprint_y (y : It.Itm) (w : World) (h : FitsP y) :
    Calls Tryd.prog 21 #[itemV y] w fun e w' => e = .returned (.string (txt (It.print y))) ∧ Below w.heap.size w w' := by
  have := riprint_any y.k (txt y.name) y.n (txt y.e0.n) y.e0.c (txt y.e1.n) y.e1.c w h.1 h.2.1 (by rw [txt_size]; exact h.2.2.1) (by rw [txt_size]; exact h.2.2.2.1) (by rw [txt_size]; exact h.2.2.2.2)
  rwa [ofV_txt] at this
/-- The first k lines, and as many empty ones as are left. -/
def lines0 (L : List It.Itm) (k : Nat) : List (List UInt8) := (L.take k).map It.print ++ List.replicate (L.length - k) []
theorem lines0_len (L : List It.Itm) (k : Nat) (h : k ≤ L.length) : (lines0 L k).length = L.length := by simp [lines0]; omega
theorem lines0_set (L : List It.Itm) (k : Nat) (h : k < L.length) : ((lines0 L k).map str).set k (str (It.print L[k])) = (lines0 L (k + 1)).map str := by
  have e : L.length - k = (L.length - (k + 1)) + 1 := by omega
  rw [lines0, lines0, e, List.replicate_succ, List.take_succ_eq_append_getElem h]
  simp only [List.map_append, List.map_cons, List.map_nil]
  rw [List.set_append_right _ _ (by simp; omega)]
  rw [show k - ((L.take k).map It.print |>.map str).length = 0 by simp; omega]
  simp
set_option maxHeartbeats 4000000 in
set_option maxRecDepth 100000 in
theorem sprint_any (A : Option Addr) (c : Nat) (L : List It.Itm) (w : World) (hE : Env w) (h : Its w A L) (hl : L.length ≤ 100000) (hf : ∀ y ∈ L, FitsP y) (hx : (Sh.print L).length ≤ 10000000) :
    Calls Tryd.prog 12 #[.slice A L.length c] w fun e w' => e = .returned (.string (txt (Sh.print L))) ∧ Below w.heap.size w w' := by
  have hmk := run_make_row' (P := Tryd.prog) 39 9 (.string ByteArray.empty) 16 Tryd.underlying39 infoStr rfl .i64 .i64 L.length (by omega) (by omega)
  have O0 := Lib.hid (show (w.alloc (.cells (madeCells #[.string ByteArray.empty] L.length) 9)).ownsRow w.heap.size 9 1 (.slice (some ⟨w.heap.size, 0, none⟩) L.length L.length) L.length ((lines0 L 0).map str) by
    have := World.ownsRow_lit (base := w.heap.size) (e := 9) (size := 1) w (madeCells #[.string ByteArray.empty] L.length) L.length (Nat.le_refl _) (by unfold maxLen; omega) (by simpa using size_madeCells #[Value.string ByteArray.empty] L.length)
    rw [toList_madeCells_one] at this
    have e : (lines0 L 0).map str = List.replicate L.length (Value.string ByteArray.empty) := by simp [lines0, str, txt]; exact .inr rfl
    rwa [e])
  have HF := Lib.hid hf
  have HX := Lib.hid hx
  have HE := Lib.hid hE
  clear hf hx hE
  go_enter Tryd.func12, Tryd.ntmps12
  go_wp2_with fail
  go_loopw [11] (fun i wr => ∃ k : Nat, k ≤ L.length ∧ i = .int .i64 k ∧ wr.ownsRow w.heap.size 9 1 (.slice (some ⟨w.heap.size, 0, none⟩) L.length L.length) L.length ((lines0 L k).map str) ∧ Below w.heap.size w wr) (fun i _ => L.length - (intOf i).toNat)
  case atStart => exact ⟨0, Nat.zero_le _, rfl, O0.out, (Below.refl _ _).alloc (Nat.le_refl _) _⟩
  case round =>
    obtain ⟨k, hk, rfl, hown, hbel⟩ := hrel
    have hz := hbel.size
    by_cases hlt : k < L.length
    · obtain ⟨b, o, rfl, hb, i7⟩ := (h.below rfl hbel).at hlt
      obtain ⟨a0, a1, a2, a3, a4, a5, a6⟩ := i7.cells
      clear i7
      have hbA := Lib.hid ((Below.refl wr.heap.size wr).alloc (Nat.le_refl _) (.cells (cells7 L[k]).toArray 38))
      have PC := Lib.hid (iprint_y L[k] (wr.alloc (.cells (cells7 L[k]).toArray 38)) (HF.out _ (List.getElem_mem hlt)) ((HE.out.below rfl hbel).below rfl hbA.out))
      have OW := Lib.hid hown
      clear hown
      go_wp2_with fail
      refine PC.out.mono ?_; rintro e w2 ⟨rfl, hb2⟩
      have O2 := ownsRow_below (OW.out.alloc (.cells (cells7 L[k]).toArray 38)) hb2
      have hfz := O2.frozenAt k
      have hcell : w2.cell? ⟨w.heap.size, k, none⟩ = some (.string (txt [])) := by
        rw [O2.cellAt k (by omega)]
        rw [List.getElem?_map, lines0, List.getElem?_append_right (by simp; omega), List.getElem?_replicate_of_lt (by simp; omega)]; rfl
      have st := O2.stored k (str (It.print L[k]))
      rw [lines0_set L k hlt] at st
      have ST := Lib.hid st.1
      have hbX := Lib.hid (hbel.trans ((hbA.out.trans (hb2.mono (by simp))).mono hz))
      clear st O2 hb2
      go_wp2_with fail
      go_roundw
      case rel => exact ⟨k + 1, by omega, by go_num, ST.out, hbX.out.setCell (Nat.le_refl _) _⟩
      case measure => simp [intOf]; omega
    · obtain rfl : k = L.length := by omega
      obtain ⟨hn, A', c', hv, hcap, hstr⟩ := Strs.of_own hown
      cases hv
      have e1 : lines0 L L.length = L.map It.print := by simp [lines0]
      rw [e1] at hstr
      have T := text_any _ L.length (L.map It.print) wr hstr (by simp; omega) HX.out
      rw [List.length_map] at T
      have TC := Lib.hid T
      clear T hn hcap hstr hown e1
      go_wp2_with fail
      refine TC.out.mono ?_; rintro e w2 ⟨rfl, hb2⟩
      go_wp2
      go_ret
      exact ⟨rfl, hbel.trans (hb2.mono hbel.size)⟩
set_option maxHeartbeats 4000000 in
set_option maxRecDepth 100000 in
theorem rsprint_any (A : Option Addr) (c : Nat) (L : List It.Itm) (w : World) (h : Its w A L) (hl : L.length ≤ 100000) (hf : ∀ y ∈ L, FitsP y) (hx : (Sh.print L).length ≤ 10000000) :
    Calls Tryd.prog 13 #[.slice A L.length c] w fun e w' => e = .returned (.string (txt (Sh.print L))) ∧ Below w.heap.size w w' := by
  obtain ⟨i0, hi, hz0, hz1, hz2⟩ := info_parts infoStr
  have HF := Lib.hid hf
  have HX := Lib.hid hx
  clear hf hx
  go_enter Tryd.func13, Tryd.ntmps13
  go_wp2_with fail
  go_loopw [3, 4] (fun v i wr => ∃ k : Nat, k ≤ L.length ∧ i = .int .i64 k ∧ wr.ownsRow w.heap.size 9 1 v k (((L.take k).map It.print).map str) ∧ Below w.heap.size w wr) (fun _ i _ => L.length - (intOf i).toNat)
  case atStart => exact ⟨0, Nat.zero_le _, rfl, World.ownsRow_nil _ _ _ _, Below.refl _ _⟩
  case round =>
    obtain ⟨k, hk, rfl, hown, hbel⟩ := hrel
    have hz := hbel.size
    by_cases hlt : k < L.length
    · obtain ⟨b, o, rfl, hb, i7⟩ := (h.below rfl hbel).at hlt
      obtain ⟨a0, a1, a2, a3, a4, a5, a6⟩ := i7.cells
      clear i7
      have PC := Lib.hid (riprint_y L[k] wr (HF.out _ (List.getElem_mem hlt)))
      have OW := Lib.hid hown
      clear hown
      go_wp2_with fail
      refine PC.out.mono ?_; rintro e w2 ⟨rfl, hb2⟩
      have hz2' := hb2.size
      have O2 := ownsRow_below OW.out hb2
      have hbX := hbel.trans (hb2.mono hz)
      have E := Lib.hid (show ((L.take (k + 1)).map It.print).map str = ((L.take k).map It.print).map str ++ [.string (txt (It.print L[k]))] by rw [List.take_succ_eq_append_getElem hlt, List.map_append, List.map_append]; rfl)
      go_wp2_with (at_builtin; refine wpList_append_own _ rfl (.tmp 11) (.tmp 17) 39 rfl w.heap.size 9 i0 (.string ByteArray.empty) 1 16 Tryd.underlying39 hi hz0 hz1 hz2 rfl (by decide) _ _ _ rfl (O2.alloc _) ⟨w2.heap.size, 0, none⟩ 1 1 [.string (txt (It.print L[k]))] rfl rfl (cell_one_new _ _ _) (fun x hx => by simp at hx; subst hx; rfl) (by unfold maxLen; omega) (by omega) (by simp; omega) ?_; intro v1 w1 hown1 hg1 _)
      have hbel1 : Below w.heap.size w w1 := (hbX.alloc (by omega) _).grown hg1 (by simp; omega) (fun g hg => (O2.lt g hg).1)
      have O1 := Lib.hid hown1
      clear hown1 hg1 O2
      go_wp2
      go_roundw
      case rel => exact ⟨k + 1, by omega, by go_num, by rw [E.out]; exact O1.out, hbel1⟩
      case measure => simp [intOf]; omega
    · obtain rfl : k = L.length := by omega
      obtain ⟨hn, A', c', rfl, hcap, hstr⟩ := Strs.of_own hown
      have e1 : L.take L.length = L := List.take_of_length_le (Nat.le_refl _)
      rw [e1] at hstr
      have T := rtext_any A' c' (L.map It.print) wr hstr (by simp; omega) HX.out
      rw [List.length_map] at T
      have TC := Lib.hid T
      clear T hn hcap hstr hown e1
      go_wp2_with fail
      refine TC.out.mono ?_; rintro e w2 ⟨rfl, rfl⟩
      go_wp2
      go_ret
      exact ⟨rfl, hbel⟩
end Go.Proofs.YtgagandecjljoaaDoor

