/-
  The walks of layer 3's Tip and of the document's answer to it.
-/
import Derived.Test.YtgagandecjljoaaDoorItSmall
namespace Go.Proofs.YtgagandecjljoaaDoor
open Go.RowKit

theorem tip_short {s : ByteArray} (h : s.size < 3) : It.tipOk s.data.toList = false := by
  have : s.data.toList.length = s.size := by simp
  rw [It.tipOk, show decide (3 ≤ s.data.toList.length) = false from dec_f (by omega)]; rfl
theorem get_opt {s : ByteArray} {k : Nat} (h : k < s.size) : s.data.toList[k]? = some s[k] := by
  rw [List.getElem?_eq_getElem (by simpa using h)]; rfl
theorem tip_long {s : ByteArray} (h : 2 ≤ s.size) : It.tipOk s.data.toList = (decide (3 ≤ s.size) && decide (s[s.size - 2] = 46) && It.letter s[s.size - 1] && Fig.nameB (s.data.toList.take (s.size - 2))) := by
  have e : s.data.toList.length = s.size := by simp
  rw [It.tipOk, e, get_opt (by omega : s.size - 2 < s.size), get_opt (by omega : s.size - 1 < s.size)]
  simp
theorem take_extract (s : ByteArray) (k : Nat) : s.extract 0 k = txt (s.data.toList.take k) := by
  apply ByteArray.ext
  simp [txt, ByteArray.data_extract]
  apply Array.ext'
  simp [Array.toList_extract]

theorem tip_no {l : List UInt8} (h : It.tipOk l = false) : It.tip l = It.Tp.zero := by rw [It.tip, h]; rfl
theorem tip_yes {s : ByteArray} (h2 : 2 ≤ s.size) (h : It.tipOk s.data.toList = true) : It.tip s.data.toList = ⟨s.data.toList.take (s.size - 2), s[s.size - 1]⟩ := by
  have e : s.data.toList.length = s.size := by simp
  rw [It.tip, if_pos h, e, get_opt (by omega : s.size - 1 < s.size)]; rfl
theorem fig_len {l : List UInt8} (h : Fig.nameB l = true) : 1 ≤ l.length ∧ l.length ≤ 8 := by
  rw [Fig.nameB, Bool.and_eq_true, decide_eq_true_iff] at h; exact h.1
theorem retT {t u : It.Tp} {b c : Bool} (h : t = u) (k : b = c) : Ending.returned (.tuple #[.agg #[str t.n, .int .u8 t.c.toNat], .bool b]) = .returned (.tuple #[.agg #[str u.n, .int .u8 u.c.toNat], .bool c]) := by rw [h, k]
/-- The four ways of an end's tests: too short; no point; no letter; no name; or all is well. -/
theorem tip_ways (s : ByteArray) (h : 2 ≤ s.size) :
    (((s[s.size - 2].toNat : Int) != 46) = true ∧ It.tipOk s.data.toList = false) ∨
    (((s[s.size - 2].toNat : Int) != 46) = false ∧ It.letter s[s.size - 1] = false ∧ It.tipOk s.data.toList = false) ∨
    (((s[s.size - 2].toNat : Int) != 46) = false ∧ It.letter s[s.size - 1] = true ∧ Fig.nameB (s.data.toList.take (s.size - 2)) = false ∧ It.tipOk s.data.toList = false) ∨
    (((s[s.size - 2].toNat : Int) != 46) = false ∧ It.letter s[s.size - 1] = true ∧ Fig.nameB (s.data.toList.take (s.size - 2)) = true ∧ It.tipOk s.data.toList = true ∧ 3 ≤ s.size) := by
  have e := tip_long h
  by_cases h46 : s[s.size - 2] = 46
  · have b46 : ((s[s.size - 2].toNat : Int) != 46) = false := by rw [h46]; rfl
    rw [show decide (s[s.size - 2] = 46) = true from dec_t h46] at e
    cases hl : It.letter s[s.size - 1]
    · exact Or.inr (Or.inl ⟨b46, rfl, by rw [e, hl]; simp⟩)
    · cases hn : Fig.nameB (s.data.toList.take (s.size - 2))
      · exact Or.inr (Or.inr (Or.inl ⟨b46, rfl, rfl, by rw [e, hn]; simp⟩))
      · have := fig_len hn
        have h3 : 3 ≤ s.size := by
          simp at this; omega
        exact Or.inr (Or.inr (Or.inr ⟨b46, rfl, rfl, by rw [e, hl, hn, dec_t h3]; rfl, h3⟩))
  · have b46 : ((s[s.size - 2].toNat : Int) != 46) = true := by
      rw [bne_iff_ne]
      intro hc
      apply h46
      apply UInt8.toNat_inj.mp
      show s[s.size - 2].toNat = 46
      omega
    exact Or.inl ⟨b46, by rw [e, dec_f h46]; simp⟩
set_option maxHeartbeats 1000000 in
theorem tip_any (s : ByteArray) (w : World) (hs : s.size ≤ maxLen) :
    Calls Tryd.prog 61 #[.string s] w fun e w' => e = .returned (.tuple #[.agg #[str (It.tip s.data.toList).n, .int .u8 (It.tip s.data.toList).c.toNat], .bool (It.tipOk s.data.toList)]) ∧ Below w.heap.size w w' := by
  unfold maxLen at hs
  by_cases h2 : s.size < 2
  · have h0 : decide ((s.size : Int) - 2 < 0) = true := dec_t (by omega)
    have HO := Lib.hid (tip_short (s := s) (by omega))
    have HT := Lib.hid (tip_no HO.out)
    go_enter Tryd.func61, Tryd.ntmps61
    go_wp2_with fail
    exact bodyPost_ret (v := .tuple #[.agg #[str It.Tp.zero.n, .int .u8 It.Tp.zero.c.toNat], .bool false]) (by simp [results, Tryd.results61, go_sem, str, txt, It.Tp.zero]) rfl ⟨retT HT.out.symm HO.out.symm, (Below.refl _ _).alloc (Nat.le_refl _) _⟩
  · have h2' : 2 ≤ s.size := by omega
    have e1 : s.size - 2 + 1 = s.size - 1 := by omega
    have sz : (s.extract 0 (s.size - 2)).size ≤ maxLen := by rw [take_extract, txt_size]; unfold maxLen; simp; omega
    have L := Lib.hid (fun w => by have := iletter_any s[s.size - 1] w; exact this)
    have NM := Lib.hid (fun w => by have := name_any (s.extract 0 (s.size - 2)) w sz; rw [show (s.extract 0 (s.size - 2)).data.toList = s.data.toList.take (s.size - 2) by rw [take_extract, txt_toList]] at this; exact this)
    clear sz
    rcases tip_ways s h2' with ⟨h46, ho⟩ | ⟨h46, hl, ho⟩ | ⟨h46, hl, hn, ho⟩ | ⟨h46, hl, hn, ho, h3⟩
    · have HO := Lib.hid ho
      have HT := Lib.hid (tip_no ho)
      clear ho
      go_enter Tryd.func61, Tryd.ntmps61
      go_wp2_with fail
      exact bodyPost_ret (v := .tuple #[.agg #[str It.Tp.zero.n, .int .u8 It.Tp.zero.c.toNat], .bool false]) (by simp [results, Tryd.results61, go_sem, str, txt, It.Tp.zero]) rfl ⟨retT HT.out.symm HO.out.symm, (Below.refl _ _).alloc (Nat.le_refl _) _⟩
    · have HO := Lib.hid ho
      have HT := Lib.hid (tip_no ho)
      clear ho
      go_enter Tryd.func61, Tryd.ntmps61
      go_wp2_with fail
      refine (L.out _).mono ?_; rintro e w' ⟨rfl, rfl⟩
      go_wp2_with fail
      exact bodyPost_ret (v := .tuple #[.agg #[str It.Tp.zero.n, .int .u8 It.Tp.zero.c.toNat], .bool false]) (by simp [results, Tryd.results61, go_sem, str, txt, It.Tp.zero]) rfl ⟨retT HT.out.symm HO.out.symm, (Below.refl _ _).alloc (Nat.le_refl _) _⟩
    · have HO := Lib.hid ho
      have HT := Lib.hid (tip_no ho)
      clear ho
      go_enter Tryd.func61, Tryd.ntmps61
      go_wp2_with fail
      refine (L.out _).mono ?_; rintro e w' ⟨rfl, rfl⟩
      go_wp2_with fail
      refine (NM.out _).mono ?_; rintro e w' ⟨rfl, rfl⟩
      go_wp2_with fail
      exact bodyPost_ret (v := .tuple #[.agg #[str It.Tp.zero.n, .int .u8 It.Tp.zero.c.toNat], .bool false]) (by simp [results, Tryd.results61, go_sem, str, txt, It.Tp.zero]) rfl ⟨retT HT.out.symm HO.out.symm, (Below.refl _ _).alloc (Nat.le_refl _) _⟩
    · have HO := Lib.hid ho
      have HT := Lib.hid (tip_yes h2' ho)
      clear ho
      go_enter Tryd.func61, Tryd.ntmps61
      go_wp2_with fail
      refine (L.out _).mono ?_; rintro e w' ⟨rfl, rfl⟩
      go_wp2_with fail
      refine (NM.out _).mono ?_; rintro e w' ⟨rfl, rfl⟩
      go_wp2_with fail
      go_region
      go_wp2_with fail
      refine bodyPost_ret (v := .tuple #[.agg #[.string (s.extract 0 (s.size - 2)), .int .u8 s[s.size - 1].toNat], .bool true]) (by simp [results, Tryd.results61, go_sem]) rfl ⟨?_, ((Below.refl _ _).alloc (Nat.le_refl _) _).drew⟩
      rw [take_extract]; exact retT HT.out.symm HO.out.symm
set_option maxHeartbeats 1000000 in
theorem rtip_any (s : ByteArray) (w : World) (hs : s.size ≤ maxLen) :
    Calls Tryd.prog 28 #[.string s] w fun e w' => e = .returned (.tuple #[.agg #[str (It.tip s.data.toList).n, .int .u8 (It.tip s.data.toList).c.toNat], .bool (It.tipOk s.data.toList)]) ∧ Below w.heap.size w w' := by
  unfold maxLen at hs
  by_cases h2 : s.size < 3
  · have h0 : decide ((s.size : Int) < 3) = true := dec_t (by omega)
    have HO := Lib.hid (tip_short (s := s) (by omega))
    have HT := Lib.hid (tip_no HO.out)
    go_enter Tryd.func28, Tryd.ntmps28
    go_wp2_with fail
    exact bodyPost_ret (v := .tuple #[.agg #[str It.Tp.zero.n, .int .u8 It.Tp.zero.c.toNat], .bool false]) (by simp [results, Tryd.results28, go_sem, str, txt, It.Tp.zero]) rfl ⟨retT HT.out.symm HO.out.symm, (Below.refl _ _).alloc (Nat.le_refl _) _⟩
  · have h2' : 2 ≤ s.size := by omega
    have e1 : s.size - 2 + 1 = s.size - 1 := by omega
    have sz : (s.extract 0 (s.size - 2)).size ≤ maxLen := by rw [take_extract, txt_size]; unfold maxLen; simp; omega
    have L := Lib.hid (fun w => by have := rletter_any s[s.size - 1] w; exact this)
    have NM := Lib.hid (fun w => by have := rname_any (s.extract 0 (s.size - 2)) w sz; rw [show (s.extract 0 (s.size - 2)).data.toList = s.data.toList.take (s.size - 2) by rw [take_extract, txt_toList]] at this; exact this)
    clear sz
    rcases tip_ways s h2' with ⟨h46, ho⟩ | ⟨h46, hl, ho⟩ | ⟨h46, hl, hn, ho⟩ | ⟨h46, hl, hn, ho, h3⟩
    · have HO := Lib.hid ho
      have HT := Lib.hid (tip_no ho)
      clear ho
      go_enter Tryd.func28, Tryd.ntmps28
      go_wp2_with fail
      exact bodyPost_ret (v := .tuple #[.agg #[str It.Tp.zero.n, .int .u8 It.Tp.zero.c.toNat], .bool false]) (by simp [results, Tryd.results28, go_sem, str, txt, It.Tp.zero]) rfl ⟨retT HT.out.symm HO.out.symm, (Below.refl _ _).alloc (Nat.le_refl _) _⟩
    · have HO := Lib.hid ho
      have HT := Lib.hid (tip_no ho)
      clear ho
      go_enter Tryd.func28, Tryd.ntmps28
      go_wp2_with fail
      refine (L.out _).mono ?_; rintro e w' ⟨rfl, rfl⟩
      go_wp2_with fail
      exact bodyPost_ret (v := .tuple #[.agg #[str It.Tp.zero.n, .int .u8 It.Tp.zero.c.toNat], .bool false]) (by simp [results, Tryd.results28, go_sem, str, txt, It.Tp.zero]) rfl ⟨retT HT.out.symm HO.out.symm, (Below.refl _ _).alloc (Nat.le_refl _) _⟩
    · have HO := Lib.hid ho
      have HT := Lib.hid (tip_no ho)
      clear ho
      go_enter Tryd.func28, Tryd.ntmps28
      go_wp2_with fail
      refine (L.out _).mono ?_; rintro e w' ⟨rfl, rfl⟩
      go_wp2_with fail
      refine (NM.out _).mono ?_; rintro e w' ⟨rfl, rfl⟩
      go_wp2_with fail
      exact bodyPost_ret (v := .tuple #[.agg #[str It.Tp.zero.n, .int .u8 It.Tp.zero.c.toNat], .bool false]) (by simp [results, Tryd.results28, go_sem, str, txt, It.Tp.zero]) rfl ⟨retT HT.out.symm HO.out.symm, (Below.refl _ _).alloc (Nat.le_refl _) _⟩
    · have HO := Lib.hid ho
      have HT := Lib.hid (tip_yes h2' ho)
      clear ho
      go_enter Tryd.func28, Tryd.ntmps28
      go_wp2_with fail
      refine (L.out _).mono ?_; rintro e w' ⟨rfl, rfl⟩
      go_wp2_with fail
      refine (NM.out _).mono ?_; rintro e w' ⟨rfl, rfl⟩
      go_wp2_with fail
      go_region
      go_wp2_with fail
      refine bodyPost_ret (v := .tuple #[.agg #[.string (s.extract 0 (s.size - 2)), .int .u8 s[s.size - 1].toNat], .bool true]) (by simp [results, Tryd.results28, go_sem]) rfl ⟨?_, ((Below.refl _ _).alloc (Nat.le_refl _) _).drew⟩
      rw [take_extract]; exact retT HT.out.symm HO.out.symm
end Go.Proofs.YtgagandecjljoaaDoor

