/-
  What the laws of layer 3 want besides: a law's argument that is an item, opened; how long what is parsed may be; that a number is written as it was read.
-/
import Derived.Test.YtgagandecjljoaaDoorItAwake
import Derived.Test.YtgagandecjljoaaDoorFigBack
import Derived.OpenShut
namespace Go.Proofs.YtgagandecjljoaaDoor
open Go.ChangeShapes Go.WideShapes Go.ChangeAt Go.RowKit

theorem num_back : It.NumBack := fun d m h => by
  have hN : Fig.parseN d m = Fig.val d := by rw [Fig.parseN, if_pos h]
  rw [Fig.parseB, Bool.and_eq_true] at h
  have hd : d.all Fig.dig = true := by
    have := h.1
    rw [Fig.form, Bool.and_eq_true] at this
    exact this.2
  rw [hN]
  exact ⟨(Fig.val_bd d hd).1, form_back d h.1⟩
def ItemLe (B : Nat) (y : It.Itm) : Prop := y.name.length ≤ B ∧ y.n ≤ 1099511627776 ∧ y.e0.n.length ≤ B ∧ y.e1.n.length ≤ B
theorem tip_le {B : Nat} {a : List UInt8} (h : a.length ≤ B) : (It.tip a).n.length ≤ B := by
  unfold It.tip
  split
  · simp; omega
  · simp [It.Tp.zero]
theorem parseN_le {d : List UInt8} {m : Int} (h : Fig.parseB d m = true) : Fig.parseN d m ≤ m := by
  rw [Fig.parseN, if_pos h]
  rw [Fig.parseB, Bool.and_eq_true, decide_eq_true_iff] at h
  exact h.2
theorem most_le (k : Int) : It.most k ≤ 1099511627776 := by
  unfold It.most; repeat (split; · decide)
  decide
theorem parseK_le {B : Nat} {k : Int} {T : List (List UInt8)} {y : It.Itm} (hT : ∀ t ∈ T, t.length ≤ B) (h : It.parseK k T = some y) : ItemLe B y := by
  unfold It.parseK at h
  split at h
  · split at h
    · split at h
      · rename_i d hp
        cases h
        have := parseN_le hp
        have := most_le k
        exact ⟨by simp, by show Fig.parseN d (It.most k) ≤ _; omega, by simp [It.Tp.zero], by simp [It.Tp.zero]⟩
      · cases h
    · cases h
  · split at h
    · split at h
      · split at h
        · rename_i m d hp
          cases h
          simp only [Bool.and_eq_true] at hp
          exact ⟨hT m (by simp), parseN_le hp.1.2, by simp [It.Tp.zero], by simp [It.Tp.zero]⟩
        · cases h
      · cases h
    · split at h
      · split at h
        · split at h
          · rename_i a b hp
            cases h
            exact ⟨by simp, by simp, tip_le (hT a (by simp)), tip_le (hT b (by simp))⟩
          · cases h
        · cases h
      · split at h
        · split at h
          · split at h
            · rename_i a hp
              cases h
              exact ⟨by simp, by simp, tip_le (hT a (by simp)), by simp [It.Tp.zero]⟩
            · cases h
          · cases h
        · split at h
          · split at h
            · split at h
              · rename_i m a hp
                cases h
                exact ⟨hT m (by simp), by simp, tip_le (hT a (by simp)), by simp [It.Tp.zero]⟩
              · cases h
            · cases h
          · cases h
theorem parse_le {l : List UInt8} {y : It.Itm} (h : It.parse l = some y) : ItemLe l.length y := by
  unfold It.parse at h
  split at h
  · rename_i hw
    have hle := words_le l hw
    cases hW : Ln.words l with
    | nil => rw [hW] at h; cases h
    | cons x T =>
      rw [hW] at h hle
      exact parseK_le (fun t ht => hle t (by simp [ht])) h
  · cases h
theorem ofV_txt (y : It.Itm) : ofV y.k (txt y.name) y.n (txt y.e0.n) y.e0.c (txt y.e1.n) y.e1.c = y := by simp [ofV, txt_toList]

theorem cI3 : Tryd.prog.cellsOf 3 = 1 := by kernel_rfl
theorem cI9 : Tryd.prog.cellsOf 9 = 1 := by kernel_rfl
theorem cI5 : Tryd.prog.cellsOf 5 = 1 := by kernel_rfl
theorem cI24 : Tryd.prog.cellsOf 36 = 4 := by kernel_rfl
theorem cI26 : Tryd.prog.cellsOf 38 = 7 := by kernel_rfl
theorem u8_of {n : Int} (h : (Lit.int .u8 n).wf = true) : ∃ c : UInt8, n = c.toNat := by
  have := wf_u8 h
  exact ⟨UInt8.ofNat n.toNat, by rw [UInt8.toNat_ofNat']; omega⟩
theorem trod_tip {H : Type} {enc : TypeId × Value → H} {w : World} {base : Nat} {sp : Nat → Bool} {held : Bool} {fuel : Nat} {c0 c1 : Value} {x : DataW H × List MemPlace}
    (h : DataW.trod enc Tryd.prog w base sp held fuel 35 [c0, c1] = some x) : ∃ (a : ByteArray) (i : UInt8), c0 = .string a ∧ c1 = .int .u8 i.toNat ∧ a.size ≤ maxLen := by
  obtain ⟨xs, n, _, _, _, hlen, hg⟩ := DataW.trod_struct Tryd.underlying35 h
  match xs, hlen with
  | [y0, y1], _ =>
    have h0 := hg 0 _ rfl
    have h1 := hg 1 _ rfl
    simp [cI9, cI5] at h0 h1
    obtain ⟨a, ha, _, hs⟩ := DataW.trod_string Tryd.underlying9 h0
    obtain ⟨i, hi, _, hw⟩ := DataW.trod_int Tryd.underlying5 h1
    obtain ⟨c, rfl⟩ := u8_of hw
    exact ⟨a, c, by simpa using ha, by simpa using hi, hs⟩
set_option maxRecDepth 100000 in
/-- Cells that read as an item. -/
theorem trod_item {H : Type} {enc : TypeId × Value → H} {w : World} {base : Nat} {sp : Nat → Bool} {held : Bool} {fuel : Nat} {cs : List Value} {x : DataW H × List MemPlace}
    (hf : DataW.trod enc Tryd.prog w base sp held fuel 38 cs = some x) :
    ∃ (k : Int) (nm : ByteArray) (n : Int) (a : ByteArray) (ac : UInt8) (b : ByteArray) (bc : UInt8), cs = [.int .i64 k, .string nm, .int .i64 n, .string a, .int .u8 ac.toNat, .string b, .int .u8 bc.toNat] ∧
      n ≤ 9223372036854775807 ∧ nm.size ≤ maxLen ∧ a.size ≤ maxLen ∧ b.size ≤ maxLen := by
  obtain ⟨xs, n, _, _, hl, hlen, hg⟩ := DataW.trod_struct Tryd.underlying38 hf
  rw [cI26] at hl
  match cs, hl with
  | [c0, c1, c2, c3, c4, c5, c6], _ =>
    match xs, hlen with
    | [y0, y1, y2, y3], _ =>
      have h0 := hg 0 _ rfl
      have h1 := hg 1 _ rfl
      have h2 := hg 2 _ rfl
      have h3 := hg 3 _ rfl
      simp [cI3, cI9, cI24] at h0 h1 h2 h3
      obtain ⟨k, hk, _, _⟩ := DataW.trod_int Tryd.underlying3 h0
      obtain ⟨nm, hnm, _, hs⟩ := DataW.trod_string Tryd.underlying9 h1
      obtain ⟨m, hm, _, hw⟩ := DataW.trod_int Tryd.underlying3 h2
      obtain ⟨zs, f, _, _, _, hl, hi⟩ := DataW.trod_array Tryd.underlying36 h3
      match zs, hl with
      | [z0, z1], _ =>
        have e0 := hi 0 (by omega)
        have e1 := hi 1 (by omega)
        simp [ctip] at e0 e1
        obtain ⟨a, ac, ha, hac, hsa⟩ := trod_tip e0
        obtain ⟨b, bc, hb, hbc, hsb⟩ := trod_tip e1
        simp only [List.cons.injEq, and_true] at hk hnm hm
        subst hk hnm hm ha hac hb hbc
        exact ⟨k, nm, m, a, ac, b, bc, rfl, (wf_i64 hw).2, hs, hsa, hsb⟩
set_option maxRecDepth 100000 in
/-- An argument that is an item: its values, and their bounds. -/
theorem open_item {H : Type} {enc : TypeId × Value → H} {w : World} {base b0 : Nat} {r : Reach} {sp : Nat → Bool} {held : Bool} {v : Value} {d : DataW H} {p : List MemPlace}
    (hval : Value.okWide Tryd.prog w r b0 38 v) (hd : DataW.Trod enc Tryd.prog w base sp held 38 v d p) :
    ∃ (k : Int) (nm : ByteArray) (n : Int) (a : ByteArray) (ac : UInt8) (b : ByteArray) (bc : UInt8), v = .agg #[.int .i64 k, .string nm, .int .i64 n, .string a, .int .u8 ac.toNat, .string b, .int .u8 bc.toNat] ∧
      n ≤ 9223372036854775807 ∧ nm.size ≤ maxLen ∧ a.size ≤ maxLen ∧ b.size ≤ maxLen := by
  obtain ⟨cs, rfl, hsz⟩ := okWide_struct Tryd.underlying38 hval
  obtain ⟨fuel, hf⟩ := hd
  obtain ⟨k, nm, n, a, ac, b, bc, hcs, h1, h2, h3, h4⟩ := trod_item hf
  obtain ⟨l⟩ := cs
  have e : l = [.int .i64 k, .string nm, .int .i64 n, .string a, .int .u8 ac.toNat, .string b, .int .u8 bc.toNat] := hcs
  subst e
  exact ⟨k, nm, n, a, ac, b, bc, rfl, h1, h2, h3, h4⟩
end Go.Proofs.YtgagandecjljoaaDoor

