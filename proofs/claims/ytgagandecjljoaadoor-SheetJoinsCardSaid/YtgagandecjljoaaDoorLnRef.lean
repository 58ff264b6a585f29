/-
  The walks of the document's answers of layer 2: lines, words, and both put together.
-/
import Derived.Test.YtgagandecjljoaaDoorLnWalks
import Derived.OwnWalk
import Derived.Deep.AppendLies
namespace Go.Proofs.YtgagandecjljoaaDoor
open Go.RowKit

theorem infoStr : (Tryd.prog.info? 9).map (fun i => (i.zero, i.size, i.bytes)) = some (some (.string ByteArray.empty), 1, 16) := by kernel_rfl

theorem byte_is (c : UInt8) (n : Nat) (h : n < 256) : ((c.toNat : Int) == (n : Int)) = decide (c = UInt8.ofNat n) := by
  rw [Bool.eq_iff_iff, beq_iff_eq, decide_eq_true_iff]
  constructor
  · intro e; apply UInt8.toNat_inj.mp; rw [UInt8.toNat_ofNat']; omega
  · rintro rfl; rw [UInt8.toNat_ofNat']; omega
theorem extract_txt (s : ByteArray) (f k : Nat) : txt ((s.data.toList.take k).drop f) = s.extract f k := by
  apply ByteArray.ext
  simp [txt, ByteArray.data_extract, List.drop_take]
  apply Array.ext'
  simp [Array.toList_extract]
theorem ref_hit (c : UInt8) (s : ByteArray) (k : Nat) (d : List (List UInt8)) (r : List UInt8) (hk : k < s.size) (hst : Ln.st c (s.data.toList.take k) = (d, r)) (h : s[k] = c) :
    Ln.st c (s.data.toList.take (k + 1)) = (d ++ [r], []) := by
  rw [take_snoc s k hk, Ln.st_snoc, hst, Ln.step, if_pos h]
theorem ref_miss (c : UInt8) (s : ByteArray) (k : Nat) (d : List (List UInt8)) (r : List UInt8) (hk : k < s.size) (hst : Ln.st c (s.data.toList.take k) = (d, r)) (h : s[k] ≠ c) :
    Ln.st c (s.data.toList.take (k + 1)) = (d, r ++ [s[k]]) := by
  rw [take_snoc s k hk, Ln.st_snoc, hst, Ln.step, if_neg h]
theorem drop_next (s : ByteArray) (f k : Nat) (r : List UInt8) (hk : k < s.size) (hf : f ≤ k) (h : (s.data.toList.take k).drop f = r) : (s.data.toList.take (k + 1)).drop f = r ++ [s[k]] := by
  rw [take_snoc s k hk, List.drop_append_of_le_length (by simp; omega), h]
theorem drop_none (s : ByteArray) (k : Nat) : (s.data.toList.take k).drop k = [] := by
  rw [List.drop_eq_nil_iff]; simp; omega

set_option maxHeartbeats 1000000 in
theorem rsplit_any (s : ByteArray) (w : World) (hs : s.size ≤ 1000000) :
    Calls Tryd.prog 15 #[.string s] w (GivesList (Ln.split s.data.toList) (Ln.whole s.data.toList) w) := by
  obtain ⟨i0, hi, hz0, hz1, hz2⟩ := info_parts infoStr
  go_enter Tryd.func15, Tryd.ntmps15
  go_wp2
  go_loopw [4, 5, 6] (fun v f i wr => ∃ (k j : Nat) (d : List (List UInt8)) (r : List UInt8), k ≤ s.size ∧ j ≤ k ∧ i = .int .i64 k ∧ f = .int .i64 j ∧ Ln.st 10 (s.data.toList.take k) = (d, r) ∧ (s.data.toList.take k).drop j = r ∧
      wr.ownsRow w.heap.size 9 1 v d.length (d.map str) ∧ Below w.heap.size w wr) (fun _ _ i _ => s.size - (intOf i).toNat)
  case atStart => exact ⟨0, 0, [], [], Nat.zero_le _, Nat.le_refl _, rfl, rfl, rfl, rfl, World.ownsRow_nil _ _ _ _, Below.refl _ _⟩
  case round =>
    obtain ⟨k, j, d, r, hk, hj, rfl, rfl, hst, hr, hown, hbel⟩ := hrel
    have hd : d.length ≤ k := by
      have := Ln.st_len 10 (s.data.toList.take k)
      rw [hst] at this
      simp at this; omega
    have hz := hbel.size
    by_cases hlt : k < s.size
    · have hb := byte_is s[k] 10 (by omega)
      by_cases hc : s[k] = 10
      · have h1 : ((s[k].toNat : Int) == 10) = true := by rw [show (10 : Int) = ((10 : Nat) : Int) from rfl, hb]; exact dec_t hc
        have N := Lib.hid (ref_hit 10 s k d r hlt hst hc)
        have X := Lib.hid (extract_txt s j k)
        rw [hr] at X
        clear hb hc hst hr
        go_wp2_with (at_builtin; refine wpList_append_own _ rfl (.tmp 17) (.tmp 22) 39 rfl w.heap.size 9 i0 (.string ByteArray.empty) 1 16 Tryd.underlying39 hi hz0 hz1 hz2 rfl (by decide) _ _ _ rfl (hown.alloc _) ⟨wr.heap.size, 0, none⟩ 1 1 [.string (s.extract j k)] rfl rfl (cell_one_new _ _ _) (fun x hx => by simp at hx; subst hx; rfl) (by unfold maxLen; omega) (by omega) (by simp; omega) ?_; intro v1 w1 hown1 hg1 _)
        have hbel1 : Below w.heap.size w w1 := (hbel.alloc hz _).grown hg1 (by simp; omega) (fun g hg => (hown.lt g hg).1)
        have O1 := Lib.hid hown1
        clear hown1 hg1 hown
        go_roundw
        case rel =>
          refine ⟨k + 1, k + 1, d ++ [r], [], by omega, by omega, by go_num, by go_num, N.out, drop_none s (k + 1), ?_, hbel1⟩
          have e1 : (d ++ [r]).map str = d.map str ++ [.string (s.extract j k)] := by rw [List.map_append, List.map_singleton, str, X.out]
          rw [e1, List.length_append, List.length_singleton]
          exact O1.out
        case measure => simp [intOf]; omega
      · have h1 : ((s[k].toNat : Int) == 10) = false := by rw [show (10 : Int) = ((10 : Nat) : Int) from rfl, hb]; exact dec_f hc
        have N := Lib.hid (ref_miss 10 s k d r hlt hst hc)
        have X := Lib.hid (drop_next s j k r hlt hj hr)
        have O := Lib.hid hown
        clear hb hc hst hr hown
        go_wp2
        go_roundw
        case rel => exact ⟨k + 1, j, d, r ++ [s[k]], by omega, by omega, by go_num, rfl, N.out, X.out, O.out, hbel⟩
        case measure => simp [intOf]; omega
    · obtain rfl : k = s.size := by omega
      have hall : s.data.toList.take s.size = s.data.toList := List.take_of_length_le (by simp)
      rw [hall] at hst hr
      have hrl : r.length = s.size - j := by rw [← hr]; simp
      have X := Lib.hid (extract_txt s j s.size)
      rw [hall, hr] at X
      by_cases hjs : j < s.size
      · have hrne : r ≠ [] := by intro e; rw [e] at hrl; simp at hrl; omega
        have e1 : Ln.whole s.data.toList = false := by rw [Ln.whole, hst]; simpa using hrne
        have e2 : Ln.split s.data.toList = d ++ [r] := by rw [Ln.split, e1, Ln.cut, hst]; rfl
        have E := Lib.hid (And.intro e1 e2)
        clear e1 e2 hst hr hrl hrne
        go_wp2_with (at_builtin; refine wpList_append_own _ rfl (.tmp 30) (.tmp 34) 39 rfl w.heap.size 9 i0 (.string ByteArray.empty) 1 16 Tryd.underlying39 hi hz0 hz1 hz2 rfl (by decide) _ _ _ rfl (hown.alloc _) ⟨wr.heap.size, 0, none⟩ 1 1 [.string (s.extract j s.size)] rfl rfl (cell_one_new _ _ _) (fun x hx => by simp at hx; subst hx; rfl) (by unfold maxLen; omega) (by omega) (by simp; omega) ?_; intro v1 w1 hown1 hg1 _)
        have hbel1 : Below w.heap.size w w1 := (hbel.alloc hz _).grown hg1 (by simp; omega) (fun g hg => (hown.lt g hg).1)
        have e3 : (d ++ [r]).map str = d.map str ++ [.string (s.extract j s.size)] := by rw [List.map_append, List.map_singleton, str, X.out]
        rw [← e3] at hown1
        obtain ⟨hn, A, c, rfl, hcap, hs1⟩ := Strs.of_own hown1
        clear hown1 hown hg1
        go_wp2
        go_ret2
        rw [E.out.1, E.out.2]
        exact GivesList.mk hcap hn rfl hs1 hbel1
      · have hrn : r = [] := by apply List.eq_nil_of_length_eq_zero; omega
        have e1 : Ln.whole s.data.toList = true := by rw [Ln.whole, hst, hrn]; rfl
        have e2 : Ln.split s.data.toList = d := by rw [Ln.split, e1, hst]; rfl
        have E := Lib.hid (And.intro e1 e2)
        obtain ⟨hn, A, c, rfl, hcap, hs1⟩ := Strs.of_own hown
        clear e1 e2 hst hr hrl hrn hown
        go_wp2
        go_ret2
        rw [E.out.1, E.out.2]
        exact GivesList.mk hcap rfl rfl hs1 hbel

theorem take_line (L : List (List UInt8)) (k : Nat) (h : k < L.length) : Ln.line (L.take (k + 1)) = if k = 0 then L[k] else Ln.line (L.take k) ++ [32] ++ L[k] := by
  rw [List.take_succ_eq_append_getElem h, Ln.line, Ln.join_snoc]
  by_cases h0 : k = 0
  · subst h0; simp
  · rw [if_neg h0]
    obtain ⟨j, rfl⟩ : ∃ j, k = j + 1 := ⟨k - 1, by omega⟩
    have e : L.take (j + 1) = L.take j ++ [L[j]] := List.take_succ_eq_append_getElem (by omega)
    rw [e, Ln.line, Ln.join_snoc]
    simp only [List.map_append, List.flatten_append, List.map_cons, List.map_nil, List.flatten_cons, List.flatten_nil, List.append_nil, List.append_assoc]
theorem line_take_le (L : List (List UInt8)) : ∀ k, (Ln.line (L.take k)).length ≤ (Ln.line (L.take (k + 1))).length := by
  intro k
  by_cases h : k < L.length
  · rw [take_line L k h]
    split
    · rename_i h0; subst h0; simp [Ln.line, Lib.join]
    · rw [List.length_append, List.length_append]; omega
  · rw [List.take_of_length_le (by omega), List.take_of_length_le (by omega)]; omega
theorem line_take (L : List (List UInt8)) (k : Nat) : (Ln.line (L.take k)).length ≤ (Ln.line L).length := by
  by_cases h : k < L.length
  · have : ∀ n, (Ln.line (L.take k)).length ≤ (Ln.line (L.take (k + n))).length := by
      intro n
      induction n with
      | zero => simp
      | succ n ih => have := line_take_le L (k + n); rw [show k + (n + 1) = k + n + 1 by omega]; omega
    have := this (L.length - k)
    rwa [List.take_of_length_le (show L.length ≤ k + (L.length - k) by omega)] at this
  · rw [List.take_of_length_le (by omega)]; omega
theorem txt_add (a b : List UInt8) : txt a ++ txt b = txt (a ++ b) := by
  apply ByteArray.ext
  simp [txt, ByteArray.data_append]

set_option maxHeartbeats 1000000 in
theorem rtext_any (A : Option Addr) (c : Nat) (L : List (List UInt8)) (w : World) (h : Strs w A L) (hl : L.length ≤ 1000000) (hx : (Ln.text L).length ≤ 10000000) :
    Calls Tryd.prog 22 #[.slice A L.length c] w fun e w' => e = .returned (.string (txt (Ln.text L))) ∧ w = w' := by
  go_enter Tryd.func22, Tryd.ntmps22
  go_wp2
  go_loop [3, 4] (fun t i => ∃ k : Nat, k ≤ L.length ∧ i = .int .i64 k ∧ t = .string (txt (Ln.text (L.take k)))) (fun _ i => L.length - (intOf i).toNat)
  case atStart => exact ⟨0, Nat.zero_le _, rfl, rfl⟩
  case round =>
    obtain ⟨k, hk, rfl, rfl⟩ := hrel
    by_cases hlt : k < L.length
    · have ht := text_take L k hlt
      have hle := text_take_le L (k + 1)
      rw [ht] at hle
      simp only [List.length_append, List.length_singleton] at hle
      obtain ⟨a, rfl, hb, hc⟩ := h.cell hlt
      rw [str] at hc
      have hq := txt_size L[k]
      have hq2 := txt_size (Ln.text (L.take k))
      have HT := Lib.hid ht
      clear ht
      go_wp2
      go_round
      case rel => exact ⟨k + 1, by omega, by go_num, by rw [HT.out, ← txt_add, ← txt_add]; rfl⟩
      case measure => simp [intOf]; omega
    · have e : L.take k = L := List.take_of_length_le (by omega)
      rw [e]
      go_wp2
      go_ret
      exact ⟨rfl, rfl⟩

set_option maxHeartbeats 1000000 in
theorem rline_any (A : Option Addr) (c : Nat) (L : List (List UInt8)) (w : World) (h : Strs w A L) (hl : L.length ≤ 1000000) (hx : (Ln.line L).length ≤ 10000000) :
    Calls Tryd.prog 42 #[.slice A L.length c] w fun e w' => e = .returned (.string (txt (Ln.line L))) ∧ w = w' := by
  go_enter Tryd.func42, Tryd.ntmps42
  go_wp2
  go_loop [3, 4] (fun t i => ∃ k : Nat, k ≤ L.length ∧ i = .int .i64 k ∧ t = .string (txt (Ln.line (L.take k)))) (fun _ i => L.length - (intOf i).toNat)
  case atStart => exact ⟨0, Nat.zero_le _, rfl, rfl⟩
  case round =>
    obtain ⟨k, hk, rfl, rfl⟩ := hrel
    by_cases hlt : k < L.length
    · have ht := take_line L k hlt
      have hle := line_take L (k + 1)
      have hle0 := line_take L k
      obtain ⟨a, rfl, hb, hc⟩ := h.cell hlt
      rw [str] at hc
      have hq := txt_size L[k]
      have hq2 := txt_size (Ln.line (L.take k))
      by_cases h0 : k = 0
      · rw [if_pos h0] at ht
        rw [ht] at hle
        have HT := Lib.hid ht
        have h1 : ¬ 0 < k := by omega
        have H0 := Lib.hid h0
        clear ht h0
        go_wp2
        go_round
        case rel => exact ⟨k + 1, by omega, by go_num, by
          have h0 := H0.out
          rw [HT.out]
          subst h0
          exact congrArg Value.string (txt_add [] _)⟩
        case measure => simp [intOf]; omega
      · rw [if_neg h0] at ht
        rw [ht] at hle
        simp only [List.length_append, List.length_singleton] at hle
        have h1 : 0 < k := by omega
        have HT := Lib.hid ht
        clear ht h0
        go_wp2
        go_round
        case rel => exact ⟨k + 1, by omega, by go_num, by rw [HT.out, ← txt_add, ← txt_add]; rfl⟩
        case measure => simp [intOf]; omega
    · have e : L.take k = L := List.take_of_length_le (by omega)
      rw [e]
      go_wp2
      go_ret
      exact ⟨rfl, rfl⟩

theorem setLast (d : List (List UInt8)) (r r' : List UInt8) : ((d ++ [r]).map str).set d.length (str r') = (d ++ [r']).map str := by
  simp
theorem okw_bd {c : UInt8} (h : Ln.okw c = true) : 33 ≤ (c.toNat : Int) ∧ (c.toNat : Int) ≤ 126 := by simpa [Ln.okw] using h
theorem okw_no {c : UInt8} (h : Ln.okw c = false) (h2 : c ≠ 32) : (c.toNat : Int) < 32 ∨ 127 ≤ (c.toNat : Int) := by
  have h3 : (c.toNat : Int) ≠ 32 := fun e => h2 (UInt8.toNat_inj.mp (by simpa using Int.ofNat.inj e))
  simp [Ln.okw] at h
  omega
theorem ws_bad {s : ByteArray} {k : Nat} (hk : k < s.size) (h : Ln.okw s[k] = false) (h2 : s[k] ≠ 32) : Ln.ws true s.data.toList = false := by
  rw [Ln.ws_eq]
  have : s.data.toList.all Ln.okb = false := by
    rw [List.all_eq_false]
    refine ⟨s[k], ?_, by simp [Ln.okb, h, h2]⟩
    exact List.getElem_mem (l := s.data.toList) (n := k) (by simpa using hk)
  rw [this, Bool.false_and]

set_option maxHeartbeats 2000000 in
set_option maxRecDepth 100000 in
theorem rwords_any (s : ByteArray) (w : World) (hs : s.size ≤ 1000000) :
    Calls Tryd.prog 23 #[.string s] w (GivesList (Ln.words s.data.toList) (Ln.ws true s.data.toList) w) := by
  obtain ⟨i0, hi, hz0, hz1, hz2⟩ := info_parts infoStr
  go_enter Tryd.func23, Tryd.ntmps23
  go_wp2
  go_loopw [4, 5] (fun v i wr => ∃ (k : Nat) (d : List (List UInt8)) (r : List UInt8) (g cap : Nat), k ≤ s.size ∧ i = .int .i64 k ∧ v = .slice (some ⟨g, 0, none⟩) (d.length + 1) cap ∧ Ln.st 32 (s.data.toList.take k) = (d, r) ∧ (s.data.toList.take k).all Ln.okb = true ∧
      wr.ownsRow w.heap.size 9 1 (.slice (some ⟨g, 0, none⟩) (d.length + 1) cap) (d.length + 1) ((d ++ [r]).map str) ∧ Below w.heap.size w wr) (fun _ i _ => s.size - (intOf i).toNat)
  case atStart => exact ⟨0, [], [], w.heap.size, 1, Nat.zero_le _, rfl, rfl, rfl, rfl, World.ownsRow_lit w _ 1 (Nat.le_refl _) (by unfold maxLen; omega) rfl, (Below.refl _ _).alloc (Nat.le_refl _) _⟩
  case round =>
    obtain ⟨k, d, r, g, cap, hk, rfl, rfl, hst, hall, hown, hbel⟩ := hrel
    have hd : d.length ≤ k := by
      have := Ln.st_len 32 (s.data.toList.take k)
      rw [hst] at this
      simp at this; omega
    have hz := hbel.size
    by_cases hlt : k < s.size
    · by_cases hc : s[k] = 32
      · have h1 : ((s[k].toNat : Int) == 32) = true := byte32.mpr hc
        have N := Lib.hid (ref_hit 32 s k d r hlt hst hc)
        have AL := Lib.hid (all_snoc (p := Ln.okb) hlt hall (by rw [hc]; rfl))
        clear hc hst hall
        go_wp2_with (at_builtin; refine wpList_append_own _ rfl (.tmp 19) (.tmp 20) 39 rfl w.heap.size 9 i0 (.string ByteArray.empty) 1 16 Tryd.underlying39 hi hz0 hz1 hz2 rfl (by decide) _ _ _ rfl (hown.alloc _) ⟨wr.heap.size, 0, none⟩ 1 1 [.string ⟨#[]⟩] rfl rfl (cell_one_new _ _ _) (fun x hx => by simp at hx; subst hx; rfl) (by unfold maxLen; omega) (by omega) (by simp; omega) ?_; intro v1 w1 hown1 hg1 _)
        have hbel1 : Below w.heap.size w w1 := (hbel.alloc hz _).grown hg1 (by simp; omega) (fun g hg => (hown.lt g hg).1)
        obtain ⟨g1, cap1, hv1⟩ : ∃ g1 cap1, v1 = .slice (some ⟨g1, 0, none⟩) (d.length + 1 + 1) cap1 := by
          obtain ⟨g1, cap1, h, _⟩ := hown1.form (by omega)
          exact ⟨g1, cap1, h⟩
        subst hv1
        have O1 := Lib.hid hown1
        clear hown1 hg1 hown
        go_roundw
        case rel =>
          refine ⟨k + 1, d ++ [r], [], g1, cap1, by omega, by go_num, by simp, N.out, AL.out, ?_, hbel1⟩
          have e1 : ((d ++ [r]) ++ [[]]).map str = (d ++ [r]).map str ++ [.string ⟨#[]⟩] := by rw [List.map_append (l₂ := [[]])]; rfl
          rw [e1, List.length_append, List.length_singleton]
          exact O1.out
        case measure => simp [intOf]; omega
      · have h1 : ((s[k].toNat : Int) == 32) = false := by
          rw [Bool.eq_false_iff]; exact fun e => hc (byte32.mp e)
        cases ho : Ln.okw s[k]
        · have W := Lib.hid (ws_bad hlt ho hc)
          have h2 := okw_no ho hc
          clear hc ho hst hall hown
          rcases h2 with h2 | h2
          all_goals
            go_wp2
            go_ret2
            rw [Ln.words, W.out]
            exact GivesList.mk (n := 0) (c := 0) (by omega) rfl rfl (Strs.nil _ _) hbel
        · have h2 := okw_bd ho
          have N := Lib.hid (ref_miss 32 s k d r hlt hst hc)
          have AL := Lib.hid (all_snoc (p := Ln.okb) hlt hall (by simp [Ln.okb, ho]))
          have hr : r.length ≤ k := by
            have := congrArg List.length (Ln.st_join 32 (s.data.toList.take k))
            rw [hst] at this
            simp at this; omega
          have hcell : wr.cell? ⟨g, d.length, none⟩ = some (.string (txt r)) := by
            rw [hown.cellAt d.length (by omega)]; simp [str]
          have hfz := hown.frozenAt d.length
          have hsz := txt_size r
          clear hc ho hst hall
          have O := Lib.hid hown
          have hadd : (txt r).size + (s.extract k (k + 1)).size ≤ 9223372036854775807 := by rw [hsz, ByteArray.size_extract]; omega
          clear hown hsz
          go_wp2
          go_region
          go_wp2
          go_roundw
          case rel =>
            have e1 : txt r ++ s.extract k (k + 1) = txt (r ++ [s[k]]) := by
              rw [← extract_txt, take_snoc s k hlt, List.drop_append_of_le_length (by simp; omega), drop_none, List.nil_append, txt_add]
            have st := (O.out.drew).stored d.length (str (r ++ [s[k]]))
            rw [setLast] at st
            refine ⟨k + 1, d, r ++ [s[k]], g, cap, by omega, by go_num, rfl, N.out, AL.out, ?_, ?_⟩
            · rw [e1]; exact st.1
            · rw [e1]; exact hbel.drew.setCell (by have := (O.out.lt g (by simp [Value.ownBlock])).1; exact this) _
          case measure => simp [intOf]; omega
    · obtain rfl : k = s.size := by omega
      have e0 : s.data.toList.take s.size = s.data.toList := List.take_of_length_le (by simp)
      rw [e0] at hst hall
      have hcut : Ln.cut 32 s.data.toList = d ++ [r] := by rw [Ln.cut, hst]
      have hws : Ln.ws true s.data.toList = (d ++ [r]).all (fun x => !x.isEmpty) := by rw [Ln.ws_eq, hall, hcut, Bool.true_and]
      have E := Lib.hid (And.intro hcut hws)
      obtain ⟨hn, A, c, hv, hcap, hs1⟩ := Strs.of_own hown
      cases hv
      have HN := Lib.hid hn
      have hdb : d.length ≤ 1000000 := by omega
      clear e0 hst hall hcut hws hown hn
      go_wp2
      go_loop [6] (fun i => ∃ j : Nat, j ≤ d.length + 1 ∧ i = .int .i64 j ∧ ((d ++ [r]).take j).all (fun x => !x.isEmpty) = true) (fun i => d.length + 1 - (intOf i).toNat)
      case atStart => exact ⟨0, Nat.zero_le _, rfl, rfl⟩
      case round =>
        obtain ⟨j, hj, rfl, ha⟩ := hrel
        have HA := Lib.hid ha
        clear ha
        by_cases hlt2 : j < d.length + 1
        · have hjl : j < (d ++ [r]).length := by rw [← HN.out]; exact hlt2
          obtain ⟨a, ha, hb, hcl⟩ := hs1.cell hjl
          cases ha
          rw [str] at hcl
          rw [Go.WideShapes.add_plain, Nat.zero_add] at hcl
          by_cases he : (d ++ [r])[j] = []
          · have h1 := isE_t he
            have HE := Lib.hid he
            clear he
            go_wp2
            go_ret2
            have : (d ++ [r]).all (fun x => !x.isEmpty) = false := by
              rw [List.all_eq_false]
              exact ⟨_, List.getElem_mem hjl, by rw [HE.out]; simp⟩
            rw [Ln.words, E.out.2, this]
            exact GivesList.mk (n := 0) (c := 0) (by omega) rfl rfl (Strs.nil _ _) hbel
          · have h1 := isE_f he
            have HE := Lib.hid he
            clear he
            go_wp2
            go_round
            case rel => exact ⟨j + 1, by omega, by go_num, by rw [List.take_succ_eq_append_getElem hjl, List.all_append, HA.out]; simpa using HE.out⟩
            case measure => simp [intOf]; omega
        · have : (d ++ [r]).all (fun x => !x.isEmpty) = true := by
            have := HA.out
            rwa [List.take_of_length_le (by rw [← HN.out]; omega)] at this
          have H2 := Lib.hid this
          clear this
          go_wp2
          go_ret2
          have hw : Ln.ws true s.data.toList = true := by rw [E.out.2, H2.out]
          rw [Ln.words, hw, if_pos rfl, E.out.1]
          exact GivesList.mk hcap HN.out rfl hs1 hbel
end Go.Proofs.YtgagandecjljoaaDoor

