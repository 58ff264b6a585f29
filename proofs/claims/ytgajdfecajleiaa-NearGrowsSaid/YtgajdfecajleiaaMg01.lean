/-
  Texts of this claim, merged: FigSpec, FigWalks, FigNames, Txt, FigPrint, LawKit, LnSpec, LnMem, AppK, LnSmall, LnWalks, LnRef.
-/
import Derived.Test.YtgajdfecajleiaaRows
import Derived.BigFrame
import Derived.BigQuiet
import Derived.Carry
import Derived.Deep.AppendLies
import Derived.Deep.DeepHandedRow
import Derived.Deep.QuietTactic
import Derived.Deep.RegionWith
import Derived.Lib.AppendIntMem
import Derived.Lib.Hide
import Derived.Lib.ItoaLen
import Derived.Lib.Join
import Derived.Lib.LaidTab
import Derived.Lib.Split
import Derived.Lib.SplitLaws
import Derived.OpenShut
import Derived.Outline
import Derived.OwnWalk
import Derived.ProofKit
import Derived.Stop.LaidErr
import Derived.WalkKit
import Derived.WalkLawsBesides
import Derived.WalkSpells
/-
  Plain facts on lists of bytes for layer 1: what a digit, a number's text and a name are. No program.
-/
namespace Go.Proofs.Ytgajdfecajleiaa.Fig

def dig (c : UInt8) : Bool := decide (48 ≤ (c.toNat : Int) ∧ (c.toNat : Int) ≤ 57)
def let_ (c : UInt8) : Bool := decide ((97 ≤ (c.toNat : Int) ∧ (c.toNat : Int) ≤ 122) ∨ (65 ≤ (c.toNat : Int) ∧ (c.toNat : Int) ≤ 90))
def nameB (l : List UInt8) : Bool := decide (1 ≤ l.length ∧ l.length ≤ 8) && l.all fun c => dig c || let_ c
/-- the number that the digits tell -/
def val (l : List UInt8) : Int := l.foldl (fun n c => 10 * n + ((c.toNat : Int) - 48)) 0
def pad (l : List UInt8) : Bool := decide (1 < l.length) && l.head? == some 48
def form (l : List UInt8) : Bool := decide (1 ≤ l.length ∧ l.length ≤ 13) && !pad l && l.all dig
def parseB (l : List UInt8) (most : Int) : Bool := form l && decide (val l ≤ most)
def parseN (l : List UInt8) (most : Int) : Int := if parseB l most then val l else 0

theorem val_snoc (l : List UInt8) (c : UInt8) : val (l ++ [c]) = 10 * val l + ((c.toNat : Int) - 48) := by
  simp [val, List.foldl_append]
theorem val_bd (l : List UInt8) (h : l.all dig = true) : 0 ≤ val l ∧ val l < 10 ^ l.length := by
  suffices H : ∀ (r : List UInt8), r.all dig = true → 0 ≤ val r.reverse ∧ val r.reverse < 10 ^ r.length by
    have := H l.reverse (by simpa using h)
    simpa using this
  intro r
  induction r with
  | nil => intro _; simp [val]
  | cons c r ih =>
    intro h
    simp only [List.all_cons, Bool.and_eq_true] at h
    have h1 := ih h.2
    have h2 : 48 ≤ (c.toNat : Int) ∧ (c.toNat : Int) ≤ 57 := by simpa [dig] using h.1
    rw [List.reverse_cons, val_snoc]
    simp only [List.length_cons, Int.pow_succ]
    omega
end Go.Proofs.Ytgajdfecajleiaa.Fig
/-
  The walks of layer 1's functions and of the document's answers to it: each returns what the plain functions of the text before say, and leaves the world as it was.
-/
namespace Go.Proofs.Ytgajdfecajleiaa
open Go.RowKit

theorem retB {a b : Bool} (h : a = b) : Ending.returned (.bool a) = .returned (.bool b) := by rw [h]

set_option maxHeartbeats 400000 in
theorem rdigit_any (c : UInt8) (w : World) :
    Calls Try.prog 47 #[.int .u8 c.toNat] w fun e w' => e = .returned (.bool (Fig.dig c)) ∧ w = w' := by
  go_enter Try.func47, Try.ntmps47
  go_wp2
  all_goals (go_ret; refine ⟨retB ?_, rfl⟩; simp [Fig.dig]; try omega)
theorem pad_long (s : ByteArray) (h : 0 < s.size) (h1 : 1 < s.size) : Fig.pad s.data.toList = ((s[0].toNat : Int) == 48) := by
  have e : s.data.toList.head? = some s[0] := by
    rw [List.head?_eq_getElem?]
    exact List.getElem?_eq_getElem (by simpa using h)
  have hl : 1 < s.data.toList.length := by simpa using h1
  rw [Fig.pad, e, Bool.eq_iff_iff]
  simp only [hl, decide_true, Bool.true_and, beq_iff_eq, Option.some.injEq]
  constructor
  · intro h; rw [h]; rfl
  · intro h; exact UInt8.toNat_inj.mp (by simpa using Int.ofNat.inj h)
theorem pad_yes (s : ByteArray) (h : Fig.pad s.data.toList = true) : 1 < s.size ∧ ∀ h0 : 0 < s.size, ((s[0]'h0).toNat : Int) = 48 := by
  by_cases h1 : 1 < s.size
  · refine ⟨h1, fun h0 => ?_⟩
    rw [pad_long s h0 h1] at h
    exact beq_iff_eq.mp h
  · rw [Fig.pad, show decide (1 < s.data.toList.length) = false by simpa using h1] at h
    cases h
theorem take_snoc (s : ByteArray) (k : Nat) (h : k < s.size) : s.data.toList.take (k + 1) = s.data.toList.take k ++ [s[k]] := by
  rw [List.take_succ_eq_append_getElem (by simpa using h)]; rfl
theorem retNB {a b : Int} {p q : Bool} (h : a = b) (k : p = q) : Ending.returned (.tuple #[.int .i64 a, .bool p]) = .returned (.tuple #[.int .i64 b, .bool q]) := by rw [h, k]
theorem parse_no (l : List UInt8) (most : Int) (h : Fig.form l = false) : Fig.parseN l most = 0 ∧ Fig.parseB l most = false := by
  simp [Fig.parseN, Fig.parseB, h]
theorem all_false {p : UInt8 → Bool} {l : List UInt8} {k : Nat} (h : k < l.length) (hp : p l[k] = false) : l.all p = false := by
  rw [List.all_eq_false]; exact ⟨_, List.getElem_mem h, by simp [hp]⟩

theorem form_mid (s : ByteArray) (h1 : ¬ s.size = 0) (h2 : ¬ 13 < s.size) (h3 : Fig.pad s.data.toList = false) : Fig.form s.data.toList = s.data.toList.all Fig.dig := by
  have : decide (1 ≤ s.data.toList.length ∧ s.data.toList.length ≤ 13) = true := by simp; omega
  rw [Fig.form, this, h3]; simp
theorem form_ends (s : ByteArray) (h0 : s.size = 0 ∨ 13 < s.size) : Fig.form s.data.toList = false := by
  have : decide (1 ≤ s.data.toList.length ∧ s.data.toList.length ≤ 13) = false := by
    have : s.data.toList.length = s.size := by simp
    rw [decide_eq_false_iff_not]; omega
  rw [Fig.form, this]; rfl
theorem beq0_t {n : Nat} (h : n = 0) : ((n : Int) == 0) = true := by subst h; rfl
theorem beq0_f {n : Nat} (h : n ≠ 0) : ((n : Int) == 0) = false := by
  rw [beq_eq_false_iff_ne]; omega
theorem dec_f {p : Prop} [Decidable p] (h : ¬ p) : decide p = false := decide_eq_false h
theorem dec_t {p : Prop} [Decidable p] (h : p) : decide p = true := decide_eq_true h
theorem dig_bd {c : UInt8} (h : Fig.dig c = true) : 48 ≤ (c.toNat : Int) ∧ (c.toNat : Int) ≤ 57 := by simpa [Fig.dig] using h
theorem all_snoc {p : UInt8 → Bool} {s : ByteArray} {k : Nat} (hk : k < s.size) (h : (s.data.toList.take k).all p = true) (hc : p s[k] = true) : (s.data.toList.take (k + 1)).all p = true := by
  rw [take_snoc s k hk, List.all_append, h]; simpa using hc
theorem all_stop {p : UInt8 → Bool} {s : ByteArray} {k : Nat} (hk : k < s.size) (hc : p s[k] = false) : s.data.toList.all p = false :=
  all_false (k := k) (by simpa using hk) hc
theorem val_step (s : ByteArray) (k : Nat) (hk : k < s.size) : Fig.val (s.data.toList.take (k + 1)) = 10 * Fig.val (s.data.toList.take k) + ((s[k].toNat : Int) - 48) := by
  rw [take_snoc s k hk, Fig.val_snoc]
theorem pow_small {k : Nat} (h : k ≤ 13) : (10 : Int) ^ k ≤ 10000000000000 := by
  have : (10 : Nat) ^ k ≤ 10 ^ 13 := Nat.pow_le_pow_right (by omega) h
  have h2 : ((10 ^ k : Nat) : Int) ≤ ((10 ^ 13 : Nat) : Int) := Int.ofNat_le.mpr this
  simpa using h2
theorem val_small (s : ByteArray) (k : Nat) (h : k ≤ 13) (hd : (s.data.toList.take k).all Fig.dig = true) : 0 ≤ Fig.val (s.data.toList.take k) ∧ Fig.val (s.data.toList.take k) < 10000000000000 := by
  have hv := Fig.val_bd _ hd
  have hl : (s.data.toList.take k).length ≤ 13 := by simp; omega
  have := pow_small hl
  omega
theorem parse_val (s : ByteArray) (most : Int) (h : Fig.form s.data.toList = true) : Fig.parseN s.data.toList most = (if Fig.val s.data.toList ≤ most then Fig.val s.data.toList else 0) ∧ Fig.parseB s.data.toList most = decide (Fig.val s.data.toList ≤ most) := by
  simp [Fig.parseN, Fig.parseB, h]
theorem parse_in {n v most : Int} {b : Bool} (h : n = (if v ≤ most then v else 0) ∧ b = decide (v ≤ most)) (hm : v ≤ most) : n = v ∧ b = true := by
  rw [h.1, h.2, if_pos hm]; exact ⟨rfl, dec_t hm⟩
theorem parse_out {n v most : Int} {b : Bool} (h : n = (if v ≤ most then v else 0) ∧ b = decide (v ≤ most)) (hm : ¬ v ≤ most) : n = 0 ∧ b = false := by
  rw [h.1, h.2, if_neg hm]; exact ⟨rfl, dec_f hm⟩
set_option maxHeartbeats 400000 in
theorem rparse_any (s : ByteArray) (most : Int) (w : World) (hs : s.size ≤ maxLen) :
    Calls Try.prog 34 #[.string s, .int .i64 most] w fun e w' => e = .returned (.tuple #[.int .i64 (Fig.parseN s.data.toList most), .bool (Fig.parseB s.data.toList most)]) ∧ w = w' := by
  unfold maxLen at hs
  by_cases h0 : s.size = 0 ∨ 13 < s.size
  · have H := Lib.hid (parse_no s.data.toList most (form_ends s h0))
    have h0' : ((s.size : Int) == 0) = true ∨ (((s.size : Int) == 0) = false ∧ decide (13 < (s.size : Int)) = true) := by
      by_cases h : s.size = 0
      · exact Or.inl (beq0_t h)
      · exact Or.inr ⟨beq0_f h, dec_t (by omega)⟩
    clear h0
    rcases h0' with h0' | ⟨h0', h1⟩
    all_goals
      go_enter Try.func34, Try.ntmps34
      go_wp2_with fail
      go_ret2
      exact ⟨retNB H.out.1.symm H.out.2.symm, rfl⟩
  · have h0a : ((s.size : Int) == 0) = false := beq0_f (by omega)
    have h0b : decide (13 < (s.size : Int)) = false := dec_f (by omega)
    have h0c : s.size ≤ 13 := by omega
    by_cases hp : Fig.pad s.data.toList = true
    · have H := Lib.hid (parse_no s.data.toList most (by rw [Fig.form, hp]; simp))
      have hz : 0 < s.size := by omega
      have h1a : decide (1 < (s.size : Int)) = true := dec_t (by have := (pad_yes s hp).1; omega)
      have h1c : ((s[0].toNat : Int) == 48) = true := by rw [(pad_yes s hp).2 hz]; rfl
      clear h0 h0c
      go_enter Try.func34, Try.ntmps34
      go_wp2_with fail
      go_ret2
      exact ⟨retNB H.out.1.symm H.out.2.symm, rfl⟩
    · have hp' : Fig.pad s.data.toList = false := by simpa using hp
      have H := Lib.hid (form_mid s (by omega) (by omega) hp')
      have hz : 0 < s.size := by omega
      have h1 : (decide (1 < (s.size : Int)) = true ∧ ((s[0].toNat : Int) == 48) = false) ∨ decide (1 < (s.size : Int)) = false := by
        by_cases h1 : 1 < s.size
        · exact Or.inl ⟨dec_t (by omega), by rw [← pad_long s hz h1]; exact hp'⟩
        · exact Or.inr (dec_f (by omega))
      clear h0 hp
      rcases h1 with ⟨h1a, h1c⟩ | h1a
      all_goals
        go_enter Try.func34, Try.ntmps34
        go_wp2_with fail
        go_loop [6, 7] (fun n i => ∃ k : Nat, k ≤ s.size ∧ i = .int .i64 k ∧ n = .int .i64 (Fig.val (s.data.toList.take k)) ∧ (s.data.toList.take k).all Fig.dig = true) (fun _ i => s.size - (intOf i).toNat)
        case atStart => exact ⟨0, Nat.zero_le _, rfl, rfl, rfl⟩
        case round =>
          obtain ⟨k, hk, rfl, rfl, hd⟩ := hrel
          have hv := val_small s k (by omega) hd
          by_cases hlt : k < s.size
          · by_cases hc : Fig.dig s[k] = true
            · have hb := dig_bd hc
              have HS := Lib.hid (val_step s k hlt)
              have HD := Lib.hid (all_snoc hlt hd hc)
              clear hd
              go_wp2_with (go_at_call 47; refine (rdigit_any _ _).mono ?_; rintro e w' ⟨rfl, rfl⟩)
              go_round
              case rel => exact ⟨k + 1, by omega, by go_num, by rw [HS.out], HD.out⟩
              case measure => simp [intOf]; omega
            · have hc' : Fig.dig s[k] = false := by simpa using hc
              have HF := Lib.hid (parse_no s.data.toList most (by rw [H.out]; exact all_stop hlt hc'))
              clear hd hc
              go_wp2_with (go_at_call 47; refine (rdigit_any _ _).mono ?_; rintro e w' ⟨rfl, rfl⟩)
              go_ret2
              exact ⟨retNB HF.out.1.symm HF.out.2.symm, rfl⟩
          · have hks : k = s.size := by omega
            subst hks
            have ht : s.data.toList.take s.size = s.data.toList := List.take_of_length_le (by simp)
            rw [ht] at hd hv
            rw [ht]
            have hn := parse_val s most (by rw [H.out]; exact hd)
            have HN := Lib.hid hn
            clear hd ht hn
            by_cases hm : Fig.val s.data.toList ≤ most
            · have HM := Lib.hid (parse_in HN.out hm)
              have hm' : decide (most < Fig.val s.data.toList) = false := dec_f (by omega)
              clear hm
              go_wp2_with fail
              go_ret2
              exact ⟨retNB HM.out.1.symm HM.out.2.symm, rfl⟩
            · have HM := Lib.hid (parse_out HN.out hm)
              have hm' : decide (most < Fig.val s.data.toList) = true := dec_t (by omega)
              clear hm
              go_wp2_with fail
              go_ret2
              exact ⟨retNB HM.out.1.symm HM.out.2.symm, rfl⟩
end Go.Proofs.Ytgajdfecajleiaa
/-
  The walks of layer 1's Name and of the document's answer to it.
-/
namespace Go.Proofs.Ytgajdfecajleiaa
open Go.RowKit

theorem name_bad (s : ByteArray) (k : Nat) (hk : k < s.size) (h : Fig.dig s[k] = false) (h2 : Fig.let_ s[k] = false) : Fig.nameB s.data.toList = false := by
  rw [Fig.nameB, all_stop (p := fun c => Fig.dig c || Fig.let_ c) hk (by rw [h, h2]; rfl)]; simp
theorem name_good (s : ByteArray) (h : s.data.toList.all (fun c => Fig.dig c || Fig.let_ c) = true) : Fig.nameB s.data.toList = decide (1 ≤ s.size ∧ s.size ≤ 8) := by
  rw [Fig.nameB, h]; simp
theorem let_yes {c : UInt8} (h : Fig.let_ c = true) : (97 ≤ (c.toNat : Int) ∧ (c.toNat : Int) ≤ 122) ∨ (65 ≤ (c.toNat : Int) ∧ (c.toNat : Int) ≤ 90) := by
  exact of_decide_eq_true h
theorem let_no {c : UInt8} (h : Fig.let_ c = false) : ¬ ((97 ≤ (c.toNat : Int) ∧ (c.toNat : Int) ≤ 122) ∨ (65 ≤ (c.toNat : Int) ∧ (c.toNat : Int) ≤ 90)) := by
  exact of_decide_eq_false h
set_option maxHeartbeats 1000000 in
theorem rname_any (s : ByteArray) (w : World) (hs : s.size ≤ maxLen) :
    Calls Try.prog 32 #[.string s] w fun e w' => e = .returned (.bool (Fig.nameB s.data.toList)) ∧ w = w' := by
  unfold maxLen at hs
  go_enter Try.func32, Try.ntmps32
  go_wp2_with fail
  go_loop [3] (fun i => ∃ k : Nat, k ≤ s.size ∧ i = .int .i64 k ∧ (s.data.toList.take k).all (fun c => Fig.dig c || Fig.let_ c) = true) (fun i => s.size - (intOf i).toNat)
  case atStart => exact ⟨0, Nat.zero_le _, rfl, rfl⟩
  case round =>
    obtain ⟨k, hk, rfl, hd⟩ := hrel
    by_cases hlt : k < s.size
    · by_cases hc : Fig.dig s[k] = true
      · have HD := Lib.hid (all_snoc hlt hd (by rw [hc]; rfl))
        clear hd
        go_wp2_with (go_at_call 47; refine (rdigit_any _ _).mono ?_; rintro e w' ⟨rfl, rfl⟩)
        go_round
        case rel => exact ⟨k + 1, by omega, by go_num, HD.out⟩
        case measure => simp [intOf]; omega
      · have hc' : Fig.dig s[k] = false := by simpa using hc
        by_cases hl : Fig.let_ s[k] = true
        · have HD := Lib.hid (all_snoc hlt hd (by rw [hc', hl]; rfl))
          have hy : (decide ((s[k].toNat : Int) < 65) = false ∧ decide (90 < (s[k].toNat : Int)) = true ∧ decide ((s[k].toNat : Int) < 97) = false ∧ decide (122 < (s[k].toNat : Int)) = false) ∨ (decide ((s[k].toNat : Int) < 65) = false ∧ decide (90 < (s[k].toNat : Int)) = false) := by
            rcases let_yes hl with h | h
            · exact Or.inl ⟨dec_f (by omega), dec_t (by omega), dec_f (by omega), dec_f (by omega)⟩
            · exact Or.inr ⟨dec_f (by omega), dec_f (by omega)⟩
          clear hd hc hl
          rcases hy with ⟨hy1, hy2, hy3, hy4⟩ | ⟨hy1, hy2⟩
          all_goals
            go_wp2_with (go_at_call 47; refine (rdigit_any _ _).mono ?_; rintro e w' ⟨rfl, rfl⟩)
            go_round
            case rel => exact ⟨k + 1, by omega, by go_num, HD.out⟩
            case measure => simp [intOf]; omega
        · have hl' : Fig.let_ s[k] = false := by simpa using hl
          have HF := Lib.hid (name_bad s k hlt hc' hl')
          have hy : (decide ((s[k].toNat : Int) < 65) = true ∧ decide ((s[k].toNat : Int) < 97) = true) ∨ (decide ((s[k].toNat : Int) < 65) = false ∧ decide (90 < (s[k].toNat : Int)) = true ∧ decide ((s[k].toNat : Int) < 97) = true) ∨ (decide ((s[k].toNat : Int) < 65) = false ∧ decide (90 < (s[k].toNat : Int)) = true ∧ decide ((s[k].toNat : Int) < 97) = false ∧ decide (122 < (s[k].toNat : Int)) = true) := by
            have hn := let_no hl'
            by_cases h65 : (s[k].toNat : Int) < 65
            · exact Or.inl ⟨dec_t h65, dec_t (by omega)⟩
            · by_cases h97 : (s[k].toNat : Int) < 97
              · exact Or.inr (Or.inl ⟨dec_f h65, dec_t (by omega), dec_t h97⟩)
              · exact Or.inr (Or.inr ⟨dec_f h65, dec_t (by omega), dec_f h97, dec_t (by omega)⟩)
          clear hd hc hl
          rcases hy with ⟨hy1, hy2⟩ | ⟨hy1, hy2, hy3⟩ | ⟨hy1, hy2, hy3, hy4⟩
          all_goals
            go_wp2_with (go_at_call 47; refine (rdigit_any _ _).mono ?_; rintro e w' ⟨rfl, rfl⟩)
            go_ret
            exact ⟨retB HF.out.symm, rfl⟩
    · have hks : k = s.size := by omega
      subst hks
      have ht : s.data.toList.take s.size = s.data.toList := List.take_of_length_le (by simp)
      rw [ht] at hd
      have HF := Lib.hid (name_good s hd)
      have hy : (decide (1 ≤ (s.size : Int)) = true ∧ decide (1 ≤ s.size ∧ s.size ≤ 8) = decide ((s.size : Int) ≤ 8)) ∨ (decide (1 ≤ (s.size : Int)) = false ∧ decide (1 ≤ s.size ∧ s.size ≤ 8) = false) := by
        by_cases h1 : 1 ≤ s.size
        · refine Or.inl ⟨dec_t (by omega), ?_⟩
          rw [Bool.eq_iff_iff]; simp; omega
        · exact Or.inr ⟨dec_f (by omega), dec_f (by omega)⟩
      clear hd ht
      rcases hy with ⟨hy1, hy2⟩ | ⟨hy1, hy2⟩
      all_goals
        have HG := Lib.hid (HF.out.trans hy2)
        clear hy2
        go_wp2_with fail
        go_ret
        exact ⟨retB HG.out.symm, rfl⟩
end Go.Proofs.Ytgajdfecajleiaa
/-
  A list of bytes as a text's value (no function of Try is named here).
-/
namespace Go.Proofs.Ytgajdfecajleiaa
open Go.RowKit

def txt (x : List UInt8) : ByteArray := ⟨x.toArray⟩
def str (x : List UInt8) : Value := .string (txt x)
theorem txt_toList (x : List UInt8) : (txt x).data.toList = x := by simp [txt]
theorem txt_size (x : List UInt8) : (txt x).size = x.length := by simp [txt, ByteArray.size]
theorem txt_of (s : ByteArray) : txt s.data.toList = s := by simp [txt]
theorem toList_txt (x : List UInt8) : (txt x).toList = x := by rw [ByteArray.toList_eq, txt_toList]
end Go.Proofs.Ytgajdfecajleiaa
/-
  The walks of layer 1's Print and of the document's answer to it: both give a number's decimal digits; memory that there was is as it was.
-/
namespace Go.Proofs.Ytgajdfecajleiaa
open Go.RowKit

theorem retS {a b : List UInt8} (h : a = b) : Ending.returned (.string ⟨a.toArray⟩) = .returned (.string ⟨b.toArray⟩) := by rw [h]
theorem bcell {W w1 : World} (hb : Below W.heap.size W w1) : (∀ b o, b < W.heap.size → w1.cell? ⟨b, o, none⟩ = W.cell? ⟨b, o, none⟩) ∧ (∀ b o, b < W.heap.size → w1.frozen? ⟨b, o, none⟩ = W.frozen? ⟨b, o, none⟩) :=
  ⟨fun b o h => hb.cell (p := ⟨b, o, none⟩) h, fun b o h => hb.frozen (p := ⟨b, o, none⟩) h⟩
/-- A slice of one byte of the call's own, made a text. -/
theorem one_byte (w : World) (b : Nat) (x : Int) (h : w.cell? ⟨b, 0, none⟩ = some (.int .u8 x)) :
    Sem.run Try.prog (convert 118 9 (.slice (some ⟨b, 0, none⟩) 1 1)) w = .ok (.string ⟨#[UInt8.ofNat x.toNat]⟩) w := by
  have := run_convert_bytes_arg (P := Try.prog) (w := w) 118 5 Try.underlying118 Try.underlying5 b 0 1 1 [x] rfl (fun i hi => by
    obtain rfl : i = 0 := by omega
    simpa using h) 9 Try.underlying9
  exact this
theorem one_new (w : World) (x : Int) :
    Sem.run Try.prog (convert 118 9 (.slice (some ⟨w.heap.size, 0, none⟩) 1 1)) (w.alloc (.cells #[.int .u8 x] 5)) = .ok (.string ⟨#[UInt8.ofNat x.toNat]⟩) (w.alloc (.cells #[.int .u8 x] 5)) :=
  one_byte _ _ _ (by
    show (w.alloc (.cells #[.int .u8 x] 5)).cell? ⟨w.heap.size, 0, none⟩ = _
    go_simp)
theorem u8_in (n : Int) (h : 0 ≤ n ∧ n ≤ 255) : IntKind.u8.wrap n = n := by
  unfold IntKind.wrap; simp [IntKind.bits, IntKind.signed]; omega
theorem digit_one (n : Int) (h0 : 0 ≤ n) (h1 : n < 10) : [UInt8.ofNat (48 + n).toNat] = Lib.decDigits n.toNat := by
  rw [Lib.decDigits_one (by omega)]
  congr 2; omega
theorem retSS {a b : ByteArray} (h : a = b) : Ending.returned (.string a) = .returned (.string b) := by rw [h]
theorem digit_more (n : Int) (h1 : 10 ≤ n) : (ByteArray.mk (Lib.decDigits (n / 10).toNat).toArray ++ ByteArray.mk #[UInt8.ofNat (48 + n % 10).toNat]) = ⟨(Lib.decDigits n.toNat).toArray⟩ := by
  have e : (ByteArray.mk #[UInt8.ofNat (48 + n % 10).toNat]) = ByteArray.mk [UInt8.ofNat (48 + n % 10).toNat].toArray := rfl
  rw [e, ByteArray.mk_append_mk]
  have : Lib.decDigits n.toNat = Lib.decDigits (n.toNat / 10) ++ [UInt8.ofNat (48 + n.toNat % 10)] := by
    conv => lhs; rw [Lib.decDigits, dif_neg (by omega)]
  rw [this, show (n / 10).toNat = n.toNat / 10 by omega, show (48 + n % 10).toNat = 48 + n.toNat % 10 by omega]
set_option maxHeartbeats 400000 in
set_option maxRecDepth 100000 in
theorem rprint_any (k : Nat) : ∀ (n : Int) (w : World), 0 ≤ n → n ≤ k → n ≤ 9223372036854775807 →
    Calls Try.prog 49 #[.int .i64 n] w fun e w' => e = .returned (.string ⟨(Lib.decDigits n.toNat).toArray⟩) ∧ Below w.heap.size w w' := by
  induction k with
  | zero =>
    intro n w h0 hk h1
    have hconv := one_new w (48 + n)
    go_enter Try.func49, Try.ntmps49
    go_wp2_with fail
    go_ret
    exact ⟨retS (digit_one n h0 (by omega)), (Below.refl _ _).alloc (Nat.le_refl _) _⟩
  | succ k ih =>
    intro n w h0 hk h1
    by_cases hn : n < 10
    · have hconv := one_new w (48 + n)
      have H := Lib.hid (digit_one n h0 hn)
      go_enter Try.func49, Try.ntmps49
      go_wp2_with fail
      go_ret
      exact ⟨retS H.out, (Below.refl _ _).alloc (Nat.le_refl _) _⟩
    · have ih' := fun W => ih (n / 10) W (by omega) (by omega) (by omega)
      have I := Lib.hid ih'
      have H := Lib.hid (digit_more n (by omega))
      clear ih ih'
      have hm : 0 ≤ n % 10 := by omega
      have hm2 : n % 10 < 10 := by omega
      have q1 : IntKind.i64.wrap (n.tdiv 10) = n / 10 := by rw [Int.tdiv_eq_ediv_of_nonneg h0]; exact IntWalk.i64_in _ (by omega)
      have q2 : n.tmod 10 = n % 10 := Int.tmod_eq_emod_of_nonneg h0
      have q3 : IntKind.i64.wrap (48 + n % 10) = 48 + n % 10 := IntWalk.i64_in _ (by omega)
      have q4 : IntKind.u8.wrap (48 + n % 10) = 48 + n % 10 := u8_in _ (by omega)
      have hL : (Lib.decDigits (n / 10).toNat).length ≤ 20 := by rw [Lib.decDigits_length]; exact Lib.nDigits_le20 _ (by omega)
      have hL2 : ¬ (9223372036854775807 < (Lib.decDigits (n / 10).toNat).length + 1) := by omega
      have hA := fun W => one_new W (48 + n % 10)
      have hB := fun W b => one_byte W b (48 + n % 10)
      go_enter Try.func49, Try.ntmps49
      go_wp2_with fail
      go_region_with (first | (go_at_call 49; refine (I.out _).mono ?_; rintro e w' ⟨rfl, hb⟩; have hcell := (bcell hb).1))
      all_goals go_wp2_with fail
      all_goals go_ret
      · exact ⟨retSS H.out, (Below.trans (b := w.drew) (Below.refl w.heap.size w).drew hb).alloc hb.size _⟩
      all_goals exact ⟨retSS H.out, ((Below.refl w.heap.size w).alloc (Nat.le_refl _) _).drew.trans (hb.mono (B' := w.heap.size) (by simp))⟩
end Go.Proofs.Ytgajdfecajleiaa
/-
  What a law's row asks behind the call, for any law of this project: it returned true, and memory that there was is as it was. No function of the project is named here.
-/
namespace Go.Proofs.Ytgajdfecajleiaa
open Go.ChangeShapes Go.WideShapes Go.ChangeAt Go.RowKit

theorem ownKnobNone : ownKnob Try.prog.godebug = none := by kernel_rfl
theorem laidOut : laidOutB Try.prog = true := by kernel_rfl

theorem trodAll_kept {H : Type} {enc : TypeId × Value → H} {P : Program} (hl : laidOutB P = true) {W W' : World} {sp : Nat → Bool} (hb : Below W.heap.size W W') :
    ∀ {ts : List TypeId} {vs : List Value} {ds : List (DataW H)} {ps : List MemPlace}, (ts.all fun t => P.readableRec t && decide (t < P.types.size)) = true →
      DataW.TrodAll enc P W 0 (fun _ => true) true ts vs ds ps → (∀ x ∈ ps, x.block < W.heap.size) → (∀ x ∈ ps, sp x.block = true) → DataW.TrodAll enc P W' 0 sp true ts vs ds ps
  | [], [], [], _, _, h, _, _ => h
  | t :: ts, v :: vs, d :: ds, ps, hr, h, hlt, hs => by
    obtain ⟨p, q, h1, h2, rfl⟩ := h
    simp only [List.all_cons, Bool.and_eq_true, decide_eq_true_eq] at hr
    exact ⟨p, q, Go.WideElems.Trod_stays hl hr.1.1 hr.1.2 h1 (fun x hx => hb.same (hlt x (List.mem_append_left _ hx))) (fun x hx => hs x (List.mem_append_left _ hx)),
      trodAll_kept hl hb (by simpa using hr.2) h2 (fun x hx => hlt x (List.mem_append_right _ hx)) (fun x hx => hs x (List.mem_append_right _ hx)), rfl⟩
  | [], _ :: _, _, _, _, h, _, _ => h.elim
  | _ :: _, [], _, _, _, h, _, _ => h.elim
  | [], [], _ :: _, _, _, h, _, _ => h.elim
  | _ :: _, _ :: _, [], _, _, h, _, _ => h.elim

/-- Behind a law that returned true: all that its row asks. -/
theorem post_law {H : Type} {enc : TypeId × Value → H} {P : Program} {f : Func} {s : ChangeSpec} {W W' : World} {args : Array Value} {ds gs : List (DataW H)} {before : List MemPlace} {tb : TypeId}
    (hl : laidOutB P = true) (hv : s.vars = []) (hr : f.resultTypes = #[tb]) (ht : P.underlying tb = some .bool)
    (hp : (f.params.toList.all fun t => P.readableRec t && decide (t < P.types.size)) = true)
    (hfn : s.fn H (ds ++ gs) = { results := [.lit (.bool true)], args := ds })
    (hW : DataW.Whole enc P f.params.toList s.vars false W args.toList ds gs before) (hb : Below W.heap.size W W') :
    s.post enc P f false true false false W args (.bool true) W' := by
  have hlt : ∀ p ∈ before, p.block < W.heap.size := fun p hp => hW.lt p hp
  have hW2 := hW
  obtain ⟨p, q, hA, hV, rfl, _, _⟩ := hW
  rw [hv] at hV
  obtain ⟨rfl, rfl⟩ := trodVars_none hV
  simp only [List.append_nil] at hlt hW2
  refine ⟨ds, [], p, [], p, [], hW2, ?_, ?_, ?_, ?_, fun h => by cases h⟩
  · rw [hfn, hr]
    exact trodAll_cons_mk (shut_bool ht _) trodAll_mk0
  · rw [hfn]
    exact trodAll_kept hl hb hp hA hlt (fun x hx => by simpa using hlt x hx)
  · rw [hfn, hv]; rfl
  · exact World.keptBut_mono (fun x hx => ⟨hx, Or.inr (Or.inl hx)⟩) (hb.frame (· ∈ p))

/-- The cells that a laid table's datum tells. -/
def tableCells : DataW Unit → Array Value
  | .agg l => (l.map fun | .lit (.int k n) => .int k n | _ => undef).toArray
  | _ => #[]
/-- A world in which block g holds these cells. -/
def setTable (h : Array Obj) (g : Nat) (cs : Array Value) : Array Obj := h.modify g fun
  | .cells _ t frozen => .cells cs t frozen
  | o => o

theorem wf_i64 {n : Int} (h : (Lit.int .i64 n).wf = true) : -9223372036854775808 ≤ n ∧ n ≤ 9223372036854775807 := by
  simpa [Lit.wf, IntKind.min, IntKind.max, IntKind.bits, IntKind.signed] using h
theorem wf_u64 {n : Int} (h : (Lit.int .u64 n).wf = true) : 0 ≤ n ∧ n ≤ 18446744073709551615 := by
  simpa [Lit.wf, IntKind.min, IntKind.max, IntKind.bits, IntKind.signed] using h
theorem wf_u32 {n : Int} (h : (Lit.int .u32 n).wf = true) : 0 ≤ n ∧ n ≤ 4294967295 := by
  simpa [Lit.wf, IntKind.min, IntKind.max, IntKind.bits, IntKind.signed] using h
theorem wf_u16 {n : Int} (h : (Lit.int .u16 n).wf = true) : 0 ≤ n ∧ n ≤ 65535 := by
  simpa [Lit.wf, IntKind.min, IntKind.max, IntKind.bits, IntKind.signed] using h
theorem wf_u8 {n : Int} (h : (Lit.int .u8 n).wf = true) : 0 ≤ n ∧ n ≤ 255 := by
  simpa [Lit.wf, IntKind.min, IntKind.max, IntKind.bits, IntKind.signed] using h
end Go.Proofs.Ytgajdfecajleiaa
/-
  Plain mathematics of lines and words: a text cut at a byte, put together, and what may stand in a word. No program is named here.
-/
namespace Go.Proofs.Ytgajdfecajleiaa.Ln
open Go

def step (c : UInt8) (p : List (List UInt8) × List UInt8) (x : UInt8) : List (List UInt8) × List UInt8 := if x = c then (p.1 ++ [p.2], []) else (p.1, p.2 ++ [x])
def st (c : UInt8) (l : List UInt8) : List (List UInt8) × List UInt8 := l.foldl (step c) ([], [])
def cut (c : UInt8) (l : List UInt8) : List (List UInt8) := (st c l).1 ++ [(st c l).2]
def text (L : List (List UInt8)) : List UInt8 := (L.map (· ++ [10])).flatten
def whole (l : List UInt8) : Bool := (st 10 l).2.isEmpty
def split (l : List UInt8) : List (List UInt8) := if whole l then (st 10 l).1 else cut 10 l
def okw (x : UInt8) : Bool := decide (33 ≤ (x.toNat : Int)) && decide ((x.toNat : Int) ≤ 126)
def ws : Bool → List UInt8 → Bool
  | p, [] => !p
  | p, x :: t => if x = 32 then (if p then false else ws true t) else (if okw x then ws false t else false)
def words (l : List UInt8) : List (List UInt8) := if ws true l then cut 32 l else []
def line (L : List (List UInt8)) : List UInt8 := Lib.join L [32]
def okb (x : UInt8) : Bool := decide (x = 32) || okw x

theorem st_snoc (c : UInt8) (l : List UInt8) (x : UInt8) : st c (l ++ [x]) = step c (st c l) x := by simp [st]
/-- What is ahead stays ahead. -/
theorem fold_ahead (c : UInt8) (d : List (List UInt8)) : ∀ (l : List UInt8) (d0 : List (List UInt8)) (r : List UInt8), l.foldl (step c) (d ++ d0, r) = (d ++ (l.foldl (step c) (d0, r)).1, (l.foldl (step c) (d0, r)).2)
  | [], _, _ => rfl
  | x :: t, d0, r => by
    simp only [List.foldl_cons, step]
    by_cases h : x = c
    · rw [if_pos h, if_pos h, List.append_assoc]; exact fold_ahead c d t _ _
    · rw [if_neg h, if_neg h]; exact fold_ahead c d t _ _
theorem st_len (c : UInt8) (l : List UInt8) : (st c l).1.length ≤ l.length := by
  have : ∀ (l : List UInt8) (d : List (List UInt8)) (r : List UInt8), (l.foldl (step c) (d, r)).1.length ≤ d.length + l.length := by
    intro l
    induction l with
    | nil => intro d r; simp
    | cons x t ih =>
      intro d r
      simp only [List.foldl_cons, step, List.length_cons]
      split
      · have := ih (d ++ [r]) []; simp at this; omega
      · have := ih d (r ++ [x]); omega
  simpa [st] using this l [] []
/-- A text is what its pieces give. -/
theorem st_join (c : UInt8) (l : List UInt8) : ((st c l).1.map (· ++ [c])).flatten ++ (st c l).2 = l := by
  have : ∀ (l : List UInt8) (d : List (List UInt8)) (r : List UInt8), ((l.foldl (step c) (d, r)).1.map (· ++ [c])).flatten ++ (l.foldl (step c) (d, r)).2 = (d.map (· ++ [c])).flatten ++ r ++ l := by
    intro l
    induction l with
    | nil => intro d r; simp
    | cons x t ih =>
      intro d r
      simp only [List.foldl_cons, step]
      split
      · rename_i h; rw [ih]; simp [h]
      · rw [ih]; simp
  simpa [st] using this l [] []
theorem join_snoc (c : UInt8) : ∀ (D : List (List UInt8)) (r : List UInt8), Lib.join (D ++ [r]) [c] = (D.map (· ++ [c])).flatten ++ r
  | [], r => by simp [Lib.join, List.intercalate]
  | x :: D, r => by
    have ih := join_snoc c D r
    rw [List.cons_append, Lib.join_cons]
    cases D with
    | nil => simp [Lib.joinTail]
    | cons y D =>
      rw [List.cons_append, Lib.join_cons] at ih
      simp only [List.cons_append, Lib.joinTail, List.map_cons, List.flatten_cons, List.nil_append] at ih ⊢
      rw [ih]
      simp

/-! ### lines -/
theorem text_split (l : List UInt8) : decide (text (split l) = l) = whole l := by
  have hj := st_join 10 l
  rw [split]
  by_cases h : whole l = true
  · rw [if_pos h, h]
    rw [whole, List.isEmpty_iff] at h
    rw [h, List.append_nil] at hj
    exact decide_eq_true hj
  · rw [if_neg h]
    have hf : whole l = false := by simpa using h
    rw [hf, decide_eq_false_iff_not]
    intro e
    have : text (cut 10 l) = l ++ [10] := by
      rw [cut, text, List.map_append, List.flatten_append]
      simp only [List.map_cons, List.map_nil, List.flatten_cons, List.flatten_nil, List.append_nil]
      rw [← List.append_assoc, hj]
    rw [this] at e
    have := congrArg List.length e
    simp at this
/-! ### words -/
theorem fold_mem (c : UInt8) (l : List UInt8) (d : List (List UInt8)) (r x : List UInt8) (h : x ∈ d) : x ∈ (l.foldl (step c) (d, r)).1 := by
  have := fold_ahead c d l [] r
  rw [List.append_nil] at this
  rw [this]
  exact List.mem_append_left _ h
theorem ws_gen : ∀ (l : List UInt8) (d : List (List UInt8)) (r : List UInt8), (∀ x ∈ d, x ≠ []) →
    ws r.isEmpty l = (l.all okb && ((l.foldl (step 32) (d, r)).1 ++ [(l.foldl (step 32) (d, r)).2]).all (fun x => !x.isEmpty))
  | [], d, r, h => by
    have : d.all (fun x => !x.isEmpty) = true := by simpa using h
    simp only [ws, List.foldl_nil, List.all_nil, Bool.true_and, List.all_append, this, List.all_cons, Bool.and_true]
  | x :: t, d, r, h => by
    simp only [ws, List.foldl_cons, step, List.all_cons]
    by_cases hx : x = 32
    · subst hx
      rw [if_pos rfl, if_pos rfl]
      by_cases hr : r = []
      · subst hr
        have hm : ([] : List UInt8) ∈ (t.foldl (step 32) (d ++ [[]], [])).1 := fold_mem _ _ _ _ _ (by simp)
        have : (((t.foldl (step 32) (d ++ [[]], [])).1 ++ [(t.foldl (step 32) (d ++ [[]], [])).2]).all (fun x => !x.isEmpty)) = false := by
          rw [List.all_eq_false]
          exact ⟨[], List.mem_append_left _ hm, by simp⟩
        rw [this]
        simp
      · have h2 := ws_gen t (d ++ [r]) [] (by
          intro y hy
          rcases List.mem_append.1 hy with hy | hy
          · exact h y hy
          · simp at hy; subst hy; exact hr)
        rw [show r.isEmpty = false by simpa using hr]
        simp only [List.isEmpty_nil] at h2
        rw [if_neg (by simp), h2]
        simp [okb]
    · rw [if_neg hx, if_neg hx]
      by_cases ho : okw x = true
      · have h2 := ws_gen t d (r ++ [x]) h
        rw [show (r ++ [x]).isEmpty = false by simp] at h2
        rw [if_pos ho, h2]
        simp [okb, ho]
      · rw [if_neg ho]
        simp [okb, hx, ho]
theorem ws_eq (l : List UInt8) : ws true l = (l.all okb && (cut 32 l).all (fun x => !x.isEmpty)) := ws_gen l [] [] (by simp)
theorem line_words (l : List UInt8) (h : ws true l = true) : line (words l) = l ∧ words l ≠ [] := by
  rw [words, if_pos h, line, cut, join_snoc, st_join]
  exact ⟨rfl, by simp⟩

end Go.Proofs.Ytgajdfecajleiaa.Ln
/-
  Slices of texts in memory: which texts their cells hold; kept where nothing below the heap's end changes. And the small words that the walks of layer 2 use.
-/
namespace Go.Proofs.Ytgajdfecajleiaa
open Go.RowKit

theorem below_drewN {B : Nat} {a w : World} (h : Below B a w) (n : Nat) : Below B a (w.drewN n) := ⟨h.os, h.tape, h.output, h.size, h.block⟩
/-- The cells from A on hold these texts. -/
def Strs (w : World) (A : Option Addr) (L : List (List UInt8)) : Prop :=
  ∀ k x, L[k]? = some x → ∃ a, A = some a ∧ a.block < w.heap.size ∧ w.cell? (a.add k) = some (str x)
theorem add_block (a : Addr) (k : Nat) : (a.add k).block = a.block := by unfold Addr.add; split <;> rfl
theorem Strs.nil (w : World) (A : Option Addr) : Strs w A [] := fun k x h => by simp at h
theorem Strs.below {w w' : World} {A : Option Addr} {L : List (List UInt8)} {B : Nat} (h : Strs w A L) (hB : B = w.heap.size) (hb : Below B w w') : Strs w' A L := fun k x hx => by
  subst hB
  obtain ⟨a, rfl, h1, h2⟩ := h k x hx
  have := hb.size
  exact ⟨a, rfl, by omega, by rw [hb.cell (by rw [add_block]; exact h1)]; exact h2⟩
theorem Strs.take {w : World} {A : Option Addr} {L : List (List UInt8)} (h : Strs w A L) (n : Nat) : Strs w A (L.take n) := fun k x hx => h k x (by
  rw [List.getElem?_take] at hx
  split at hx
  · exact hx
  · cases hx)
theorem Strs.cell {w : World} {A : Option Addr} {L : List (List UInt8)} (h : Strs w A L) {k : Nat} (hk : k < L.length) : ∃ a, A = some a ∧ a.block < w.heap.size ∧ w.cell? (a.add k) = some (str L[k]) := h k _ (List.getElem?_eq_getElem hk)
theorem Strs.of_own {w : World} {base : Nat} {e : TypeId} {v : Value} {n : Nat} {L : List (List UInt8)} (h : w.ownsRow base e 1 v n (L.map str)) :
    n = L.length ∧ ∃ A c, v = .slice A n c ∧ n ≤ c ∧ Strs w A L := by
  have hl : L.length = n := by simpa using h.1
  refine ⟨hl.symm, ?_⟩
  rcases h.2 with ⟨rfl, rfl⟩ | ⟨g, cap, cur, rfl, _, hh, hc, _⟩
  · exact ⟨none, 0, rfl, Nat.le_refl _, by rw [List.eq_nil_of_length_eq_zero hl]; exact Strs.nil _ _⟩
  · refine ⟨some ⟨g, 0, none⟩, cap, rfl, hc, fun k x hx => ⟨_, rfl, ?_, ?_⟩⟩
    · exact (Array.getElem?_eq_some_iff.1 hh).1
    · exact h.cells (g := g) rfl k _ (by rw [List.getElem?_map, hx]; rfl)
/-- A block of these texts that was laid just now. -/
theorem Strs.fresh (w : World) (L : List (List UInt8)) (t : TypeId) : Strs (w.alloc (.cells (L.map str).toArray t)) (some ⟨w.heap.size, 0, none⟩) L := fun k x hx => by
  refine ⟨_, rfl, by simp, ?_⟩
  rw [Go.WideShapes.add_plain, Nat.zero_add, cell_of_row _ _ _ _ _ _ (heap_alloc_new w _)]
  simp [hx]

/-- What a function that makes texts and a truth leaves. -/
def GivesList (L : List (List UInt8)) (b : Bool) (w : World) (e : Ending) (w' : World) : Prop :=
  ∃ A c, L.length ≤ c ∧ e = .returned (.tuple #[.slice A L.length c, .bool b]) ∧ Strs w' A L ∧ Below w.heap.size w w'
theorem GivesList.mk {L : List (List UInt8)} {b : Bool} {w w' : World} {e : Ending} {A : Option Addr} {n c : Nat} (hc : n ≤ c) (hn : n = L.length) (he : e = .returned (.tuple #[.slice A n c, .bool b])) (hs : Strs w' A L) (hb : Below w.heap.size w w') :
    GivesList L b w e w' := by subst hn; exact ⟨A, c, hc, he, hs, hb⟩
end Go.Proofs.Ytgajdfecajleiaa
/-
  Appends of texts' slices: the library's law under a guard, and what it asks of the cells (no function of Try is named here).
-/
namespace Go.Proofs.Ytgajdfecajleiaa
open Go.RowKit

theorem Strs.news {w : World} {a : Addr} {L : List (List UInt8)} (h : Strs w (some a) L) : ∀ j u, (L.map str)[j]? = some u → w.cell? (a.add j) = some u := fun j u hu => by
  rw [List.getElem?_map] at hu
  cases hj : L[j]? with
  | none => rw [hj] at hu; cases hu
  | some x =>
    rw [hj] at hu
    cases hu
    obtain ⟨a', ha, _, hc⟩ := h j x hj
    cases ha
    exact hc
end Go.Proofs.Ytgajdfecajleiaa
/-
  The walks of the small functions of layer 2 and of its laws' helpers: seen, worded, short, same.
-/
namespace Go.Proofs.Ytgajdfecajleiaa
open Go.RowKit

theorem byte32 {c : UInt8} : ((c.toNat : Int) == 32) = true ↔ c = 32 := by
  rw [beq_iff_eq]
  constructor
  · intro h; exact UInt8.toNat_inj.mp (by simpa using Int.ofNat.inj h)
  · rintro rfl; rfl
theorem toList_inj {x y : List UInt8} (h : (txt x).toList = (txt y).toList) : x = y := by
  rw [ByteArray.toList_eq, ByteArray.toList_eq, txt_toList, txt_toList] at h
  exact h
end Go.Proofs.Ytgajdfecajleiaa
/-
  The walks of layer 2's four functions, over the library's contracts of strings.Split, strings.Join and strings.Builder.
-/
namespace Go.Proofs.Ytgajdfecajleiaa
open Go.RowKit

theorem isE_t {r : List UInt8} (h : r = []) : (txt r).toList.isEmpty = true := by
  rw [ByteArray.toList_eq, txt_toList]; simpa using h
theorem isE_f {r : List UInt8} (h : r ≠ []) : (txt r).toList.isEmpty = false := by
  rw [ByteArray.toList_eq, txt_toList]; simpa using h

/-- The same, where the slice is known not to be nil. -/
def GivesSome (L : List (List UInt8)) (b : Bool) (w : World) (e : Ending) (w' : World) : Prop :=
  ∃ a c, L.length ≤ c ∧ e = .returned (.tuple #[.slice (some a) L.length c, .bool b]) ∧ Strs w' (some a) L ∧ Below w.heap.size w w'
theorem GivesSome.mk {L : List (List UInt8)} {b : Bool} {w w' : World} {e : Ending} {a : Addr} {n c : Nat} (hc : n ≤ c) (hn : n = L.length) (he : e = .returned (.tuple #[.slice (some a) n c, .bool b])) (hs : Strs w' (some a) L) (hb : Below w.heap.size w w') :
    GivesSome L b w e w' := by subst hn; exact ⟨a, c, hc, he, hs, hb⟩
end Go.Proofs.Ytgajdfecajleiaa
/-
  The walks of the document's answers of layer 2: lines, words, and both put together.
-/
namespace Go.Proofs.Ytgajdfecajleiaa
open Go.RowKit

theorem infoStr : (Try.prog.info? 9).map (fun i => (i.zero, i.size, i.bytes)) = some (some (.string ByteArray.empty), 1, 16) := by kernel_rfl

theorem byte_is (c : UInt8) (n : Nat) (h : n < 256) : ((c.toNat : Int) == (n : Int)) = decide (c = UInt8.ofNat n) := by
  rw [Bool.eq_iff_iff, beq_iff_eq, decide_eq_true_iff]
  constructor
  · intro e; apply UInt8.toNat_inj.mp; rw [UInt8.toNat_ofNat']; omega
  · rintro rfl; rw [UInt8.toNat_ofNat']; omega
theorem extract_txt (s : ByteArray) (f k : Nat) : txt ((s.data.toList.take k).drop f) = s.extract f k := by
  apply ByteArray.ext
  simp [txt, ByteArray.data_extract, List.drop_take]
  apply Array.ext'
  simp [Array.toList_extract]
theorem ref_hit (c : UInt8) (s : ByteArray) (k : Nat) (d : List (List UInt8)) (r : List UInt8) (hk : k < s.size) (hst : Ln.st c (s.data.toList.take k) = (d, r)) (h : s[k] = c) :
    Ln.st c (s.data.toList.take (k + 1)) = (d ++ [r], []) := by
  rw [take_snoc s k hk, Ln.st_snoc, hst, Ln.step, if_pos h]
theorem ref_miss (c : UInt8) (s : ByteArray) (k : Nat) (d : List (List UInt8)) (r : List UInt8) (hk : k < s.size) (hst : Ln.st c (s.data.toList.take k) = (d, r)) (h : s[k] ≠ c) :
    Ln.st c (s.data.toList.take (k + 1)) = (d, r ++ [s[k]]) := by
  rw [take_snoc s k hk, Ln.st_snoc, hst, Ln.step, if_neg h]
theorem drop_next (s : ByteArray) (f k : Nat) (r : List UInt8) (hk : k < s.size) (hf : f ≤ k) (h : (s.data.toList.take k).drop f = r) : (s.data.toList.take (k + 1)).drop f = r ++ [s[k]] := by
  rw [take_snoc s k hk, List.drop_append_of_le_length (by simp; omega), h]
theorem drop_none (s : ByteArray) (k : Nat) : (s.data.toList.take k).drop k = [] := by
  rw [List.drop_eq_nil_iff]; simp; omega

set_option maxHeartbeats 1000000 in
theorem rsplit_any (s : ByteArray) (w : World) (hs : s.size ≤ 1000000) :
    Calls Try.prog 21 #[.string s] w (GivesList (Ln.split s.data.toList) (Ln.whole s.data.toList) w) := by
  obtain ⟨i0, hi, hz0, hz1, hz2⟩ := info_parts infoStr
  go_enter Try.func21, Try.ntmps21
  go_wp2
  go_loopw [4, 5, 6] (fun v f i wr => ∃ (k j : Nat) (d : List (List UInt8)) (r : List UInt8), k ≤ s.size ∧ j ≤ k ∧ i = .int .i64 k ∧ f = .int .i64 j ∧ Ln.st 10 (s.data.toList.take k) = (d, r) ∧ (s.data.toList.take k).drop j = r ∧
      wr.ownsRow w.heap.size 9 1 v d.length (d.map str) ∧ Below w.heap.size w wr) (fun _ _ i _ => s.size - (intOf i).toNat)
  case atStart => exact ⟨0, 0, [], [], Nat.zero_le _, Nat.le_refl _, rfl, rfl, rfl, rfl, World.ownsRow_nil _ _ _ _, Below.refl _ _⟩
  case round =>
    obtain ⟨k, j, d, r, hk, hj, rfl, rfl, hst, hr, hown, hbel⟩ := hrel
    have hd : d.length ≤ k := by
      have := Ln.st_len 10 (s.data.toList.take k)
      rw [hst] at this
      simp at this; omega
    have hz := hbel.size
    by_cases hlt : k < s.size
    · have hb := byte_is s[k] 10 (by omega)
      by_cases hc : s[k] = 10
      · have h1 : ((s[k].toNat : Int) == 10) = true := by rw [show (10 : Int) = ((10 : Nat) : Int) from rfl, hb]; exact dec_t hc
        have N := Lib.hid (ref_hit 10 s k d r hlt hst hc)
        have X := Lib.hid (extract_txt s j k)
        rw [hr] at X
        clear hb hc hst hr
        go_wp2_with (at_builtin; refine wpList_append_own _ rfl (.tmp 17) (.tmp 22) 69 rfl w.heap.size 9 i0 (.string ByteArray.empty) 1 16 Try.underlying69 hi hz0 hz1 hz2 rfl (by decide) _ _ _ rfl (hown.alloc _) ⟨wr.heap.size, 0, none⟩ 1 1 [.string (s.extract j k)] rfl rfl (cell_one_new _ _ _) (fun x hx => by simp at hx; subst hx; rfl) (by unfold maxLen; omega) (by omega) (by simp; omega) ?_; intro v1 w1 hown1 hg1 _)
        have hbel1 : Below w.heap.size w w1 := (hbel.alloc hz _).grown hg1 (by simp; omega) (fun g hg => (hown.lt g hg).1)
        have O1 := Lib.hid hown1
        clear hown1 hg1 hown
        go_roundw
        case rel =>
          refine ⟨k + 1, k + 1, d ++ [r], [], by omega, by omega, by go_num, by go_num, N.out, drop_none s (k + 1), ?_, hbel1⟩
          have e1 : (d ++ [r]).map str = d.map str ++ [.string (s.extract j k)] := by rw [List.map_append, List.map_singleton, str, X.out]
          rw [e1, List.length_append, List.length_singleton]
          exact O1.out
        case measure => simp [intOf]; omega
      · have h1 : ((s[k].toNat : Int) == 10) = false := by rw [show (10 : Int) = ((10 : Nat) : Int) from rfl, hb]; exact dec_f hc
        have N := Lib.hid (ref_miss 10 s k d r hlt hst hc)
        have X := Lib.hid (drop_next s j k r hlt hj hr)
        have O := Lib.hid hown
        clear hb hc hst hr hown
        go_wp2
        go_roundw
        case rel => exact ⟨k + 1, j, d, r ++ [s[k]], by omega, by omega, by go_num, rfl, N.out, X.out, O.out, hbel⟩
        case measure => simp [intOf]; omega
    · obtain rfl : k = s.size := by omega
      have hall : s.data.toList.take s.size = s.data.toList := List.take_of_length_le (by simp)
      rw [hall] at hst hr
      have hrl : r.length = s.size - j := by rw [← hr]; simp
      have X := Lib.hid (extract_txt s j s.size)
      rw [hall, hr] at X
      by_cases hjs : j < s.size
      · have hrne : r ≠ [] := by intro e; rw [e] at hrl; simp at hrl; omega
        have e1 : Ln.whole s.data.toList = false := by rw [Ln.whole, hst]; simpa using hrne
        have e2 : Ln.split s.data.toList = d ++ [r] := by rw [Ln.split, e1, Ln.cut, hst]; rfl
        have E := Lib.hid (And.intro e1 e2)
        clear e1 e2 hst hr hrl hrne
        go_wp2_with (at_builtin; refine wpList_append_own _ rfl (.tmp 30) (.tmp 34) 69 rfl w.heap.size 9 i0 (.string ByteArray.empty) 1 16 Try.underlying69 hi hz0 hz1 hz2 rfl (by decide) _ _ _ rfl (hown.alloc _) ⟨wr.heap.size, 0, none⟩ 1 1 [.string (s.extract j s.size)] rfl rfl (cell_one_new _ _ _) (fun x hx => by simp at hx; subst hx; rfl) (by unfold maxLen; omega) (by omega) (by simp; omega) ?_; intro v1 w1 hown1 hg1 _)
        have hbel1 : Below w.heap.size w w1 := (hbel.alloc hz _).grown hg1 (by simp; omega) (fun g hg => (hown.lt g hg).1)
        have e3 : (d ++ [r]).map str = d.map str ++ [.string (s.extract j s.size)] := by rw [List.map_append, List.map_singleton, str, X.out]
        rw [← e3] at hown1
        obtain ⟨hn, A, c, rfl, hcap, hs1⟩ := Strs.of_own hown1
        clear hown1 hown hg1
        go_wp2
        go_ret2
        rw [E.out.1, E.out.2]
        exact GivesList.mk hcap hn rfl hs1 hbel1
      · have hrn : r = [] := by apply List.eq_nil_of_length_eq_zero; omega
        have e1 : Ln.whole s.data.toList = true := by rw [Ln.whole, hst, hrn]; rfl
        have e2 : Ln.split s.data.toList = d := by rw [Ln.split, e1, hst]; rfl
        have E := Lib.hid (And.intro e1 e2)
        obtain ⟨hn, A, c, rfl, hcap, hs1⟩ := Strs.of_own hown
        clear e1 e2 hst hr hrl hrn hown
        go_wp2
        go_ret2
        rw [E.out.1, E.out.2]
        exact GivesList.mk hcap rfl rfl hs1 hbel

theorem take_line (L : List (List UInt8)) (k : Nat) (h : k < L.length) : Ln.line (L.take (k + 1)) = if k = 0 then L[k] else Ln.line (L.take k) ++ [32] ++ L[k] := by
  rw [List.take_succ_eq_append_getElem h, Ln.line, Ln.join_snoc]
  by_cases h0 : k = 0
  · subst h0; simp
  · rw [if_neg h0]
    obtain ⟨j, rfl⟩ : ∃ j, k = j + 1 := ⟨k - 1, by omega⟩
    have e : L.take (j + 1) = L.take j ++ [L[j]] := List.take_succ_eq_append_getElem (by omega)
    rw [e, Ln.line, Ln.join_snoc]
    simp only [List.map_append, List.flatten_append, List.map_cons, List.map_nil, List.flatten_cons, List.flatten_nil, List.append_nil, List.append_assoc]
theorem line_take_le (L : List (List UInt8)) : ∀ k, (Ln.line (L.take k)).length ≤ (Ln.line (L.take (k + 1))).length := by
  intro k
  by_cases h : k < L.length
  · rw [take_line L k h]
    split
    · rename_i h0; subst h0; simp [Ln.line, Lib.join]
    · rw [List.length_append, List.length_append]; omega
  · rw [List.take_of_length_le (by omega), List.take_of_length_le (by omega)]; omega
theorem line_take (L : List (List UInt8)) (k : Nat) : (Ln.line (L.take k)).length ≤ (Ln.line L).length := by
  by_cases h : k < L.length
  · have : ∀ n, (Ln.line (L.take k)).length ≤ (Ln.line (L.take (k + n))).length := by
      intro n
      induction n with
      | zero => simp
      | succ n ih => have := line_take_le L (k + n); rw [show k + (n + 1) = k + n + 1 by omega]; omega
    have := this (L.length - k)
    rwa [List.take_of_length_le (show L.length ≤ k + (L.length - k) by omega)] at this
  · rw [List.take_of_length_le (by omega)]; omega
theorem txt_add (a b : List UInt8) : txt a ++ txt b = txt (a ++ b) := by
  apply ByteArray.ext
  simp [txt, ByteArray.data_append]

set_option maxHeartbeats 1000000 in
theorem rline_any (A : Option Addr) (c : Nat) (L : List (List UInt8)) (w : World) (h : Strs w A L) (hl : L.length ≤ 1000000) (hx : (Ln.line L).length ≤ 10000000) :
    Calls Try.prog 51 #[.slice A L.length c] w fun e w' => e = .returned (.string (txt (Ln.line L))) ∧ w = w' := by
  go_enter Try.func51, Try.ntmps51
  go_wp2
  go_loop [3, 4] (fun t i => ∃ k : Nat, k ≤ L.length ∧ i = .int .i64 k ∧ t = .string (txt (Ln.line (L.take k)))) (fun _ i => L.length - (intOf i).toNat)
  case atStart => exact ⟨0, Nat.zero_le _, rfl, rfl⟩
  case round =>
    obtain ⟨k, hk, rfl, rfl⟩ := hrel
    by_cases hlt : k < L.length
    · have ht := take_line L k hlt
      have hle := line_take L (k + 1)
      have hle0 := line_take L k
      obtain ⟨a, rfl, hb, hc⟩ := h.cell hlt
      rw [str] at hc
      have hq := txt_size L[k]
      have hq2 := txt_size (Ln.line (L.take k))
      by_cases h0 : k = 0
      · rw [if_pos h0] at ht
        rw [ht] at hle
        have HT := Lib.hid ht
        have h1 : ¬ 0 < k := by omega
        have H0 := Lib.hid h0
        clear ht h0
        go_wp2
        go_round
        case rel => exact ⟨k + 1, by omega, by go_num, by
          have h0 := H0.out
          rw [HT.out]
          subst h0
          exact congrArg Value.string (txt_add [] _)⟩
        case measure => simp [intOf]; omega
      · rw [if_neg h0] at ht
        rw [ht] at hle
        simp only [List.length_append, List.length_singleton] at hle
        have h1 : 0 < k := by omega
        have HT := Lib.hid ht
        clear ht h0
        go_wp2
        go_round
        case rel => exact ⟨k + 1, by omega, by go_num, by rw [HT.out, ← txt_add, ← txt_add]; rfl⟩
        case measure => simp [intOf]; omega
    · have e : L.take k = L := List.take_of_length_le (by omega)
      rw [e]
      go_wp2
      go_ret
      exact ⟨rfl, rfl⟩

theorem setLast (d : List (List UInt8)) (r r' : List UInt8) : ((d ++ [r]).map str).set d.length (str r') = (d ++ [r']).map str := by
  simp
theorem okw_bd {c : UInt8} (h : Ln.okw c = true) : 33 ≤ (c.toNat : Int) ∧ (c.toNat : Int) ≤ 126 := by simpa [Ln.okw] using h
theorem okw_no {c : UInt8} (h : Ln.okw c = false) (h2 : c ≠ 32) : (c.toNat : Int) < 32 ∨ 127 ≤ (c.toNat : Int) := by
  have h3 : (c.toNat : Int) ≠ 32 := fun e => h2 (UInt8.toNat_inj.mp (by simpa using Int.ofNat.inj e))
  simp [Ln.okw] at h
  omega
theorem ws_bad {s : ByteArray} {k : Nat} (hk : k < s.size) (h : Ln.okw s[k] = false) (h2 : s[k] ≠ 32) : Ln.ws true s.data.toList = false := by
  rw [Ln.ws_eq]
  have : s.data.toList.all Ln.okb = false := by
    rw [List.all_eq_false]
    refine ⟨s[k], ?_, by simp [Ln.okb, h, h2]⟩
    exact List.getElem_mem (l := s.data.toList) (n := k) (by simpa using hk)
  rw [this, Bool.false_and]

set_option maxHeartbeats 2000000 in
set_option maxRecDepth 100000 in
theorem rwords_any (s : ByteArray) (w : World) (hs : s.size ≤ 1000000) :
    Calls Try.prog 30 #[.string s] w (GivesList (Ln.words s.data.toList) (Ln.ws true s.data.toList) w) := by
  obtain ⟨i0, hi, hz0, hz1, hz2⟩ := info_parts infoStr
  go_enter Try.func30, Try.ntmps30
  go_wp2
  go_loopw [4, 5] (fun v i wr => ∃ (k : Nat) (d : List (List UInt8)) (r : List UInt8) (g cap : Nat), k ≤ s.size ∧ i = .int .i64 k ∧ v = .slice (some ⟨g, 0, none⟩) (d.length + 1) cap ∧ Ln.st 32 (s.data.toList.take k) = (d, r) ∧ (s.data.toList.take k).all Ln.okb = true ∧
      wr.ownsRow w.heap.size 9 1 (.slice (some ⟨g, 0, none⟩) (d.length + 1) cap) (d.length + 1) ((d ++ [r]).map str) ∧ Below w.heap.size w wr) (fun _ i _ => s.size - (intOf i).toNat)
  case atStart => exact ⟨0, [], [], w.heap.size, 1, Nat.zero_le _, rfl, rfl, rfl, rfl, World.ownsRow_lit w _ 1 (Nat.le_refl _) (by unfold maxLen; omega) rfl, (Below.refl _ _).alloc (Nat.le_refl _) _⟩
  case round =>
    obtain ⟨k, d, r, g, cap, hk, rfl, rfl, hst, hall, hown, hbel⟩ := hrel
    have hd : d.length ≤ k := by
      have := Ln.st_len 32 (s.data.toList.take k)
      rw [hst] at this
      simp at this; omega
    have hz := hbel.size
    by_cases hlt : k < s.size
    · by_cases hc : s[k] = 32
      · have h1 : ((s[k].toNat : Int) == 32) = true := byte32.mpr hc
        have N := Lib.hid (ref_hit 32 s k d r hlt hst hc)
        have AL := Lib.hid (all_snoc (p := Ln.okb) hlt hall (by rw [hc]; rfl))
        clear hc hst hall
        go_wp2_with (at_builtin; refine wpList_append_own _ rfl (.tmp 19) (.tmp 20) 69 rfl w.heap.size 9 i0 (.string ByteArray.empty) 1 16 Try.underlying69 hi hz0 hz1 hz2 rfl (by decide) _ _ _ rfl (hown.alloc _) ⟨wr.heap.size, 0, none⟩ 1 1 [.string ⟨#[]⟩] rfl rfl (cell_one_new _ _ _) (fun x hx => by simp at hx; subst hx; rfl) (by unfold maxLen; omega) (by omega) (by simp; omega) ?_; intro v1 w1 hown1 hg1 _)
        have hbel1 : Below w.heap.size w w1 := (hbel.alloc hz _).grown hg1 (by simp; omega) (fun g hg => (hown.lt g hg).1)
        obtain ⟨g1, cap1, hv1⟩ : ∃ g1 cap1, v1 = .slice (some ⟨g1, 0, none⟩) (d.length + 1 + 1) cap1 := by
          obtain ⟨g1, cap1, h, _⟩ := hown1.form (by omega)
          exact ⟨g1, cap1, h⟩
        subst hv1
        have O1 := Lib.hid hown1
        clear hown1 hg1 hown
        go_roundw
        case rel =>
          refine ⟨k + 1, d ++ [r], [], g1, cap1, by omega, by go_num, by simp, N.out, AL.out, ?_, hbel1⟩
          have e1 : ((d ++ [r]) ++ [[]]).map str = (d ++ [r]).map str ++ [.string ⟨#[]⟩] := by rw [List.map_append (l₂ := [[]])]; rfl
          rw [e1, List.length_append, List.length_singleton]
          exact O1.out
        case measure => simp [intOf]; omega
      · have h1 : ((s[k].toNat : Int) == 32) = false := by
          rw [Bool.eq_false_iff]; exact fun e => hc (byte32.mp e)
        cases ho : Ln.okw s[k]
        · have W := Lib.hid (ws_bad hlt ho hc)
          have h2 := okw_no ho hc
          clear hc ho hst hall hown
          rcases h2 with h2 | h2
          all_goals
            go_wp2
            go_ret2
            rw [Ln.words, W.out]
            exact GivesList.mk (n := 0) (c := 0) (by omega) rfl rfl (Strs.nil _ _) hbel
        · have h2 := okw_bd ho
          have N := Lib.hid (ref_miss 32 s k d r hlt hst hc)
          have AL := Lib.hid (all_snoc (p := Ln.okb) hlt hall (by simp [Ln.okb, ho]))
          have hr : r.length ≤ k := by
            have := congrArg List.length (Ln.st_join 32 (s.data.toList.take k))
            rw [hst] at this
            simp at this; omega
          have hcell : wr.cell? ⟨g, d.length, none⟩ = some (.string (txt r)) := by
            rw [hown.cellAt d.length (by omega)]; simp [str]
          have hfz := hown.frozenAt d.length
          have hsz := txt_size r
          clear hc ho hst hall
          have O := Lib.hid hown
          have hadd : (txt r).size + (s.extract k (k + 1)).size ≤ 9223372036854775807 := by rw [hsz, ByteArray.size_extract]; omega
          clear hown hsz
          go_wp2
          go_region
          go_wp2
          go_roundw
          case rel =>
            have e1 : txt r ++ s.extract k (k + 1) = txt (r ++ [s[k]]) := by
              rw [← extract_txt, take_snoc s k hlt, List.drop_append_of_le_length (by simp; omega), drop_none, List.nil_append, txt_add]
            have st := (O.out.drew).stored d.length (str (r ++ [s[k]]))
            rw [setLast] at st
            refine ⟨k + 1, d, r ++ [s[k]], g, cap, by omega, by go_num, rfl, N.out, AL.out, ?_, ?_⟩
            · rw [e1]; exact st.1
            · rw [e1]; exact hbel.drew.setCell (by have := (O.out.lt g (by simp [Value.ownBlock])).1; exact this) _
          case measure => simp [intOf]; omega
    · obtain rfl : k = s.size := by omega
      have e0 : s.data.toList.take s.size = s.data.toList := List.take_of_length_le (by simp)
      rw [e0] at hst hall
      have hcut : Ln.cut 32 s.data.toList = d ++ [r] := by rw [Ln.cut, hst]
      have hws : Ln.ws true s.data.toList = (d ++ [r]).all (fun x => !x.isEmpty) := by rw [Ln.ws_eq, hall, hcut, Bool.true_and]
      have E := Lib.hid (And.intro hcut hws)
      obtain ⟨hn, A, c, hv, hcap, hs1⟩ := Strs.of_own hown
      cases hv
      have HN := Lib.hid hn
      have hdb : d.length ≤ 1000000 := by omega
      clear e0 hst hall hcut hws hown hn
      go_wp2
      go_loop [6] (fun i => ∃ j : Nat, j ≤ d.length + 1 ∧ i = .int .i64 j ∧ ((d ++ [r]).take j).all (fun x => !x.isEmpty) = true) (fun i => d.length + 1 - (intOf i).toNat)
      case atStart => exact ⟨0, Nat.zero_le _, rfl, rfl⟩
      case round =>
        obtain ⟨j, hj, rfl, ha⟩ := hrel
        have HA := Lib.hid ha
        clear ha
        by_cases hlt2 : j < d.length + 1
        · have hjl : j < (d ++ [r]).length := by rw [← HN.out]; exact hlt2
          obtain ⟨a, ha, hb, hcl⟩ := hs1.cell hjl
          cases ha
          rw [str] at hcl
          rw [Go.WideShapes.add_plain, Nat.zero_add] at hcl
          by_cases he : (d ++ [r])[j] = []
          · have h1 := isE_t he
            have HE := Lib.hid he
            clear he
            go_wp2
            go_ret2
            have : (d ++ [r]).all (fun x => !x.isEmpty) = false := by
              rw [List.all_eq_false]
              exact ⟨_, List.getElem_mem hjl, by rw [HE.out]; simp⟩
            rw [Ln.words, E.out.2, this]
            exact GivesList.mk (n := 0) (c := 0) (by omega) rfl rfl (Strs.nil _ _) hbel
          · have h1 := isE_f he
            have HE := Lib.hid he
            clear he
            go_wp2
            go_round
            case rel => exact ⟨j + 1, by omega, by go_num, by rw [List.take_succ_eq_append_getElem hjl, List.all_append, HA.out]; simpa using HE.out⟩
            case measure => simp [intOf]; omega
        · have : (d ++ [r]).all (fun x => !x.isEmpty) = true := by
            have := HA.out
            rwa [List.take_of_length_le (by rw [← HN.out]; omega)] at this
          have H2 := Lib.hid this
          clear this
          go_wp2
          go_ret2
          have hw : Ln.ws true s.data.toList = true := by rw [E.out.2, H2.out]
          rw [Ln.words, hw, if_pos rfl, E.out.1]
          exact GivesList.mk hcap HN.out rfl hs1 hbel
end Go.Proofs.Ytgajdfecajleiaa
