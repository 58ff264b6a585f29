/-
  Texts of this claim, merged: FigSpec, FigWalks, FigNames, Txt, FigPrint, LawKit, LnSpec, ItSpec, ShSpec, PlSpec, PlSort.
-/
import Derived.Test.YtbmmcmdopekccaaRows
import Derived.BigQuiet
import Derived.Carry
import Derived.Deep.DeepHandedRow
import Derived.Deep.QuietTactic
import Derived.Deep.RegionWith
import Derived.Lib.AppendIntMem
import Derived.Lib.Hide
import Derived.Lib.ItoaLen
import Derived.Lib.ItoaNum
import Derived.Lib.Join
import Derived.Lib.LaidTab
import Derived.Lib.Split
import Derived.Lib.SplitLaws
import Derived.OpenShut
import Derived.ProofKit
import Derived.Stop.LaidErr
import Derived.WalkKit
import Derived.WalkLawsBesides
import Derived.WalkSpells
/-
  Plain facts on lists of bytes for layer 1: what a digit, a number's text and a name are. No program.
-/
namespace Go.Proofs.Ytbmmcmdopekccaa.Fig

def dig (c : UInt8) : Bool := decide (48 ≤ (c.toNat : Int) ∧ (c.toNat : Int) ≤ 57)
def let_ (c : UInt8) : Bool := decide ((97 ≤ (c.toNat : Int) ∧ (c.toNat : Int) ≤ 122) ∨ (65 ≤ (c.toNat : Int) ∧ (c.toNat : Int) ≤ 90))
def nameB (l : List UInt8) : Bool := decide (1 ≤ l.length ∧ l.length ≤ 8) && l.all fun c => dig c || let_ c
/-- the number that the digits tell -/
def val (l : List UInt8) : Int := l.foldl (fun n c => 10 * n + ((c.toNat : Int) - 48)) 0
def pad (l : List UInt8) : Bool := decide (1 < l.length) && l.head? == some 48
def form (l : List UInt8) : Bool := decide (1 ≤ l.length ∧ l.length ≤ 13) && !pad l && l.all dig
def parseB (l : List UInt8) (most : Int) : Bool := form l && decide (val l ≤ most)
def parseN (l : List UInt8) (most : Int) : Int := if parseB l most then val l else 0

theorem val_snoc (l : List UInt8) (c : UInt8) : val (l ++ [c]) = 10 * val l + ((c.toNat : Int) - 48) := by
  simp [val, List.foldl_append]
theorem val_bd (l : List UInt8) (h : l.all dig = true) : 0 ≤ val l ∧ val l < 10 ^ l.length := by
  suffices H : ∀ (r : List UInt8), r.all dig = true → 0 ≤ val r.reverse ∧ val r.reverse < 10 ^ r.length by
    have := H l.reverse (by simpa using h)
    simpa using this
  intro r
  induction r with
  | nil => intro _; simp [val]
  | cons c r ih =>
    intro h
    simp only [List.all_cons, Bool.and_eq_true] at h
    have h1 := ih h.2
    have h2 : 48 ≤ (c.toNat : Int) ∧ (c.toNat : Int) ≤ 57 := by simpa [dig] using h.1
    rw [List.reverse_cons, val_snoc]
    simp only [List.length_cons, Int.pow_succ]
    omega
end Go.Proofs.Ytbmmcmdopekccaa.Fig
/-
  The walks of layer 1's functions and of the document's answers to it: each returns what the plain functions of the text before say, and leaves the world as it was.
-/
namespace Go.Proofs.Ytbmmcmdopekccaa
open Go.RowKit

theorem retB {a b : Bool} (h : a = b) : Ending.returned (.bool a) = .returned (.bool b) := by rw [h]

set_option maxHeartbeats 400000 in
theorem rdigit_any (c : UInt8) (w : World) :
    Calls Try.prog 73 #[.int .u8 c.toNat] w fun e w' => e = .returned (.bool (Fig.dig c)) ∧ w = w' := by
  go_enter Try.func73, Try.ntmps73
  go_wp2
  all_goals (go_ret; refine ⟨retB ?_, rfl⟩; simp [Fig.dig]; try omega)
theorem pad_long (s : ByteArray) (h : 0 < s.size) (h1 : 1 < s.size) : Fig.pad s.data.toList = ((s[0].toNat : Int) == 48) := by
  have e : s.data.toList.head? = some s[0] := by
    rw [List.head?_eq_getElem?]
    exact List.getElem?_eq_getElem (by simpa using h)
  have hl : 1 < s.data.toList.length := by simpa using h1
  rw [Fig.pad, e, Bool.eq_iff_iff]
  simp only [hl, decide_true, Bool.true_and, beq_iff_eq, Option.some.injEq]
  constructor
  · intro h; rw [h]; rfl
  · intro h; exact UInt8.toNat_inj.mp (by simpa using Int.ofNat.inj h)
theorem pad_yes (s : ByteArray) (h : Fig.pad s.data.toList = true) : 1 < s.size ∧ ∀ h0 : 0 < s.size, ((s[0]'h0).toNat : Int) = 48 := by
  by_cases h1 : 1 < s.size
  · refine ⟨h1, fun h0 => ?_⟩
    rw [pad_long s h0 h1] at h
    exact beq_iff_eq.mp h
  · rw [Fig.pad, show decide (1 < s.data.toList.length) = false by simpa using h1] at h
    cases h
theorem take_snoc (s : ByteArray) (k : Nat) (h : k < s.size) : s.data.toList.take (k + 1) = s.data.toList.take k ++ [s[k]] := by
  rw [List.take_succ_eq_append_getElem (by simpa using h)]; rfl
theorem retNB {a b : Int} {p q : Bool} (h : a = b) (k : p = q) : Ending.returned (.tuple #[.int .i64 a, .bool p]) = .returned (.tuple #[.int .i64 b, .bool q]) := by rw [h, k]
theorem parse_no (l : List UInt8) (most : Int) (h : Fig.form l = false) : Fig.parseN l most = 0 ∧ Fig.parseB l most = false := by
  simp [Fig.parseN, Fig.parseB, h]
theorem all_false {p : UInt8 → Bool} {l : List UInt8} {k : Nat} (h : k < l.length) (hp : p l[k] = false) : l.all p = false := by
  rw [List.all_eq_false]; exact ⟨_, List.getElem_mem h, by simp [hp]⟩

theorem form_mid (s : ByteArray) (h1 : ¬ s.size = 0) (h2 : ¬ 13 < s.size) (h3 : Fig.pad s.data.toList = false) : Fig.form s.data.toList = s.data.toList.all Fig.dig := by
  have : decide (1 ≤ s.data.toList.length ∧ s.data.toList.length ≤ 13) = true := by simp; omega
  rw [Fig.form, this, h3]; simp
theorem form_ends (s : ByteArray) (h0 : s.size = 0 ∨ 13 < s.size) : Fig.form s.data.toList = false := by
  have : decide (1 ≤ s.data.toList.length ∧ s.data.toList.length ≤ 13) = false := by
    have : s.data.toList.length = s.size := by simp
    rw [decide_eq_false_iff_not]; omega
  rw [Fig.form, this]; rfl
theorem beq0_t {n : Nat} (h : n = 0) : ((n : Int) == 0) = true := by subst h; rfl
theorem beq0_f {n : Nat} (h : n ≠ 0) : ((n : Int) == 0) = false := by
  rw [beq_eq_false_iff_ne]; omega
theorem dec_f {p : Prop} [Decidable p] (h : ¬ p) : decide p = false := decide_eq_false h
theorem dec_t {p : Prop} [Decidable p] (h : p) : decide p = true := decide_eq_true h
theorem dig_bd {c : UInt8} (h : Fig.dig c = true) : 48 ≤ (c.toNat : Int) ∧ (c.toNat : Int) ≤ 57 := by simpa [Fig.dig] using h
theorem all_snoc {p : UInt8 → Bool} {s : ByteArray} {k : Nat} (hk : k < s.size) (h : (s.data.toList.take k).all p = true) (hc : p s[k] = true) : (s.data.toList.take (k + 1)).all p = true := by
  rw [take_snoc s k hk, List.all_append, h]; simpa using hc
theorem all_stop {p : UInt8 → Bool} {s : ByteArray} {k : Nat} (hk : k < s.size) (hc : p s[k] = false) : s.data.toList.all p = false :=
  all_false (k := k) (by simpa using hk) hc
theorem val_step (s : ByteArray) (k : Nat) (hk : k < s.size) : Fig.val (s.data.toList.take (k + 1)) = 10 * Fig.val (s.data.toList.take k) + ((s[k].toNat : Int) - 48) := by
  rw [take_snoc s k hk, Fig.val_snoc]
theorem pow_small {k : Nat} (h : k ≤ 13) : (10 : Int) ^ k ≤ 10000000000000 := by
  have : (10 : Nat) ^ k ≤ 10 ^ 13 := Nat.pow_le_pow_right (by omega) h
  have h2 : ((10 ^ k : Nat) : Int) ≤ ((10 ^ 13 : Nat) : Int) := Int.ofNat_le.mpr this
  simpa using h2
theorem val_small (s : ByteArray) (k : Nat) (h : k ≤ 13) (hd : (s.data.toList.take k).all Fig.dig = true) : 0 ≤ Fig.val (s.data.toList.take k) ∧ Fig.val (s.data.toList.take k) < 10000000000000 := by
  have hv := Fig.val_bd _ hd
  have hl : (s.data.toList.take k).length ≤ 13 := by simp; omega
  have := pow_small hl
  omega
theorem parse_val (s : ByteArray) (most : Int) (h : Fig.form s.data.toList = true) : Fig.parseN s.data.toList most = (if Fig.val s.data.toList ≤ most then Fig.val s.data.toList else 0) ∧ Fig.parseB s.data.toList most = decide (Fig.val s.data.toList ≤ most) := by
  simp [Fig.parseN, Fig.parseB, h]
theorem parse_in {n v most : Int} {b : Bool} (h : n = (if v ≤ most then v else 0) ∧ b = decide (v ≤ most)) (hm : v ≤ most) : n = v ∧ b = true := by
  rw [h.1, h.2, if_pos hm]; exact ⟨rfl, dec_t hm⟩
theorem parse_out {n v most : Int} {b : Bool} (h : n = (if v ≤ most then v else 0) ∧ b = decide (v ≤ most)) (hm : ¬ v ≤ most) : n = 0 ∧ b = false := by
  rw [h.1, h.2, if_neg hm]; exact ⟨rfl, dec_f hm⟩
set_option maxHeartbeats 400000 in
theorem rparse_any (s : ByteArray) (most : Int) (w : World) (hs : s.size ≤ maxLen) :
    Calls Try.prog 54 #[.string s, .int .i64 most] w fun e w' => e = .returned (.tuple #[.int .i64 (Fig.parseN s.data.toList most), .bool (Fig.parseB s.data.toList most)]) ∧ w = w' := by
  unfold maxLen at hs
  by_cases h0 : s.size = 0 ∨ 13 < s.size
  · have H := Lib.hid (parse_no s.data.toList most (form_ends s h0))
    have h0' : ((s.size : Int) == 0) = true ∨ (((s.size : Int) == 0) = false ∧ decide (13 < (s.size : Int)) = true) := by
      by_cases h : s.size = 0
      · exact Or.inl (beq0_t h)
      · exact Or.inr ⟨beq0_f h, dec_t (by omega)⟩
    clear h0
    rcases h0' with h0' | ⟨h0', h1⟩
    all_goals
      go_enter Try.func54, Try.ntmps54
      go_wp2_with fail
      go_ret2
      exact ⟨retNB H.out.1.symm H.out.2.symm, rfl⟩
  · have h0a : ((s.size : Int) == 0) = false := beq0_f (by omega)
    have h0b : decide (13 < (s.size : Int)) = false := dec_f (by omega)
    have h0c : s.size ≤ 13 := by omega
    by_cases hp : Fig.pad s.data.toList = true
    · have H := Lib.hid (parse_no s.data.toList most (by rw [Fig.form, hp]; simp))
      have hz : 0 < s.size := by omega
      have h1a : decide (1 < (s.size : Int)) = true := dec_t (by have := (pad_yes s hp).1; omega)
      have h1c : ((s[0].toNat : Int) == 48) = true := by rw [(pad_yes s hp).2 hz]; rfl
      clear h0 h0c
      go_enter Try.func54, Try.ntmps54
      go_wp2_with fail
      go_ret2
      exact ⟨retNB H.out.1.symm H.out.2.symm, rfl⟩
    · have hp' : Fig.pad s.data.toList = false := by simpa using hp
      have H := Lib.hid (form_mid s (by omega) (by omega) hp')
      have hz : 0 < s.size := by omega
      have h1 : (decide (1 < (s.size : Int)) = true ∧ ((s[0].toNat : Int) == 48) = false) ∨ decide (1 < (s.size : Int)) = false := by
        by_cases h1 : 1 < s.size
        · exact Or.inl ⟨dec_t (by omega), by rw [← pad_long s hz h1]; exact hp'⟩
        · exact Or.inr (dec_f (by omega))
      clear h0 hp
      rcases h1 with ⟨h1a, h1c⟩ | h1a
      all_goals
        go_enter Try.func54, Try.ntmps54
        go_wp2_with fail
        go_loop [6, 7] (fun n i => ∃ k : Nat, k ≤ s.size ∧ i = .int .i64 k ∧ n = .int .i64 (Fig.val (s.data.toList.take k)) ∧ (s.data.toList.take k).all Fig.dig = true) (fun _ i => s.size - (intOf i).toNat)
        case atStart => exact ⟨0, Nat.zero_le _, rfl, rfl, rfl⟩
        case round =>
          obtain ⟨k, hk, rfl, rfl, hd⟩ := hrel
          have hv := val_small s k (by omega) hd
          by_cases hlt : k < s.size
          · by_cases hc : Fig.dig s[k] = true
            · have hb := dig_bd hc
              have HS := Lib.hid (val_step s k hlt)
              have HD := Lib.hid (all_snoc hlt hd hc)
              clear hd
              go_wp2_with (go_at_call 73; refine (rdigit_any _ _).mono ?_; rintro e w' ⟨rfl, rfl⟩)
              go_round
              case rel => exact ⟨k + 1, by omega, by go_num, by rw [HS.out], HD.out⟩
              case measure => simp [intOf]; omega
            · have hc' : Fig.dig s[k] = false := by simpa using hc
              have HF := Lib.hid (parse_no s.data.toList most (by rw [H.out]; exact all_stop hlt hc'))
              clear hd hc
              go_wp2_with (go_at_call 73; refine (rdigit_any _ _).mono ?_; rintro e w' ⟨rfl, rfl⟩)
              go_ret2
              exact ⟨retNB HF.out.1.symm HF.out.2.symm, rfl⟩
          · have hks : k = s.size := by omega
            subst hks
            have ht : s.data.toList.take s.size = s.data.toList := List.take_of_length_le (by simp)
            rw [ht] at hd hv
            rw [ht]
            have hn := parse_val s most (by rw [H.out]; exact hd)
            have HN := Lib.hid hn
            clear hd ht hn
            by_cases hm : Fig.val s.data.toList ≤ most
            · have HM := Lib.hid (parse_in HN.out hm)
              have hm' : decide (most < Fig.val s.data.toList) = false := dec_f (by omega)
              clear hm
              go_wp2_with fail
              go_ret2
              exact ⟨retNB HM.out.1.symm HM.out.2.symm, rfl⟩
            · have HM := Lib.hid (parse_out HN.out hm)
              have hm' : decide (most < Fig.val s.data.toList) = true := dec_t (by omega)
              clear hm
              go_wp2_with fail
              go_ret2
              exact ⟨retNB HM.out.1.symm HM.out.2.symm, rfl⟩
end Go.Proofs.Ytbmmcmdopekccaa
/-
  The walks of layer 1's Name and of the document's answer to it.
-/
namespace Go.Proofs.Ytbmmcmdopekccaa
open Go.RowKit

abbrev Fig.al (c : UInt8) : Bool := Fig.dig c || Fig.let_ c
theorem name_bad (s : ByteArray) (k : Nat) (hk : k < s.size) (h : Fig.dig s[k] = false) (h2 : Fig.let_ s[k] = false) : Fig.nameB s.data.toList = false := by
  rw [Fig.nameB, all_stop (p := fun c => Fig.dig c || Fig.let_ c) hk (by rw [h, h2]; rfl)]; simp
theorem name_good (s : ByteArray) (h : s.data.toList.all (fun c => Fig.dig c || Fig.let_ c) = true) : Fig.nameB s.data.toList = decide (1 ≤ s.size ∧ s.size ≤ 8) := by
  rw [Fig.nameB, h]; simp
theorem let_yes {c : UInt8} (h : Fig.let_ c = true) : (97 ≤ (c.toNat : Int) ∧ (c.toNat : Int) ≤ 122) ∨ (65 ≤ (c.toNat : Int) ∧ (c.toNat : Int) ≤ 90) := by
  exact of_decide_eq_true h
theorem let_no {c : UInt8} (h : Fig.let_ c = false) : ¬ ((97 ≤ (c.toNat : Int) ∧ (c.toNat : Int) ≤ 122) ∨ (65 ≤ (c.toNat : Int) ∧ (c.toNat : Int) ≤ 90)) := by
  exact of_decide_eq_false h
set_option maxHeartbeats 1000000 in
theorem rname_any (s : ByteArray) (w : World) (hs : s.size ≤ maxLen) :
    Calls Try.prog 52 #[.string s] w fun e w' => e = .returned (.bool (Fig.nameB s.data.toList)) ∧ w = w' := by
  unfold maxLen at hs
  go_enter Try.func52, Try.ntmps52
  go_wp2_with fail
  go_loop [3] (fun i => ∃ k : Nat, k ≤ s.size ∧ i = .int .i64 k ∧ (s.data.toList.take k).all (fun c => Fig.dig c || Fig.let_ c) = true) (fun i => s.size - (intOf i).toNat)
  case atStart => exact ⟨0, Nat.zero_le _, rfl, rfl⟩
  case round =>
    obtain ⟨k, hk, rfl, hd⟩ := hrel
    by_cases hlt : k < s.size
    · by_cases hc : Fig.dig s[k] = true
      · have HD := Lib.hid (all_snoc hlt hd (by rw [hc]; rfl))
        clear hd
        go_wp2_with (go_at_call 73; refine (rdigit_any _ _).mono ?_; rintro e w' ⟨rfl, rfl⟩)
        go_round
        case rel => exact ⟨k + 1, by omega, by go_num, HD.out⟩
        case measure => simp [intOf]; omega
      · have hc' : Fig.dig s[k] = false := by simpa using hc
        by_cases hl : Fig.let_ s[k] = true
        · have HD := Lib.hid (all_snoc hlt hd (by rw [hc', hl]; rfl))
          have hy : (decide ((s[k].toNat : Int) < 65) = false ∧ decide (90 < (s[k].toNat : Int)) = true ∧ decide ((s[k].toNat : Int) < 97) = false ∧ decide (122 < (s[k].toNat : Int)) = false) ∨ (decide ((s[k].toNat : Int) < 65) = false ∧ decide (90 < (s[k].toNat : Int)) = false) := by
            rcases let_yes hl with h | h
            · exact Or.inl ⟨dec_f (by omega), dec_t (by omega), dec_f (by omega), dec_f (by omega)⟩
            · exact Or.inr ⟨dec_f (by omega), dec_f (by omega)⟩
          clear hd hc hl
          rcases hy with ⟨hy1, hy2, hy3, hy4⟩ | ⟨hy1, hy2⟩
          all_goals
            go_wp2_with (go_at_call 73; refine (rdigit_any _ _).mono ?_; rintro e w' ⟨rfl, rfl⟩)
            go_round
            case rel => exact ⟨k + 1, by omega, by go_num, HD.out⟩
            case measure => simp [intOf]; omega
        · have hl' : Fig.let_ s[k] = false := by simpa using hl
          have HF := Lib.hid (name_bad s k hlt hc' hl')
          have hy : (decide ((s[k].toNat : Int) < 65) = true ∧ decide ((s[k].toNat : Int) < 97) = true) ∨ (decide ((s[k].toNat : Int) < 65) = false ∧ decide (90 < (s[k].toNat : Int)) = true ∧ decide ((s[k].toNat : Int) < 97) = true) ∨ (decide ((s[k].toNat : Int) < 65) = false ∧ decide (90 < (s[k].toNat : Int)) = true ∧ decide ((s[k].toNat : Int) < 97) = false ∧ decide (122 < (s[k].toNat : Int)) = true) := by
            have hn := let_no hl'
            by_cases h65 : (s[k].toNat : Int) < 65
            · exact Or.inl ⟨dec_t h65, dec_t (by omega)⟩
            · by_cases h97 : (s[k].toNat : Int) < 97
              · exact Or.inr (Or.inl ⟨dec_f h65, dec_t (by omega), dec_t h97⟩)
              · exact Or.inr (Or.inr ⟨dec_f h65, dec_t (by omega), dec_f h97, dec_t (by omega)⟩)
          clear hd hc hl
          rcases hy with ⟨hy1, hy2⟩ | ⟨hy1, hy2, hy3⟩ | ⟨hy1, hy2, hy3, hy4⟩
          all_goals
            go_wp2_with (go_at_call 73; refine (rdigit_any _ _).mono ?_; rintro e w' ⟨rfl, rfl⟩)
            go_ret
            exact ⟨retB HF.out.symm, rfl⟩
    · have hks : k = s.size := by omega
      subst hks
      have ht : s.data.toList.take s.size = s.data.toList := List.take_of_length_le (by simp)
      rw [ht] at hd
      have HF := Lib.hid (name_good s hd)
      have hy : (decide (1 ≤ (s.size : Int)) = true ∧ decide (1 ≤ s.size ∧ s.size ≤ 8) = decide ((s.size : Int) ≤ 8)) ∨ (decide (1 ≤ (s.size : Int)) = false ∧ decide (1 ≤ s.size ∧ s.size ≤ 8) = false) := by
        by_cases h1 : 1 ≤ s.size
        · refine Or.inl ⟨dec_t (by omega), ?_⟩
          rw [Bool.eq_iff_iff]; simp; omega
        · exact Or.inr ⟨dec_f (by omega), dec_f (by omega)⟩
      clear hd ht
      rcases hy with ⟨hy1, hy2⟩ | ⟨hy1, hy2⟩
      all_goals
        have HG := Lib.hid (HF.out.trans hy2)
        clear hy2
        go_wp2_with fail
        go_ret
        exact ⟨retB HG.out.symm, rfl⟩
end Go.Proofs.Ytbmmcmdopekccaa
/-
  A list of bytes as a text's value (no function of Try is named here).
-/
namespace Go.Proofs.Ytbmmcmdopekccaa
open Go.RowKit

def txt (x : List UInt8) : ByteArray := ⟨x.toArray⟩
def str (x : List UInt8) : Value := .string (txt x)
theorem txt_toList (x : List UInt8) : (txt x).data.toList = x := by simp [txt]
theorem txt_size (x : List UInt8) : (txt x).size = x.length := by simp [txt, ByteArray.size]
theorem txt_of (s : ByteArray) : txt s.data.toList = s := by simp [txt]
theorem toList_txt (x : List UInt8) : (txt x).toList = x := by rw [ByteArray.toList_eq, txt_toList]
end Go.Proofs.Ytbmmcmdopekccaa
/-
  The walks of layer 1's Print and of the document's answer to it: both give a number's decimal digits; memory that there was is as it was.
-/
namespace Go.Proofs.Ytbmmcmdopekccaa
open Go.RowKit

theorem retS {a b : List UInt8} (h : a = b) : Ending.returned (.string ⟨a.toArray⟩) = .returned (.string ⟨b.toArray⟩) := by rw [h]
theorem bcell {W w1 : World} (hb : Below W.heap.size W w1) : (∀ b o, b < W.heap.size → w1.cell? ⟨b, o, none⟩ = W.cell? ⟨b, o, none⟩) ∧ (∀ b o, b < W.heap.size → w1.frozen? ⟨b, o, none⟩ = W.frozen? ⟨b, o, none⟩) :=
  ⟨fun b o h => hb.cell (p := ⟨b, o, none⟩) h, fun b o h => hb.frozen (p := ⟨b, o, none⟩) h⟩
/-- A slice of one byte of the call's own, made a text. -/
theorem one_byte (w : World) (b : Nat) (x : Int) (h : w.cell? ⟨b, 0, none⟩ = some (.int .u8 x)) :
    Sem.run Try.prog (convert 157 9 (.slice (some ⟨b, 0, none⟩) 1 1)) w = .ok (.string ⟨#[UInt8.ofNat x.toNat]⟩) w := by
  have := run_convert_bytes_arg (P := Try.prog) (w := w) 157 5 Try.underlying157 Try.underlying5 b 0 1 1 [x] rfl (fun i hi => by
    obtain rfl : i = 0 := by omega
    simpa using h) 9 Try.underlying9
  exact this
theorem one_new (w : World) (x : Int) :
    Sem.run Try.prog (convert 157 9 (.slice (some ⟨w.heap.size, 0, none⟩) 1 1)) (w.alloc (.cells #[.int .u8 x] 5)) = .ok (.string ⟨#[UInt8.ofNat x.toNat]⟩) (w.alloc (.cells #[.int .u8 x] 5)) :=
  one_byte _ _ _ (by
    show (w.alloc (.cells #[.int .u8 x] 5)).cell? ⟨w.heap.size, 0, none⟩ = _
    go_simp)
theorem u8_in (n : Int) (h : 0 ≤ n ∧ n ≤ 255) : IntKind.u8.wrap n = n := by
  unfold IntKind.wrap; simp [IntKind.bits, IntKind.signed]; omega
theorem digit_one (n : Int) (h0 : 0 ≤ n) (h1 : n < 10) : [UInt8.ofNat (48 + n).toNat] = Lib.decDigits n.toNat := by
  rw [Lib.decDigits_one (by omega)]
  congr 2; omega
theorem retSS {a b : ByteArray} (h : a = b) : Ending.returned (.string a) = .returned (.string b) := by rw [h]
theorem digit_more (n : Int) (h1 : 10 ≤ n) : (ByteArray.mk (Lib.decDigits (n / 10).toNat).toArray ++ ByteArray.mk #[UInt8.ofNat (48 + n % 10).toNat]) = ⟨(Lib.decDigits n.toNat).toArray⟩ := by
  have e : (ByteArray.mk #[UInt8.ofNat (48 + n % 10).toNat]) = ByteArray.mk [UInt8.ofNat (48 + n % 10).toNat].toArray := rfl
  rw [e, ByteArray.mk_append_mk]
  have : Lib.decDigits n.toNat = Lib.decDigits (n.toNat / 10) ++ [UInt8.ofNat (48 + n.toNat % 10)] := by
    conv => lhs; rw [Lib.decDigits, dif_neg (by omega)]
  rw [this, show (n / 10).toNat = n.toNat / 10 by omega, show (48 + n % 10).toNat = 48 + n.toNat % 10 by omega]
set_option maxHeartbeats 400000 in
set_option maxRecDepth 100000 in
theorem rprint_any (k : Nat) : ∀ (n : Int) (w : World), 0 ≤ n → n ≤ k → n ≤ 9223372036854775807 →
    Calls Try.prog 75 #[.int .i64 n] w fun e w' => e = .returned (.string ⟨(Lib.decDigits n.toNat).toArray⟩) ∧ Below w.heap.size w w' := by
  induction k with
  | zero =>
    intro n w h0 hk h1
    have hconv := one_new w (48 + n)
    go_enter Try.func75, Try.ntmps75
    go_wp2_with fail
    go_ret
    exact ⟨retS (digit_one n h0 (by omega)), (Below.refl _ _).alloc (Nat.le_refl _) _⟩
  | succ k ih =>
    intro n w h0 hk h1
    by_cases hn : n < 10
    · have hconv := one_new w (48 + n)
      have H := Lib.hid (digit_one n h0 hn)
      go_enter Try.func75, Try.ntmps75
      go_wp2_with fail
      go_ret
      exact ⟨retS H.out, (Below.refl _ _).alloc (Nat.le_refl _) _⟩
    · have ih' := fun W => ih (n / 10) W (by omega) (by omega) (by omega)
      have I := Lib.hid ih'
      have H := Lib.hid (digit_more n (by omega))
      clear ih ih'
      have hm : 0 ≤ n % 10 := by omega
      have hm2 : n % 10 < 10 := by omega
      have q1 : IntKind.i64.wrap (n.tdiv 10) = n / 10 := by rw [Int.tdiv_eq_ediv_of_nonneg h0]; exact IntWalk.i64_in _ (by omega)
      have q2 : n.tmod 10 = n % 10 := Int.tmod_eq_emod_of_nonneg h0
      have q3 : IntKind.i64.wrap (48 + n % 10) = 48 + n % 10 := IntWalk.i64_in _ (by omega)
      have q4 : IntKind.u8.wrap (48 + n % 10) = 48 + n % 10 := u8_in _ (by omega)
      have hL : (Lib.decDigits (n / 10).toNat).length ≤ 20 := by rw [Lib.decDigits_length]; exact Lib.nDigits_le20 _ (by omega)
      have hL2 : ¬ (9223372036854775807 < (Lib.decDigits (n / 10).toNat).length + 1) := by omega
      have hA := fun W => one_new W (48 + n % 10)
      have hB := fun W b => one_byte W b (48 + n % 10)
      go_enter Try.func75, Try.ntmps75
      go_wp2_with fail
      go_region_with (first | (go_at_call 75; refine (I.out _).mono ?_; rintro e w' ⟨rfl, hb⟩; have hcell := (bcell hb).1))
      all_goals go_wp2_with fail
      all_goals go_ret
      · exact ⟨retSS H.out, (Below.trans (b := w.drew) (Below.refl w.heap.size w).drew hb).alloc hb.size _⟩
      all_goals exact ⟨retSS H.out, ((Below.refl w.heap.size w).alloc (Nat.le_refl _) _).drew.trans (hb.mono (B' := w.heap.size) (by simp))⟩
end Go.Proofs.Ytbmmcmdopekccaa
/-
  What a law's row asks behind the call, for any law of this project: it returned true, and memory that there was is as it was. No function of the project is named here.
-/
namespace Go.Proofs.Ytbmmcmdopekccaa
open Go.ChangeShapes Go.WideShapes Go.ChangeAt Go.RowKit

theorem ownKnobNone : ownKnob Try.prog.godebug = none := by kernel_rfl
theorem laidOut : laidOutB Try.prog = true := by kernel_rfl

theorem trodAll_kept {H : Type} {enc : TypeId × Value → H} {P : Program} (hl : laidOutB P = true) {W W' : World} {sp : Nat → Bool} (hb : Below W.heap.size W W') :
    ∀ {ts : List TypeId} {vs : List Value} {ds : List (DataW H)} {ps : List MemPlace}, (ts.all fun t => P.readableRec t && decide (t < P.types.size)) = true →
      DataW.TrodAll enc P W 0 (fun _ => true) true ts vs ds ps → (∀ x ∈ ps, x.block < W.heap.size) → (∀ x ∈ ps, sp x.block = true) → DataW.TrodAll enc P W' 0 sp true ts vs ds ps
  | [], [], [], _, _, h, _, _ => h
  | t :: ts, v :: vs, d :: ds, ps, hr, h, hlt, hs => by
    obtain ⟨p, q, h1, h2, rfl⟩ := h
    simp only [List.all_cons, Bool.and_eq_true, decide_eq_true_eq] at hr
    exact ⟨p, q, Go.WideElems.Trod_stays hl hr.1.1 hr.1.2 h1 (fun x hx => hb.same (hlt x (List.mem_append_left _ hx))) (fun x hx => hs x (List.mem_append_left _ hx)),
      trodAll_kept hl hb (by simpa using hr.2) h2 (fun x hx => hlt x (List.mem_append_right _ hx)) (fun x hx => hs x (List.mem_append_right _ hx)), rfl⟩
  | [], _ :: _, _, _, _, h, _, _ => h.elim
  | _ :: _, [], _, _, _, h, _, _ => h.elim
  | [], [], _ :: _, _, _, h, _, _ => h.elim
  | _ :: _, _ :: _, [], _, _, h, _, _ => h.elim

/-- Behind a law that returned true: all that its row asks. -/
theorem post_law {H : Type} {enc : TypeId × Value → H} {P : Program} {f : Func} {s : ChangeSpec} {W W' : World} {args : Array Value} {ds gs : List (DataW H)} {before : List MemPlace} {tb : TypeId}
    (hl : laidOutB P = true) (hv : s.vars = []) (hr : f.resultTypes = #[tb]) (ht : P.underlying tb = some .bool)
    (hp : (f.params.toList.all fun t => P.readableRec t && decide (t < P.types.size)) = true)
    (hfn : s.fn H (ds ++ gs) = { results := [.lit (.bool true)], args := ds })
    (hW : DataW.Whole enc P f.params.toList s.vars false W args.toList ds gs before) (hb : Below W.heap.size W W') :
    s.post enc P f false true false false W args (.bool true) W' := by
  have hlt : ∀ p ∈ before, p.block < W.heap.size := fun p hp => hW.lt p hp
  have hW2 := hW
  obtain ⟨p, q, hA, hV, rfl, _, _⟩ := hW
  rw [hv] at hV
  obtain ⟨rfl, rfl⟩ := trodVars_none hV
  simp only [List.append_nil] at hlt hW2
  refine ⟨ds, [], p, [], p, [], hW2, ?_, ?_, ?_, ?_, fun h => by cases h⟩
  · rw [hfn, hr]
    exact trodAll_cons_mk (shut_bool ht _) trodAll_mk0
  · rw [hfn]
    exact trodAll_kept hl hb hp hA hlt (fun x hx => by simpa using hlt x hx)
  · rw [hfn, hv]; rfl
  · exact World.keptBut_mono (fun x hx => ⟨hx, Or.inr (Or.inl hx)⟩) (hb.frame (· ∈ p))

/-- The cells that a laid table's datum tells. -/
def tableCells : DataW Unit → Array Value
  | .agg l => (l.map fun | .lit (.int k n) => .int k n | _ => undef).toArray
  | _ => #[]
/-- A world in which block g holds these cells. -/
def setTable (h : Array Obj) (g : Nat) (cs : Array Value) : Array Obj := h.modify g fun
  | .cells _ t frozen => .cells cs t frozen
  | o => o

theorem wf_i64 {n : Int} (h : (Lit.int .i64 n).wf = true) : -9223372036854775808 ≤ n ∧ n ≤ 9223372036854775807 := by
  simpa [Lit.wf, IntKind.min, IntKind.max, IntKind.bits, IntKind.signed] using h
theorem wf_u64 {n : Int} (h : (Lit.int .u64 n).wf = true) : 0 ≤ n ∧ n ≤ 18446744073709551615 := by
  simpa [Lit.wf, IntKind.min, IntKind.max, IntKind.bits, IntKind.signed] using h
theorem wf_u32 {n : Int} (h : (Lit.int .u32 n).wf = true) : 0 ≤ n ∧ n ≤ 4294967295 := by
  simpa [Lit.wf, IntKind.min, IntKind.max, IntKind.bits, IntKind.signed] using h
theorem wf_u16 {n : Int} (h : (Lit.int .u16 n).wf = true) : 0 ≤ n ∧ n ≤ 65535 := by
  simpa [Lit.wf, IntKind.min, IntKind.max, IntKind.bits, IntKind.signed] using h
theorem wf_u8 {n : Int} (h : (Lit.int .u8 n).wf = true) : 0 ≤ n ∧ n ≤ 255 := by
  simpa [Lit.wf, IntKind.min, IntKind.max, IntKind.bits, IntKind.signed] using h
end Go.Proofs.Ytbmmcmdopekccaa
/-
  Plain mathematics of lines and words: a text cut at a byte, put together, and what may stand in a word. No program is named here.
-/
namespace Go.Proofs.Ytbmmcmdopekccaa.Ln
open Go

def step (c : UInt8) (p : List (List UInt8) × List UInt8) (x : UInt8) : List (List UInt8) × List UInt8 := if x = c then (p.1 ++ [p.2], []) else (p.1, p.2 ++ [x])
def st (c : UInt8) (l : List UInt8) : List (List UInt8) × List UInt8 := l.foldl (step c) ([], [])
def cut (c : UInt8) (l : List UInt8) : List (List UInt8) := (st c l).1 ++ [(st c l).2]
def text (L : List (List UInt8)) : List UInt8 := (L.map (· ++ [10])).flatten
def whole (l : List UInt8) : Bool := (st 10 l).2.isEmpty
def split (l : List UInt8) : List (List UInt8) := if whole l then (st 10 l).1 else cut 10 l
def okw (x : UInt8) : Bool := decide (33 ≤ (x.toNat : Int)) && decide ((x.toNat : Int) ≤ 126)
def ws : Bool → List UInt8 → Bool
  | p, [] => !p
  | p, x :: t => if x = 32 then (if p then false else ws true t) else (if okw x then ws false t else false)
def words (l : List UInt8) : List (List UInt8) := if ws true l then cut 32 l else []
def line (L : List (List UInt8)) : List UInt8 := Lib.join L [32]
def okb (x : UInt8) : Bool := decide (x = 32) || okw x

theorem st_snoc (c : UInt8) (l : List UInt8) (x : UInt8) : st c (l ++ [x]) = step c (st c l) x := by simp [st]
/-- What is ahead stays ahead. -/
theorem fold_ahead (c : UInt8) (d : List (List UInt8)) : ∀ (l : List UInt8) (d0 : List (List UInt8)) (r : List UInt8), l.foldl (step c) (d ++ d0, r) = (d ++ (l.foldl (step c) (d0, r)).1, (l.foldl (step c) (d0, r)).2)
  | [], _, _ => rfl
  | x :: t, d0, r => by
    simp only [List.foldl_cons, step]
    by_cases h : x = c
    · rw [if_pos h, if_pos h, List.append_assoc]; exact fold_ahead c d t _ _
    · rw [if_neg h, if_neg h]; exact fold_ahead c d t _ _
theorem st_len (c : UInt8) (l : List UInt8) : (st c l).1.length ≤ l.length := by
  have : ∀ (l : List UInt8) (d : List (List UInt8)) (r : List UInt8), (l.foldl (step c) (d, r)).1.length ≤ d.length + l.length := by
    intro l
    induction l with
    | nil => intro d r; simp
    | cons x t ih =>
      intro d r
      simp only [List.foldl_cons, step, List.length_cons]
      split
      · have := ih (d ++ [r]) []; simp at this; omega
      · have := ih d (r ++ [x]); omega
  simpa [st] using this l [] []
/-- A text is what its pieces give. -/
theorem st_join (c : UInt8) (l : List UInt8) : ((st c l).1.map (· ++ [c])).flatten ++ (st c l).2 = l := by
  have : ∀ (l : List UInt8) (d : List (List UInt8)) (r : List UInt8), ((l.foldl (step c) (d, r)).1.map (· ++ [c])).flatten ++ (l.foldl (step c) (d, r)).2 = (d.map (· ++ [c])).flatten ++ r ++ l := by
    intro l
    induction l with
    | nil => intro d r; simp
    | cons x t ih =>
      intro d r
      simp only [List.foldl_cons, step]
      split
      · rename_i h; rw [ih]; simp [h]
      · rw [ih]; simp
  simpa [st] using this l [] []
theorem join_snoc (c : UInt8) : ∀ (D : List (List UInt8)) (r : List UInt8), Lib.join (D ++ [r]) [c] = (D.map (· ++ [c])).flatten ++ r
  | [], r => by simp [Lib.join, List.intercalate]
  | x :: D, r => by
    have ih := join_snoc c D r
    rw [List.cons_append, Lib.join_cons]
    cases D with
    | nil => simp [Lib.joinTail]
    | cons y D =>
      rw [List.cons_append, Lib.join_cons] at ih
      simp only [List.cons_append, Lib.joinTail, List.map_cons, List.flatten_cons, List.nil_append] at ih ⊢
      rw [ih]
      simp

/-! ### lines -/
theorem text_split (l : List UInt8) : decide (text (split l) = l) = whole l := by
  have hj := st_join 10 l
  rw [split]
  by_cases h : whole l = true
  · rw [if_pos h, h]
    rw [whole, List.isEmpty_iff] at h
    rw [h, List.append_nil] at hj
    exact decide_eq_true hj
  · rw [if_neg h]
    have hf : whole l = false := by simpa using h
    rw [hf, decide_eq_false_iff_not]
    intro e
    have : text (cut 10 l) = l ++ [10] := by
      rw [cut, text, List.map_append, List.flatten_append]
      simp only [List.map_cons, List.map_nil, List.flatten_cons, List.flatten_nil, List.append_nil]
      rw [← List.append_assoc, hj]
    rw [this] at e
    have := congrArg List.length e
    simp at this
/-! ### words -/
theorem fold_mem (c : UInt8) (l : List UInt8) (d : List (List UInt8)) (r x : List UInt8) (h : x ∈ d) : x ∈ (l.foldl (step c) (d, r)).1 := by
  have := fold_ahead c d l [] r
  rw [List.append_nil] at this
  rw [this]
  exact List.mem_append_left _ h
theorem ws_gen : ∀ (l : List UInt8) (d : List (List UInt8)) (r : List UInt8), (∀ x ∈ d, x ≠ []) →
    ws r.isEmpty l = (l.all okb && ((l.foldl (step 32) (d, r)).1 ++ [(l.foldl (step 32) (d, r)).2]).all (fun x => !x.isEmpty))
  | [], d, r, h => by
    have : d.all (fun x => !x.isEmpty) = true := by simpa using h
    simp only [ws, List.foldl_nil, List.all_nil, Bool.true_and, List.all_append, this, List.all_cons, Bool.and_true]
  | x :: t, d, r, h => by
    simp only [ws, List.foldl_cons, step, List.all_cons]
    by_cases hx : x = 32
    · subst hx
      rw [if_pos rfl, if_pos rfl]
      by_cases hr : r = []
      · subst hr
        have hm : ([] : List UInt8) ∈ (t.foldl (step 32) (d ++ [[]], [])).1 := fold_mem _ _ _ _ _ (by simp)
        have : (((t.foldl (step 32) (d ++ [[]], [])).1 ++ [(t.foldl (step 32) (d ++ [[]], [])).2]).all (fun x => !x.isEmpty)) = false := by
          rw [List.all_eq_false]
          exact ⟨[], List.mem_append_left _ hm, by simp⟩
        rw [this]
        simp
      · have h2 := ws_gen t (d ++ [r]) [] (by
          intro y hy
          rcases List.mem_append.1 hy with hy | hy
          · exact h y hy
          · simp at hy; subst hy; exact hr)
        rw [show r.isEmpty = false by simpa using hr]
        simp only [List.isEmpty_nil] at h2
        rw [if_neg (by simp), h2]
        simp [okb]
    · rw [if_neg hx, if_neg hx]
      by_cases ho : okw x = true
      · have h2 := ws_gen t d (r ++ [x]) h
        rw [show (r ++ [x]).isEmpty = false by simp] at h2
        rw [if_pos ho, h2]
        simp [okb, ho]
      · rw [if_neg ho]
        simp [okb, hx, ho]
theorem ws_eq (l : List UInt8) : ws true l = (l.all okb && (cut 32 l).all (fun x => !x.isEmpty)) := ws_gen l [] [] (by simp)
theorem line_words (l : List UInt8) (h : ws true l = true) : line (words l) = l ∧ words l ≠ [] := by
  rw [words, if_pos h, line, cut, join_snoc, st_join]
  exact ⟨rfl, by simp⟩

end Go.Proofs.Ytbmmcmdopekccaa.Ln
/-
  Plain mathematics of layer 3: a kind's word, an end's name, an item's line, and the item of a line. No program is named here.
-/
namespace Go.Proofs.Ytbmmcmdopekccaa.It
open Go

def word (k : Int) : List UInt8 :=
  if k = 1 then [111, 118, 101, 114, 108, 97, 112]
  else if k = 2 then [97, 112, 112, 114, 111, 97, 99, 104]
  else if k = 3 then [115, 101, 116, 116, 108, 101]
  else if k = 4 then [104, 111, 108, 100]
  else if k = 5 then [115, 101, 99, 116, 105, 111, 110]
  else if k = 6 then [112, 111, 105, 110, 116]
  else if k = 7 then [106, 111, 105, 110]
  else if k = 8 then [98, 117, 102, 102, 101, 114]
  else if k = 9 then [115, 105, 103, 110, 97, 108]
  else []
def kind (l : List UInt8) : Int :=
  if l = word 1 then 1 else if l = word 2 then 2 else if l = word 3 then 3 else if l = word 4 then 4 else if l = word 5 then 5
  else if l = word 6 then 6 else if l = word 7 then 7 else if l = word 8 then 8 else if l = word 9 then 9 else 0

theorem kind_word (k : Nat) (h1 : 1 ≤ k) (h2 : k ≤ 9) : kind (word k) = k := by
  obtain rfl | rfl | rfl | rfl | rfl | rfl | rfl | rfl | rfl : k = 1 ∨ k = 2 ∨ k = 3 ∨ k = 4 ∨ k = 5 ∨ k = 6 ∨ k = 7 ∨ k = 8 ∨ k = 9 := by omega
  all_goals decide
theorem kind_hit {l : List UInt8} {k : Nat} (h1 : 1 ≤ k) (h2 : k ≤ 9) (h : word k = l) : kind l = k := by rw [← h]; exact kind_word k h1 h2
theorem kind_none {l : List UInt8} (h : ∀ k : Nat, 1 ≤ k → k ≤ 9 → word k ≠ l) : kind l = 0 := by
  have n1 : l ≠ word 1 := fun e => h 1 (by omega) (by omega) e.symm
  have n2 : l ≠ word 2 := fun e => h 2 (by omega) (by omega) e.symm
  have n3 : l ≠ word 3 := fun e => h 3 (by omega) (by omega) e.symm
  have n4 : l ≠ word 4 := fun e => h 4 (by omega) (by omega) e.symm
  have n5 : l ≠ word 5 := fun e => h 5 (by omega) (by omega) e.symm
  have n6 : l ≠ word 6 := fun e => h 6 (by omega) (by omega) e.symm
  have n7 : l ≠ word 7 := fun e => h 7 (by omega) (by omega) e.symm
  have n8 : l ≠ word 8 := fun e => h 8 (by omega) (by omega) e.symm
  have n9 : l ≠ word 9 := fun e => h 9 (by omega) (by omega) e.symm
  rw [kind, if_neg n1, if_neg n2, if_neg n3, if_neg n4, if_neg n5, if_neg n6, if_neg n7, if_neg n8, if_neg n9]
theorem kind_cases (l : List UInt8) : (kind l = 0 ∧ ∀ k : Nat, 1 ≤ k → k ≤ 9 → word k ≠ l) ∨ (1 ≤ kind l ∧ kind l ≤ 9 ∧ word (kind l) = l) := by
  by_cases h : ∀ k : Nat, 1 ≤ k → k ≤ 9 → word k ≠ l
  · exact Or.inl ⟨kind_none h, h⟩
  · refine Or.inr ?_
    have : ∃ k : Nat, 1 ≤ k ∧ k ≤ 9 ∧ word k = l := by
      apply Classical.byContradiction
      intro hc
      exact h fun k a b e => hc ⟨k, a, b, e⟩
    obtain ⟨k, a, b, e⟩ := this
    rw [kind_hit a b e]
    exact ⟨by omega, by omega, e⟩

def letter (c : UInt8) : Bool := c = 97 || c = 98 || c = 116 || c = 110 || c = 114

structure Tp where
  n : List UInt8
  c : UInt8
deriving DecidableEq
def Tp.zero : Tp := ⟨[], 0⟩
def tipOk (l : List UInt8) : Bool := decide (3 ≤ l.length) && decide (l[l.length - 2]? = some 46) && (l[l.length - 1]?).any letter && Fig.nameB (l.take (l.length - 2))
def tip (l : List UInt8) : Tp := if tipOk l then ⟨l.take (l.length - 2), (l[l.length - 1]?).getD 0⟩ else Tp.zero
def tipT (t : Tp) : List UInt8 := t.n ++ [46] ++ [t.c]

structure Itm where
  k : Int
  name : List UInt8
  n : Int
  e0 : Tp
  e1 : Tp
deriving DecidableEq
def Itm.zero : Itm := ⟨0, [], 0, Tp.zero, Tp.zero⟩

def most (k : Int) : Int := if k = 1 then 1099511627776 else if k = 2 then 1099511627776 else if k = 3 then 1000 else if k = 4 then 1000 else 1099511627776
def least (k : Int) : Int := if k = 1 then 0 else if k = 2 then 0 else if k = 3 then 0 else if k = 4 then 0 else 1
def isNum (k : Int) : Bool := decide (1 ≤ k ∧ k ≤ 4)
def isLen (k : Int) : Bool := decide (5 ≤ k ∧ k ≤ 6)

def args (x : Itm) : List (List UInt8) :=
  if isNum x.k then [Lib.decDigits x.n.toNat]
  else if isLen x.k then [x.name, Lib.decDigits x.n.toNat]
  else if x.k = 7 then [tipT x.e0, tipT x.e1]
  else if x.k = 8 then [tipT x.e0]
  else if x.k = 9 then [x.name, tipT x.e0]
  else []
def print (x : Itm) : List UInt8 := Ln.line (word x.k :: args x)

def parseK (k : Int) (t : List (List UInt8)) : Option Itm :=
  if isNum k then match t with
    | [d] => if Fig.parseB d (most k) then some ⟨k, [], Fig.parseN d (most k), Tp.zero, Tp.zero⟩ else none
    | _ => none
  else if isLen k then match t with
    | [m, d] => if Fig.nameB m && Fig.parseB d 1099511627776 && decide (0 < Fig.parseN d 1099511627776) then some ⟨k, m, Fig.parseN d 1099511627776, Tp.zero, Tp.zero⟩ else none
    | _ => none
  else if k = 7 then match t with
    | [a, b] => if tipOk a && tipOk b then some ⟨k, [], 0, tip a, tip b⟩ else none
    | _ => none
  else if k = 8 then match t with
    | [a] => if tipOk a then some ⟨k, [], 0, tip a, Tp.zero⟩ else none
    | _ => none
  else if k = 9 then match t with
    | [m, a] => if Fig.nameB m && tipOk a then some ⟨k, m, 0, tip a, Tp.zero⟩ else none
    | _ => none
  else none
def parseW : List (List UInt8) → Option Itm
  | [] => none
  | h :: t => parseK (kind h) t
def parse (l : List UInt8) : Option Itm := if Ln.ws true l then parseW (Ln.words l) else none
def right (x : Itm) : Bool := decide (0 ≤ x.n) && decide (parse (print x) = some x)

/-- What may be an item's number is written as it was read. -/
def NumBack : Prop := ∀ (d : List UInt8) (m : Int), Fig.parseB d m = true → 0 ≤ Fig.parseN d m ∧ Lib.decDigits (Fig.parseN d m).toNat = d

theorem tip_back (l : List UInt8) (h : tipOk l = true) : tipT (tip l) = l := by
  rw [tip, if_pos h, tipT]
  simp only [tipOk, Bool.and_eq_true, decide_eq_true_eq] at h
  obtain ⟨⟨⟨h3, h46⟩, _⟩, _⟩ := h
  have e1 : l[l.length - 2]? = some (l[l.length - 2]'(by omega)) := List.getElem?_eq_getElem (by omega)
  have e2 : l[l.length - 1]? = some (l[l.length - 1]'(by omega)) := List.getElem?_eq_getElem (by omega)
  rw [e1] at h46
  rw [e2, Option.getD_some]
  have h46' : l[l.length - 2]'(by omega) = 46 := Option.some.inj h46
  have t1 : l.take (l.length - 1) = l.take (l.length - 2) ++ [l[l.length - 2]'(by omega)] := by
    rw [show l.length - 1 = l.length - 2 + 1 by omega, List.take_succ_eq_append_getElem (by omega)]
  have t2 : l = l.take (l.length - 1) ++ [l[l.length - 1]'(by omega)] := by
    conv => lhs; rw [← List.take_of_length_le (show l.length ≤ l.length - 1 + 1 by omega)]
    rw [List.take_succ_eq_append_getElem (by omega)]
  rw [h46'] at t1
  show List.take (l.length - 2) l ++ [46] ++ [l[l.length - 1]'(by omega)] = l
  rw [← t1, ← t2]

theorem parseK_back (nb : NumBack) (k : Int) (t : List (List UInt8)) (x : Itm) (h : parseK k t = some x) : x.k = k ∧ args x = t ∧ 0 ≤ x.n := by
  unfold parseK at h
  split at h
  · rename_i hk
    split at h
    · split at h
      · rename_i d hp
        cases h
        exact ⟨rfl, by simp [args, hk, (nb d _ hp).2], (nb d _ hp).1⟩
      · cases h
    · cases h
  · rename_i hk1
    split at h
    · rename_i hk
      split at h
      · split at h
        · rename_i m d hp
          cases h
          simp only [Bool.and_eq_true, decide_eq_true_eq] at hp
          exact ⟨rfl, by simp [args, hk1, hk, (nb d _ hp.1.2).2], by show 0 ≤ Fig.parseN _ _; omega⟩
        · cases h
      · cases h
    · rename_i hk2
      split at h
      · rename_i hk
        split at h
        · split at h
          · rename_i a b hp
            cases h
            simp only [Bool.and_eq_true] at hp
            exact ⟨rfl, by simp [args, isNum, isLen, hk, tip_back _ hp.1, tip_back _ hp.2], Int.le_refl 0⟩
          · cases h
        · cases h
      · rename_i hk3
        split at h
        · rename_i hk
          split at h
          · split at h
            · rename_i a hp
              cases h
              exact ⟨rfl, by simp [args, isNum, isLen, hk, tip_back _ hp], Int.le_refl 0⟩
            · cases h
          · cases h
        · rename_i hk4
          split at h
          · rename_i hk
            split at h
            · split at h
              · rename_i m a hp
                cases h
                simp only [Bool.and_eq_true] at hp
                exact ⟨rfl, by simp [args, isNum, isLen, hk, tip_back _ hp.2], Int.le_refl 0⟩
              · cases h
            · cases h
          · cases h
theorem parseK_kind (k : Int) (t : List (List UInt8)) (x : Itm) (h : parseK k t = some x) : k ≠ 0 := by
  rintro rfl
  simp [parseK, isNum, isLen] at h
/-- What is parsed is written just so. -/
theorem print_parse (nb : NumBack) (l : List UInt8) (x : Itm) (h : parse l = some x) : print x = l ∧ 0 ≤ x.n := by
  unfold parse at h
  split at h
  · rename_i hw
    obtain ⟨hl, hne⟩ := Ln.line_words l hw
    cases hW : Ln.words l with
    | nil => exact absurd hW hne
    | cons a t =>
      rw [hW] at h hl
      have h' : parseK (kind a) t = some x := h
      obtain ⟨h1, h2, h3⟩ := parseK_back nb _ _ _ h'
      have hk := parseK_kind _ _ _ h'
      rcases kind_cases a with ⟨h0, _⟩ | ⟨_, _, hwd⟩
      · exact absurd h0 hk
      · exact ⟨by rw [print, h1, h2, hwd]; exact hl, h3⟩
  · cases h
theorem right_parse (nb : NumBack) (l : List UInt8) (x : Itm) (h : parse l = some x) : right x = true := by
  obtain ⟨h1, h2⟩ := print_parse nb l x h
  rw [right, h1, h]
  simp [h2]
end Go.Proofs.Ytbmmcmdopekccaa.It
/-
  Plain mathematics of layer 4: the items of a text's lines, the first line that is of no form, and items as a text. No program is named here.
-/
namespace Go.Proofs.Ytbmmcmdopekccaa.Sh
open Go

def okL (x : List UInt8) : Bool := (It.parse x).isSome
/-- Is line k of an item's form, with a line feed? -/
def good (wh : Bool) (L : List (List UInt8)) (k : Nat) : Bool := (L[k]?).any okL && (wh || decide (k + 1 < L.length))
def bad (wh : Bool) (L : List (List UInt8)) : Option Nat := (List.range L.length).find? fun k => !good wh L k
def items (L : List (List UInt8)) : List It.Itm := L.filterMap It.parse
def parse (l : List UInt8) : List It.Itm × Nat := match bad (Ln.whole l) (Ln.split l) with
  | some k => ([], k + 1)
  | none => (items (Ln.split l), 0)
def print (L : List It.Itm) : List UInt8 := Ln.text (L.map It.print)

theorem bad_at {wh : Bool} {L : List (List UInt8)} {k : Nat} (hk : k < L.length) (h0 : ∀ j < k, good wh L j = true) (h : good wh L k = false) : bad wh L = some k := by
  rw [bad, List.find?_range_eq_some]
  refine ⟨by simp [h], by simpa using hk, fun j hj => by simp [h0 j hj]⟩
theorem bad_no {wh : Bool} {L : List (List UInt8)} (h : ∀ j < L.length, good wh L j = true) : bad wh L = none := by
  rw [bad, List.find?_range_eq_none]
  intro j hj
  simp [h j hj]
theorem bad_none {wh : Bool} {L : List (List UInt8)} (h : bad wh L = none) : ∀ j < L.length, good wh L j = true := by
  rw [bad, List.find?_range_eq_none] at h
  intro j hj
  simpa using h j hj
theorem parse_some {l : List UInt8} {k : Nat} (h : bad (Ln.whole l) (Ln.split l) = some k) : parse l = ([], k + 1) := by rw [parse, h]
theorem parse_none {l : List UInt8} (h : bad (Ln.whole l) (Ln.split l) = none) : parse l = (items (Ln.split l), 0) := by rw [parse, h]

theorem good_iff {wh : Bool} {L : List (List UInt8)} {k : Nat} (hk : k < L.length) : good wh L k = ((It.parse L[k]).isSome && (wh || decide (k + 1 < L.length))) := by
  rw [good, List.getElem?_eq_getElem hk]; rfl
theorem good_whole {L : List (List UInt8)} {wh : Bool} (h : ∀ j < L.length, good wh L j = true) (hne : L ≠ []) : wh = true := by
  have hl : 0 < L.length := List.length_pos_iff.2 hne
  have := h (L.length - 1) (by omega)
  rw [good_iff (by omega), Bool.and_eq_true] at this
  have h2 := this.2
  rw [decide_eq_false (by omega), Bool.or_false] at h2
  exact h2
theorem items_snoc {L : List (List UInt8)} {k : Nat} (hk : k < L.length) {y : It.Itm} (h : It.parse L[k] = some y) : items (L.take (k + 1)) = items (L.take k) ++ [y] := by
  rw [List.take_succ_eq_append_getElem hk, items, List.filterMap_append]
  simp [items, h]
theorem items_le (L : List (List UInt8)) : (items L).length ≤ L.length := List.length_filterMap_le _ _
theorem items_print (nb : It.NumBack) : ∀ {L : List (List UInt8)}, (∀ x ∈ L, (It.parse x).isSome = true) → (items L).map It.print = L
  | [], _ => rfl
  | x :: L, h => by
    obtain ⟨y, hy⟩ := Option.isSome_iff_exists.1 (h x (by simp))
    have ih := items_print nb (L := L) fun z hz => h z (by simp [hz])
    rw [items] at ih
    rw [items, List.filterMap_cons, hy]
    simp only [List.map_cons]
    rw [ih, (It.print_parse nb x y hy).1]
theorem good_all {wh : Bool} {L : List (List UInt8)} (h : ∀ j < L.length, good wh L j = true) : ∀ x ∈ L, (It.parse x).isSome = true := fun x hx => by
  obtain ⟨j, hj, rfl⟩ := List.getElem_of_mem hx
  have := h j hj
  rw [good_iff hj, Bool.and_eq_true] at this
  exact this.1

/-- What is parsed is written just so. -/
theorem print_parse (nb : It.NumBack) (l : List UInt8) (h : (parse l).2 = 0) : print (parse l).1 = l := by
  cases hb : bad (Ln.whole l) (Ln.split l) with
  | some k => rw [parse_some hb] at h; simp at h
  | none =>
    have hg := bad_none hb
    rw [parse_none hb, print, items_print nb (good_all hg)]
    have ht := Ln.text_split l
    suffices hw : Ln.whole l = true by rw [hw, decide_eq_true_iff] at ht; exact ht
    by_cases hne : Ln.split l = []
    · cases hw : Ln.whole l with
      | true => rfl
      | false =>
        rw [Ln.split, hw] at hne
        simp [Ln.cut] at hne
    · exact good_whole hg hne
theorem right_parse {x : It.Itm} (h : It.right x = true) : It.parse (It.print x) = some x := by
  rw [It.right, Bool.and_eq_true, decide_eq_true_iff, decide_eq_true_iff] at h
  exact h.2
theorem mem_flat : ∀ (D : List (List UInt8)) (r x : List UInt8), x ∈ D ++ [r] → x.length ≤ ((D.map (· ++ [10])).flatten ++ r).length
  | [], r, x, h => by simp at h; subst h; simp
  | d :: D, r, x, h => by
    rcases List.mem_cons.1 (by simpa using h : x ∈ d :: (D ++ [r])) with rfl | h2
    · simp <;> omega
    · have := mem_flat D r x h2
      simp only [List.map_cons, List.flatten_cons, List.length_append] at this ⊢; omega
/-- No line is longer than the text, nor are there more of them. -/
theorem split_le (l : List UInt8) : (∀ x ∈ Ln.split l, x.length ≤ l.length) ∧ (Ln.split l).length ≤ l.length + 1 := by
  have hj := Ln.st_join 10 l
  have hl := Ln.st_len 10 l
  have hm := mem_flat (Ln.st 10 l).1 (Ln.st 10 l).2
  rw [hj] at hm
  rw [Ln.split]
  split
  · exact ⟨fun x hx => hm x (by simp [hx]), by omega⟩
  · exact ⟨fun x hx => hm x hx, by simp [Ln.cut]; omega⟩
end Go.Proofs.Ytbmmcmdopekccaa.Sh
/-
  Plain mathematics of layer 5: the station of items, said by names: what a line lacks behind those ahead, whom an end is joined with, the plan in order of the names, and a plan's lines. No program is named here.
-/
namespace Go.Proofs.Ytbmmcmdopekccaa.Pl
open Go It

abbrev Nm := List UInt8
structure En where
  goes : Int
  at_ : Int
  sig : Int
deriving DecidableEq
structure Sec where
  name : Nm
  pt : Bool
  len : Int
  e0 : En
  e1 : En
  e2 : En
deriving DecidableEq
structure Sig where
  name : Nm
  sec : Int
  en : Int
deriving DecidableEq
structure Plan where
  ov : Int
  ap : Int
  se : Int
  ho : Int
  secs : List Sec
  sigs : List Sig
deriving DecidableEq
def Plan.zero : Plan := ⟨0, 0, 0, 0, [], []⟩
def stop : En := ⟨-1, 0, -1⟩

def letter (pt : Bool) (e : Nat) : UInt8 := if e = 0 then (if pt then 116 else 97) else if e = 1 then (if pt then 110 else 98) else if e = 2 then (if pt then 114 else 0) else 0
/-- The end of a letter. -/
def endAt (pt : Bool) (c : UInt8) : Option Nat := if letter pt 0 = c then some 0 else if letter pt 1 = c then some 1 else if pt = true ∧ letter pt 2 = c then some 2 else none
/-- How many ends a section has. -/
def nEnds (pt : Bool) : Nat := if pt then 3 else 2

def isS (x : Itm) : Bool := isLen x.k
def isG (x : Itm) : Bool := decide (x.k = 9)
def isPt (x : Itm) : Bool := decide (x.k = 6)
def secs (M : List Itm) : List Itm := M.filter isS
def sigs (M : List Itm) : List Itm := M.filter isG
def nmS (M : List Itm) : List Nm := (secs M).map (·.name)
def nmG (M : List Itm) : List Nm := (sigs M).map (·.name)
def ptOf (M : List Itm) (nm : Nm) : Bool := ((secs M).find? fun x => decide (x.name = nm)).any isPt
/-- The ends that a line joins, or stops. -/
def ment (x : Itm) : List Tp := if x.k = 7 then [x.e0, x.e1] else if x.k = 8 then [x.e0] else []
def ments (M : List Itm) : List Tp := M.flatMap ment
def link (t : Tp) (x : Itm) : Option (Option Tp) :=
  if x.k = 7 then (if x.e0 = t then some (some x.e1) else if x.e1 = t then some (some x.e0) else none)
  else if x.k = 8 ∧ x.e0 = t then some none else none
/-- Whom an end is joined with; some none: it is stopped; none: neither. -/
def partner (M : List Itm) (t : Tp) : Option (Option Tp) := M.findSome? (link t)
def sigAt (M : List Itm) (t : Tp) : Option Nm := ((sigs M).find? fun x => decide (x.e0 = t)).map (·.name)
def num (M : List Itm) (k : Int) : Int := ((M.find? fun x => decide (x.k = k)).map (·.n)).getD 0

/-- A section's end, with places of sections and signals as they are asked for. -/
def enW (r q : Nm → Int) (M : List Itm) (t : Tp) : En :=
  ⟨match partner M t with | none => -2 | some none => -1 | some (some u) => r u.n,
   match partner M t with | some (some u) => (((endAt (ptOf M u.n) u.c).getD 0 : Nat) : Int) | _ => 0,
   match sigAt M t with | some g => q g | none => -1⟩
def tip (x : Itm) (e : Nat) : Tp := ⟨x.name, letter (isPt x) e⟩
def secW (r q : Nm → Int) (M : List Itm) (x : Itm) : Sec :=
  ⟨x.name, isPt x, x.n, enW r q M (tip x 0), enW r q M (tip x 1), if isPt x then enW r q M (tip x 2) else stop⟩
def sigW (r : Nm → Int) (M : List Itm) (x : Itm) : Sig := ⟨x.name, r x.e0.n, (((endAt (ptOf M x.e0.n) x.e0.c).getD 0 : Nat) : Int)⟩

def ins {α : Type} (key : α → Nm) (a : α) : List α → List α
  | [] => [a]
  | b :: l => if key b < key a then b :: ins key a l else a :: b :: l
def isort {α : Type} (key : α → Nm) : List α → List α
  | [] => []
  | a :: l => ins key a (isort key l)
/-- A name's place in order; as it was told. -/
def rank (N : List Nm) (nm : Nm) : Int := ((N.filter fun a => decide (a < nm)).length : Nat)
def pos (N : List Nm) (nm : Nm) : Int := ((N.findIdx fun a => decide (a = nm)) : Nat)
/-- The station that lines tell. -/
def fin (M : List Itm) : Plan :=
  ⟨num M 1, num M 2, num M 3, num M 4, (isort Itm.name (secs M)).map (secW (rank (nmS M)) (rank (nmG M)) M), (isort Itm.name (sigs M)).map (sigW (rank (nmS M)) M)⟩

/-! ### What may not be -/
def tipErr (M : List Itm) (used : List Tp) (t : Tp) : Int :=
  if t.n ∉ nmS M then 4 else if endAt (ptOf M t.n) t.c = none then 5 else if t ∈ used then 6 else 0
def joinErr (M : List Itm) (x : Itm) : Int := if tipErr M (ments M) x.e0 ≠ 0 then tipErr M (ments M) x.e0 else tipErr M (ments M ++ [x.e0]) x.e1
def sigErr (M : List Itm) (x : Itm) : Int :=
  if x.name ∈ nmG M then 3 else if tipErr M [] x.e0 ≠ 0 then tipErr M [] x.e0 else if (sigAt M x.e0).isSome then 3 else if (sigs M).length = 12 then 9 else 0
/-- What may not come behind the lines ahead; 0: nothing. -/
def lineErr (M : List Itm) (x : Itm) : Int :=
  if right x = false then 2
  else if isNum x.k then (if M.any (fun y => decide (y.k = x.k)) then 3 else 0)
  else if isS x then (if x.name ∈ nmS M then 3 else if (secs M).length = 24 then 9 else 0)
  else if x.k = 7 then joinErr M x
  else if x.k = 8 then tipErr M (ments M) x.e0
  else sigErr M x
/-- What is lacking, when all lines are told. -/
def lackErr (M : List Itm) (x : Itm) : Int :=
  if isS x then (if (List.range (nEnds (isPt x))).any (fun e => decide (partner M (tip x e) = none)) then 7 else 0)
  else if isG x then (if ((partner M x.e0).getD none).isSome then 0 else 8)
  else 0
def firstE (f : Nat → Int) (n : Nat) : Option Nat := (List.range n).find? fun i => decide (f i ≠ 0)
def errAt (L : List Itm) (i : Nat) : Int := lineErr (L.take i) ((L[i]?).getD Itm.zero)
def lackAt (L : List Itm) (i : Nat) : Int := lackErr L ((L[i]?).getD Itm.zero)
/-- The plan of items, or the error and its line. -/
def build (L : List Itm) : Plan × Int × Nat := match firstE (errAt L) L.length with
  | some i => (Plan.zero, errAt L i, i + 1)
  | none => match firstE (lackAt L) L.length with
    | some i => (Plan.zero, lackAt L i, i + 1)
    | none => (fin L, 0, 0)

/-! ### A plan's lines -/
def Sec.get (s : Sec) (e : Nat) : En := if e = 0 then s.e0 else if e = 1 then s.e1 else s.e2
def tipP (p : Plan) (s e : Nat) : Tp := match p.secs[s]? with
  | some x => ⟨x.name, letter x.pt e⟩
  | none => Tp.zero
def numsP (p : Plan) : List Itm := ([(1, p.ov), (2, p.ap), (3, p.se), (4, p.ho)] : List (Int × Int)).filterMap fun a => if a.2 = 0 then none else some ⟨a.1, [], a.2, Tp.zero, Tp.zero⟩
def secI (x : Sec) : Itm := ⟨if x.pt then 6 else 5, x.name, x.len, Tp.zero, Tp.zero⟩
/-- The ends of sections: places and numbers, in order. -/
def endsP (p : Plan) : List (Nat × Nat) := (List.range p.secs.length).flatMap fun s => (List.range (nEnds (((p.secs[s]?).map Sec.pt).getD false))).map fun e => (s, e)
def enP (p : Plan) (a : Nat × Nat) : En := ((p.secs[a.1]?).map fun x => x.get a.2).getD stop
def joinP (p : Plan) (a : Nat × Nat) : Option Itm :=
  if (a.1 : Int) < (enP p a).goes ∨ (a.1 : Int) = (enP p a).goes ∧ (a.2 : Int) < (enP p a).at_ then some ⟨7, [], 0, tipP p a.1 a.2, tipP p (enP p a).goes.toNat (enP p a).at_.toNat⟩ else none
def stopP (p : Plan) (a : Nat × Nat) : Option Itm := if (enP p a).goes < 0 then some ⟨8, [], 0, tipP p a.1 a.2, Tp.zero⟩ else none
def sigI (p : Plan) (g : Sig) : Itm := ⟨9, g.name, 0, tipP p g.sec.toNat g.en.toNat, Tp.zero⟩
def items (p : Plan) : List Itm := numsP p ++ p.secs.map secI ++ (endsP p).filterMap (joinP p) ++ (endsP p).filterMap (stopP p) ++ p.sigs.map (sigI p)
end Go.Proofs.Ytbmmcmdopekccaa.Pl
/-
  Plain mathematics of layer 5: order of names, places in it. No program is named here.
-/
namespace Go.Proofs.Ytbmmcmdopekccaa.Pl
open Go It

theorem nm_irrefl (a : Nm) : ¬ a < a := List.lt_irrefl a
theorem nm_trans {a b c : Nm} (h : a < b) (h2 : b < c) : a < c := List.lt_trans h h2
theorem nm_tri {a b : Nm} (h : ¬ a < b) (h2 : ¬ b < a) : a = b := List.le_antisymm h2 h
theorem nm_asymm {a b : Nm} (h : a < b) : ¬ b < a := fun h2 => nm_irrefl a (nm_trans h h2)
theorem nm_lt_of {a b : Nm} (h : ¬ a < b) (hn : a ≠ b) : b < a := Classical.byContradiction fun h2 => hn (nm_tri h h2)

section
variable {α : Type} (key : α → Nm)
def Rise (l : List α) : Prop := l.Pairwise fun a b => key a < key b
theorem ins_perm (a : α) : ∀ l, (ins key a l).Perm (a :: l)
  | [] => .refl _
  | b :: l => by
    unfold ins
    split
    · exact ((ins_perm a l).cons b).trans (.swap ..)
    · exact .refl _
theorem isort_perm : ∀ l, (isort key l).Perm l
  | [] => .refl _
  | a :: l => (ins_perm key a _).trans ((isort_perm l).cons a)
theorem ins_rise (a : α) : ∀ l, Rise key l → (∀ b ∈ l, key b ≠ key a) → Rise key (ins key a l)
  | [], _, _ => by simp [ins, Rise]
  | b :: l, h, hn => by
    unfold ins
    have h' := List.pairwise_cons.1 h
    split
    · rename_i hb
      refine List.pairwise_cons.2 ⟨fun c hc => ?_, ins_rise a l h'.2 fun c hc => hn c (by simp [hc])⟩
      rcases List.mem_cons.1 ((ins_perm key a l).mem_iff.1 hc) with rfl | hc
      · exact hb
      · exact h'.1 c hc
    · rename_i hb
      have hab := nm_lt_of hb (hn b (by simp))
      refine List.pairwise_cons.2 ⟨fun c hc => ?_, h⟩
      rcases List.mem_cons.1 hc with rfl | hc
      · exact hab
      · exact nm_trans hab (h'.1 c hc)
theorem isort_rise : ∀ l : List α, (l.map key).Nodup → Rise key (isort key l)
  | [], _ => .nil
  | a :: l, h => by
    rw [List.map_cons, List.nodup_cons] at h
    refine ins_rise key a _ (isort_rise l h.2) fun b hb e => h.1 ?_
    rw [← e]
    exact List.mem_map_of_mem ((isort_perm key l).mem_iff.1 hb)
theorem isort_len (l : List α) : (isort key l).length = l.length := (isort_perm key l).length_eq
theorem isort_mem {l : List α} {a : α} : a ∈ isort key l ↔ a ∈ l := (isort_perm key l).mem_iff
end
theorem rank_perm {N M : List Nm} (h : N.Perm M) (nm : Nm) : rank N nm = rank M nm := by
  unfold rank
  rw [(h.filter _).length_eq]
theorem rank_at : ∀ {N : List Nm} (_ : Rise id N) (i : Nat) (nm : Nm), N[i]? = some nm → rank N nm = i
  | [], _, i, nm, hi => by simp at hi
  | a :: N, h, 0, nm, hi => by
    obtain rfl : a = nm := by simpa using hi
    have h' := (List.pairwise_cons.1 h).1
    unfold rank
    rw [List.filter_eq_nil_iff.2]; rfl
    intro b hb
    rcases List.mem_cons.1 hb with rfl | hb
    · simp
    · simpa using nm_asymm (h' b hb)
  | a :: N, h, i + 1, nm, hi => by
    have h' := List.pairwise_cons.1 h
    have hi' : N[i]? = some nm := by simpa using hi
    have ih := rank_at h'.2 i nm hi'
    unfold rank at ih ⊢
    rw [List.filter_cons, if_pos (by simpa using h'.1 nm (List.mem_of_getElem? hi'))]
    simp at ih ⊢
    omega
theorem rank_lt {N : List Nm} {nm : Nm} (h : nm ∈ N) : rank N nm < N.length := by
  unfold rank
  have h1 := List.length_filter_le (fun a => decide (a < nm)) N
  rcases Nat.lt_or_ge (N.filter fun a => decide (a < nm)).length N.length with h2 | h2
  · omega
  · have := (List.length_filter_eq_length_iff.1 (Nat.le_antisymm h1 h2)) nm h
    exact absurd (of_decide_eq_true this) (nm_irrefl nm)
theorem rank_nonneg (N : List Nm) (nm : Nm) : 0 ≤ rank N nm := by unfold rank; omega
theorem rise_map {α : Type} {key : α → Nm} {l : List α} (h : Rise key l) : Rise id (l.map key) := by
  unfold Rise at h ⊢
  rw [List.pairwise_map]; exact h
/-- In a list that rises, who has a name stands at the name's place. -/
theorem at_rank {α : Type} {key : α → Nm} {l : List α} (h : Rise key l) {a : α} (ha : a ∈ l) : l[(rank (l.map key) (key a)).toNat]? = some a := by
  obtain ⟨i, hi, rfl⟩ := List.getElem_of_mem ha
  rw [rank_at (rise_map h) i _ (by rw [List.getElem?_map, List.getElem?_eq_getElem hi]; rfl)]
  simp [hi]
theorem rank_rise {N : List Nm} {a b : Nm} (ha : a ∈ N) (hab : a < b) : rank N a < rank N b := by
  unfold rank
  have h1 : (N.filter fun c => decide (c < a)).length = (N.countP fun c => decide (c < a)) := by rw [List.countP_eq_length_filter]
  have h2 : (N.filter fun c => decide (c < b)).length = (N.countP fun c => decide (c < b)) := by rw [List.countP_eq_length_filter]
  rw [h1, h2]
  suffices h : N.countP (fun c => decide (c < a)) < N.countP (fun c => decide (c < b)) by omega
  induction N with
  | nil => cases ha
  | cons c N ih =>
    have mono : N.countP (fun c => decide (c < a)) ≤ N.countP (fun c => decide (c < b)) := List.countP_mono_left fun x _ hx => by
      simp at hx ⊢; exact nm_trans hx hab
    rw [List.countP_cons, List.countP_cons]
    by_cases hc : c = a
    · subst hc
      rw [if_neg (by simp), if_pos (by simpa using hab)]; omega
    · have ha' : a ∈ N := by rcases List.mem_cons.1 ha with rfl | h; exact absurd rfl hc; exact h
      have ih := ih ha' (by rw [List.countP_eq_length_filter]) (by rw [List.countP_eq_length_filter])
      by_cases h1 : c < a
      · rw [if_pos (by simpa using h1), if_pos (by simpa using nm_trans h1 hab)]; omega
      · rw [if_neg (by simpa using h1)]; omega
theorem rank_inj {N : List Nm} {a b : Nm} (ha : a ∈ N) (hb : b ∈ N) (h : rank N a = rank N b) : a = b := by
  refine nm_tri (fun h1 => ?_) fun h1 => ?_
  · have := rank_rise ha h1; omega
  · have := rank_rise hb h1; omega
end Go.Proofs.Ytbmmcmdopekccaa.Pl
