/-
  Texts of this claim, merged: FigSpec, FigWalks, FigNames, Txt, Shelf, FigPrint, LawKit.
-/
import Derived.Test.YtaheiolbeiofpaaGreatDoorProg
import Derived.Test.YtaheiolbeiofpaaGreatDoorRows
import Derived.BigQuiet
import Derived.Carry
import Derived.Deep.DeepHandedRow
import Derived.Deep.QuietTactic
import Derived.Lib.AppendIntMem
import Derived.Lib.Hide
import Derived.Lib.ItoaLen
import Derived.Lib.LaidTab
import Derived.OpenShut
import Derived.ProofKit
import Derived.Shelf.LaysM
import Derived.Shelf.Small.Bits
import Derived.Shelf.Strconv.Itoa0
import Derived.Shelf.Strconv.Itoa1
import Derived.Shelf.Strconv.Itoa2
import Derived.Shelf.Strconv.Itoa3
import Derived.Shelf.Strings.Builder1
import Derived.Shelf.Strings.Builder2
import Derived.Shelf.Strings.BuilderF
import Derived.Shelf.Strings.BuilderK
import Derived.Shelf.Strings.Count
import Derived.Shelf.Strings.OnBuilder
import Derived.Shelf.Strings.Search1
import Derived.Shelf.Strings.Search2
import Derived.Shelf.Strings.Search3
import Derived.Shelf.Strings.Shaped
import Derived.Shelf.Strings.Split
import Derived.Shelf.Strings.SplitShaped
import Derived.Shelf.Unicode.DecodeSlow
import Derived.Stop.LaidErr
import Derived.WalkKit
import Derived.WalkLawsBesides
import Derived.WalkSpells
/-
  Plain facts on lists of bytes for layer 1: what a digit, a number's text and a name are. No program.
-/
namespace Go.Proofs.YtaheiolbeiofpaaGreatDoor.Fig

def dig (c : UInt8) : Bool := decide (48 ≤ (c.toNat : Int) ∧ (c.toNat : Int) ≤ 57)
def let_ (c : UInt8) : Bool := decide ((97 ≤ (c.toNat : Int) ∧ (c.toNat : Int) ≤ 122) ∨ (65 ≤ (c.toNat : Int) ∧ (c.toNat : Int) ≤ 90))
def nameB (l : List UInt8) : Bool := decide (1 ≤ l.length ∧ l.length ≤ 8) && l.all fun c => dig c || let_ c
/-- the number that the digits tell -/
def val (l : List UInt8) : Int := l.foldl (fun n c => 10 * n + ((c.toNat : Int) - 48)) 0
def pad (l : List UInt8) : Bool := decide (1 < l.length) && l.head? == some 48
def form (l : List UInt8) : Bool := decide (1 ≤ l.length ∧ l.length ≤ 13) && !pad l && l.all dig
def parseB (l : List UInt8) (most : Int) : Bool := form l && decide (val l ≤ most)
def parseN (l : List UInt8) (most : Int) : Int := if parseB l most then val l else 0

theorem val_snoc (l : List UInt8) (c : UInt8) : val (l ++ [c]) = 10 * val l + ((c.toNat : Int) - 48) := by
  simp [val, List.foldl_append]
theorem val_bd (l : List UInt8) (h : l.all dig = true) : 0 ≤ val l ∧ val l < 10 ^ l.length := by
  suffices H : ∀ (r : List UInt8), r.all dig = true → 0 ≤ val r.reverse ∧ val r.reverse < 10 ^ r.length by
    have := H l.reverse (by simpa using h)
    simpa using this
  intro r
  induction r with
  | nil => intro _; simp [val]
  | cons c r ih =>
    intro h
    simp only [List.all_cons, Bool.and_eq_true] at h
    have h1 := ih h.2
    have h2 : 48 ≤ (c.toNat : Int) ∧ (c.toNat : Int) ≤ 57 := by simpa [dig] using h.1
    rw [List.reverse_cons, val_snoc]
    simp only [List.length_cons, Int.pow_succ]
    omega
end Go.Proofs.YtaheiolbeiofpaaGreatDoor.Fig
/-
  The walks of layer 1's functions and of the document's answers to it: each returns what the plain functions of the text before say, and leaves the world as it was.
-/
namespace Go.Proofs.YtaheiolbeiofpaaGreatDoor
open Go.RowKit

theorem retB {a b : Bool} (h : a = b) : Ending.returned (.bool a) = .returned (.bool b) := by rw [h]

set_option maxHeartbeats 400000 in
theorem digit_any (c : UInt8) (w : World) :
    Calls Tryz.prog 137 #[.int .u8 c.toNat] w fun e w' => e = .returned (.bool (Fig.dig c)) ∧ w = w' := by
  go_enter Tryz.func137, Tryz.ntmps137
  go_wp2
  all_goals (go_ret; refine ⟨retB ?_, rfl⟩; simp [Fig.dig]; try omega)
set_option maxHeartbeats 400000 in
theorem rdigit_any (c : UInt8) (w : World) :
    Calls Tryz.prog 90 #[.int .u8 c.toNat] w fun e w' => e = .returned (.bool (Fig.dig c)) ∧ w = w' := by
  go_enter Tryz.func90, Tryz.ntmps90
  go_wp2
  all_goals (go_ret; refine ⟨retB ?_, rfl⟩; simp [Fig.dig]; try omega)
set_option maxHeartbeats 400000 in
theorem letter_any (c : UInt8) (w : World) :
    Calls Tryz.prog 138 #[.int .u8 c.toNat] w fun e w' => e = .returned (.bool (Fig.let_ c)) ∧ w = w' := by
  go_enter Tryz.func138, Tryz.ntmps138
  go_wp2
  all_goals (go_ret; refine ⟨retB ?_, rfl⟩; rw [Bool.eq_iff_iff]; simp [Fig.let_]; try omega)
theorem pad_long (s : ByteArray) (h : 0 < s.size) (h1 : 1 < s.size) : Fig.pad s.data.toList = ((s[0].toNat : Int) == 48) := by
  have e : s.data.toList.head? = some s[0] := by
    rw [List.head?_eq_getElem?]
    exact List.getElem?_eq_getElem (by simpa using h)
  have hl : 1 < s.data.toList.length := by simpa using h1
  rw [Fig.pad, e, Bool.eq_iff_iff]
  simp only [hl, decide_true, Bool.true_and, beq_iff_eq, Option.some.injEq]
  constructor
  · intro h; rw [h]; rfl
  · intro h; exact UInt8.toNat_inj.mp (by simpa using Int.ofNat.inj h)
theorem pad_yes (s : ByteArray) (h : Fig.pad s.data.toList = true) : 1 < s.size ∧ ∀ h0 : 0 < s.size, ((s[0]'h0).toNat : Int) = 48 := by
  by_cases h1 : 1 < s.size
  · refine ⟨h1, fun h0 => ?_⟩
    rw [pad_long s h0 h1] at h
    exact beq_iff_eq.mp h
  · rw [Fig.pad, show decide (1 < s.data.toList.length) = false by simpa using h1] at h
    cases h
theorem pad_short (s : ByteArray) (h1 : ¬ 1 < s.size) : Fig.pad s.data.toList = false := by
  have hl : decide (1 < s.data.toList.length) = false := by simpa using h1
  rw [Fig.pad, hl]; rfl
set_option maxHeartbeats 400000 in
theorem padded_any (s : ByteArray) (w : World) (hs : s.size ≤ maxLen) :
    Calls Tryz.prog 136 #[.string s] w fun e w' => e = .returned (.bool (Fig.pad s.data.toList)) ∧ w = w' := by
  unfold maxLen at hs
  by_cases h1 : 1 < s.size
  · go_enter Tryz.func136, Tryz.ntmps136
    go_wp2
    go_ret
    exact ⟨retB (pad_long s (by omega) h1).symm, rfl⟩
  · go_enter Tryz.func136, Tryz.ntmps136
    go_wp2
    go_ret
    exact ⟨retB (pad_short s h1).symm, rfl⟩

theorem take_snoc (s : ByteArray) (k : Nat) (h : k < s.size) : s.data.toList.take (k + 1) = s.data.toList.take k ++ [s[k]] := by
  rw [List.take_succ_eq_append_getElem (by simpa using h)]; rfl
theorem retNB {a b : Int} {p q : Bool} (h : a = b) (k : p = q) : Ending.returned (.tuple #[.int .i64 a, .bool p]) = .returned (.tuple #[.int .i64 b, .bool q]) := by rw [h, k]
theorem parse_no (l : List UInt8) (most : Int) (h : Fig.form l = false) : Fig.parseN l most = 0 ∧ Fig.parseB l most = false := by
  simp [Fig.parseN, Fig.parseB, h]
theorem all_false {p : UInt8 → Bool} {l : List UInt8} {k : Nat} (h : k < l.length) (hp : p l[k] = false) : l.all p = false := by
  rw [List.all_eq_false]; exact ⟨_, List.getElem_mem h, by simp [hp]⟩

theorem form_mid (s : ByteArray) (h1 : ¬ s.size = 0) (h2 : ¬ 13 < s.size) (h3 : Fig.pad s.data.toList = false) : Fig.form s.data.toList = s.data.toList.all Fig.dig := by
  have : decide (1 ≤ s.data.toList.length ∧ s.data.toList.length ≤ 13) = true := by simp; omega
  rw [Fig.form, this, h3]; simp
theorem form_ends (s : ByteArray) (h0 : s.size = 0 ∨ 13 < s.size) : Fig.form s.data.toList = false := by
  have : decide (1 ≤ s.data.toList.length ∧ s.data.toList.length ≤ 13) = false := by
    have : s.data.toList.length = s.size := by simp
    rw [decide_eq_false_iff_not]; omega
  rw [Fig.form, this]; rfl
theorem beq0_t {n : Nat} (h : n = 0) : ((n : Int) == 0) = true := by subst h; rfl
theorem beq0_f {n : Nat} (h : n ≠ 0) : ((n : Int) == 0) = false := by
  rw [beq_eq_false_iff_ne]; omega
theorem dec_f {p : Prop} [Decidable p] (h : ¬ p) : decide p = false := decide_eq_false h
theorem dec_t {p : Prop} [Decidable p] (h : p) : decide p = true := decide_eq_true h
theorem dig_bd {c : UInt8} (h : Fig.dig c = true) : 48 ≤ (c.toNat : Int) ∧ (c.toNat : Int) ≤ 57 := by simpa [Fig.dig] using h
theorem all_snoc {p : UInt8 → Bool} {s : ByteArray} {k : Nat} (hk : k < s.size) (h : (s.data.toList.take k).all p = true) (hc : p s[k] = true) : (s.data.toList.take (k + 1)).all p = true := by
  rw [take_snoc s k hk, List.all_append, h]; simpa using hc
theorem all_stop {p : UInt8 → Bool} {s : ByteArray} {k : Nat} (hk : k < s.size) (hc : p s[k] = false) : s.data.toList.all p = false :=
  all_false (k := k) (by simpa using hk) hc
theorem val_step (s : ByteArray) (k : Nat) (hk : k < s.size) : Fig.val (s.data.toList.take (k + 1)) = 10 * Fig.val (s.data.toList.take k) + ((s[k].toNat : Int) - 48) := by
  rw [take_snoc s k hk, Fig.val_snoc]
theorem pow_small {k : Nat} (h : k ≤ 13) : (10 : Int) ^ k ≤ 10000000000000 := by
  have : (10 : Nat) ^ k ≤ 10 ^ 13 := Nat.pow_le_pow_right (by omega) h
  have h2 : ((10 ^ k : Nat) : Int) ≤ ((10 ^ 13 : Nat) : Int) := Int.ofNat_le.mpr this
  simpa using h2
theorem val_small (s : ByteArray) (k : Nat) (h : k ≤ 13) (hd : (s.data.toList.take k).all Fig.dig = true) : 0 ≤ Fig.val (s.data.toList.take k) ∧ Fig.val (s.data.toList.take k) < 10000000000000 := by
  have hv := Fig.val_bd _ hd
  have hl : (s.data.toList.take k).length ≤ 13 := by simp; omega
  have := pow_small hl
  omega
theorem parse_val (s : ByteArray) (most : Int) (h : Fig.form s.data.toList = true) : Fig.parseN s.data.toList most = (if Fig.val s.data.toList ≤ most then Fig.val s.data.toList else 0) ∧ Fig.parseB s.data.toList most = decide (Fig.val s.data.toList ≤ most) := by
  simp [Fig.parseN, Fig.parseB, h]
theorem parse_in {n v most : Int} {b : Bool} (h : n = (if v ≤ most then v else 0) ∧ b = decide (v ≤ most)) (hm : v ≤ most) : n = v ∧ b = true := by
  rw [h.1, h.2, if_pos hm]; exact ⟨rfl, dec_t hm⟩
theorem parse_out {n v most : Int} {b : Bool} (h : n = (if v ≤ most then v else 0) ∧ b = decide (v ≤ most)) (hm : ¬ v ≤ most) : n = 0 ∧ b = false := by
  rw [h.1, h.2, if_neg hm]; exact ⟨rfl, dec_f hm⟩
set_option maxHeartbeats 400000 in
theorem parse_any (s : ByteArray) (most : Int) (w : World) (hs : s.size ≤ maxLen) :
    Calls Tryz.prog 121 #[.string s, .int .i64 most] w fun e w' => e = .returned (.tuple #[.int .i64 (Fig.parseN s.data.toList most), .bool (Fig.parseB s.data.toList most)]) ∧ w = w' := by
  unfold maxLen at hs
  by_cases h0 : s.size = 0 ∨ 13 < s.size
  · have H := Lib.hid (parse_no s.data.toList most (form_ends s h0))
    have h0' : ((s.size : Int) == 0) = true ∨ (((s.size : Int) == 0) = false ∧ decide (13 < (s.size : Int)) = true) := by
      by_cases h : s.size = 0
      · exact Or.inl (beq0_t h)
      · exact Or.inr ⟨beq0_f h, dec_t (by omega)⟩
    clear h0
    rcases h0' with h0' | ⟨h0', h1⟩
    all_goals
      go_enter Tryz.func121, Tryz.ntmps121
      go_wp2_with fail
      go_ret2
      exact ⟨retNB H.out.1.symm H.out.2.symm, rfl⟩
  · have h0a : ((s.size : Int) == 0) = false := beq0_f (by omega)
    have h0b : decide (13 < (s.size : Int)) = false := dec_f (by omega)
    have h0c : s.size ≤ 13 := by omega
    by_cases hp : Fig.pad s.data.toList = true
    · have H := Lib.hid (parse_no s.data.toList most (by rw [Fig.form, hp]; simp))
      clear h0 h0c
      go_enter Tryz.func121, Tryz.ntmps121
      go_wp2_with (go_at_call 136; refine (padded_any _ _ (by assumption)).mono ?_; rintro e w' ⟨rfl, rfl⟩)
      go_ret2
      exact ⟨retNB H.out.1.symm H.out.2.symm, rfl⟩
    · have hp' : Fig.pad s.data.toList = false := by simpa using hp
      have H := Lib.hid (form_mid s (by omega) (by omega) hp')
      clear h0 hp
      go_enter Tryz.func121, Tryz.ntmps121
      go_wp2_with (go_at_call 136; refine (padded_any _ _ (by assumption)).mono ?_; rintro e w' ⟨rfl, rfl⟩)
      go_loop [6, 22] (fun n i => ∃ k : Nat, k ≤ s.size ∧ i = .int .i64 k ∧ n = .int .i64 (Fig.val (s.data.toList.take k)) ∧ (s.data.toList.take k).all Fig.dig = true) (fun _ i => s.size - (intOf i).toNat)
      case atStart => exact ⟨0, Nat.zero_le _, rfl, rfl, rfl⟩
      case round =>
        obtain ⟨k, hk, rfl, rfl, hd⟩ := hrel
        have hv := val_small s k (by omega) hd
        by_cases hlt : k < s.size
        · by_cases hc : Fig.dig s[k] = true
          · have hb := dig_bd hc
            have HS := Lib.hid (val_step s k hlt)
            have HD := Lib.hid (all_snoc hlt hd hc)
            clear hd
            go_wp2_with (go_at_call 137; refine (digit_any _ _).mono ?_; rintro e w' ⟨rfl, rfl⟩)
            go_round
            case rel => exact ⟨k + 1, by omega, by go_num, by rw [HS.out], HD.out⟩
            case measure => simp [intOf]; omega
          · have hc' : Fig.dig s[k] = false := by simpa using hc
            have HF := Lib.hid (parse_no s.data.toList most (by rw [H.out]; exact all_stop hlt hc'))
            clear hd hc
            go_wp2_with (go_at_call 137; refine (digit_any _ _).mono ?_; rintro e w' ⟨rfl, rfl⟩)
            go_ret2
            exact ⟨retNB HF.out.1.symm HF.out.2.symm, rfl⟩
        · have hks : k = s.size := by omega
          subst hks
          have ht : s.data.toList.take s.size = s.data.toList := List.take_of_length_le (by simp)
          rw [ht] at hd hv
          rw [ht]
          have hn := parse_val s most (by rw [H.out]; exact hd)
          have HN := Lib.hid hn
          clear hd ht hn
          by_cases hm : Fig.val s.data.toList ≤ most
          · have HM := Lib.hid (parse_in HN.out hm)
            have hm' : decide (most < Fig.val s.data.toList) = false := dec_f (by omega)
            clear hm
            go_wp2_with fail
            go_ret2
            exact ⟨retNB HM.out.1.symm HM.out.2.symm, rfl⟩
          · have HM := Lib.hid (parse_out HN.out hm)
            have hm' : decide (most < Fig.val s.data.toList) = true := dec_t (by omega)
            clear hm
            go_wp2_with fail
            go_ret2
            exact ⟨retNB HM.out.1.symm HM.out.2.symm, rfl⟩
set_option maxHeartbeats 400000 in
theorem rparse_any (s : ByteArray) (most : Int) (w : World) (hs : s.size ≤ maxLen) :
    Calls Tryz.prog 70 #[.string s, .int .i64 most] w fun e w' => e = .returned (.tuple #[.int .i64 (Fig.parseN s.data.toList most), .bool (Fig.parseB s.data.toList most)]) ∧ w = w' := by
  unfold maxLen at hs
  by_cases h0 : s.size = 0 ∨ 13 < s.size
  · have H := Lib.hid (parse_no s.data.toList most (form_ends s h0))
    have h0' : ((s.size : Int) == 0) = true ∨ (((s.size : Int) == 0) = false ∧ decide (13 < (s.size : Int)) = true) := by
      by_cases h : s.size = 0
      · exact Or.inl (beq0_t h)
      · exact Or.inr ⟨beq0_f h, dec_t (by omega)⟩
    clear h0
    rcases h0' with h0' | ⟨h0', h1⟩
    all_goals
      go_enter Tryz.func70, Tryz.ntmps70
      go_wp2_with fail
      go_ret2
      exact ⟨retNB H.out.1.symm H.out.2.symm, rfl⟩
  · have h0a : ((s.size : Int) == 0) = false := beq0_f (by omega)
    have h0b : decide (13 < (s.size : Int)) = false := dec_f (by omega)
    have h0c : s.size ≤ 13 := by omega
    by_cases hp : Fig.pad s.data.toList = true
    · have H := Lib.hid (parse_no s.data.toList most (by rw [Fig.form, hp]; simp))
      have hz : 0 < s.size := by omega
      have h1a : decide (1 < (s.size : Int)) = true := dec_t (by have := (pad_yes s hp).1; omega)
      have h1c : ((s[0].toNat : Int) == 48) = true := by rw [(pad_yes s hp).2 hz]; rfl
      clear h0 h0c
      go_enter Tryz.func70, Tryz.ntmps70
      go_wp2_with fail
      go_ret2
      exact ⟨retNB H.out.1.symm H.out.2.symm, rfl⟩
    · have hp' : Fig.pad s.data.toList = false := by simpa using hp
      have H := Lib.hid (form_mid s (by omega) (by omega) hp')
      have hz : 0 < s.size := by omega
      have h1 : (decide (1 < (s.size : Int)) = true ∧ ((s[0].toNat : Int) == 48) = false) ∨ decide (1 < (s.size : Int)) = false := by
        by_cases h1 : 1 < s.size
        · exact Or.inl ⟨dec_t (by omega), by rw [← pad_long s hz h1]; exact hp'⟩
        · exact Or.inr (dec_f (by omega))
      clear h0 hp
      rcases h1 with ⟨h1a, h1c⟩ | h1a
      all_goals
        go_enter Tryz.func70, Tryz.ntmps70
        go_wp2_with fail
        go_loop [6, 7] (fun n i => ∃ k : Nat, k ≤ s.size ∧ i = .int .i64 k ∧ n = .int .i64 (Fig.val (s.data.toList.take k)) ∧ (s.data.toList.take k).all Fig.dig = true) (fun _ i => s.size - (intOf i).toNat)
        case atStart => exact ⟨0, Nat.zero_le _, rfl, rfl, rfl⟩
        case round =>
          obtain ⟨k, hk, rfl, rfl, hd⟩ := hrel
          have hv := val_small s k (by omega) hd
          by_cases hlt : k < s.size
          · by_cases hc : Fig.dig s[k] = true
            · have hb := dig_bd hc
              have HS := Lib.hid (val_step s k hlt)
              have HD := Lib.hid (all_snoc hlt hd hc)
              clear hd
              go_wp2_with (go_at_call 90; refine (rdigit_any _ _).mono ?_; rintro e w' ⟨rfl, rfl⟩)
              go_round
              case rel => exact ⟨k + 1, by omega, by go_num, by rw [HS.out], HD.out⟩
              case measure => simp [intOf]; omega
            · have hc' : Fig.dig s[k] = false := by simpa using hc
              have HF := Lib.hid (parse_no s.data.toList most (by rw [H.out]; exact all_stop hlt hc'))
              clear hd hc
              go_wp2_with (go_at_call 90; refine (rdigit_any _ _).mono ?_; rintro e w' ⟨rfl, rfl⟩)
              go_ret2
              exact ⟨retNB HF.out.1.symm HF.out.2.symm, rfl⟩
          · have hks : k = s.size := by omega
            subst hks
            have ht : s.data.toList.take s.size = s.data.toList := List.take_of_length_le (by simp)
            rw [ht] at hd hv
            rw [ht]
            have hn := parse_val s most (by rw [H.out]; exact hd)
            have HN := Lib.hid hn
            clear hd ht hn
            by_cases hm : Fig.val s.data.toList ≤ most
            · have HM := Lib.hid (parse_in HN.out hm)
              have hm' : decide (most < Fig.val s.data.toList) = false := dec_f (by omega)
              clear hm
              go_wp2_with fail
              go_ret2
              exact ⟨retNB HM.out.1.symm HM.out.2.symm, rfl⟩
            · have HM := Lib.hid (parse_out HN.out hm)
              have hm' : decide (most < Fig.val s.data.toList) = true := dec_t (by omega)
              clear hm
              go_wp2_with fail
              go_ret2
              exact ⟨retNB HM.out.1.symm HM.out.2.symm, rfl⟩
end Go.Proofs.YtaheiolbeiofpaaGreatDoor
/-
  The walks of layer 1's Name and of the document's answer to it.
-/
namespace Go.Proofs.YtaheiolbeiofpaaGreatDoor
open Go.RowKit

abbrev Fig.al (c : UInt8) : Bool := Fig.dig c || Fig.let_ c
theorem name_mid (s : ByteArray) (h0 : ¬ s.size = 0) (h1 : ¬ 8 < s.size) : Fig.nameB s.data.toList = s.data.toList.all fun c => Fig.dig c || Fig.let_ c := by
  have : decide (1 ≤ s.data.toList.length ∧ s.data.toList.length ≤ 8) = true := dec_t (by simp; omega)
  rw [Fig.nameB, this]; simp
theorem name_ends (s : ByteArray) (h0 : s.size = 0 ∨ 8 < s.size) : Fig.nameB s.data.toList = false := by
  have : decide (1 ≤ s.data.toList.length ∧ s.data.toList.length ≤ 8) = false := dec_f (by simp; omega)
  rw [Fig.nameB, this]; rfl
theorem name_bad (s : ByteArray) (k : Nat) (hk : k < s.size) (h : Fig.dig s[k] = false) (h2 : Fig.let_ s[k] = false) : Fig.nameB s.data.toList = false := by
  rw [Fig.nameB, all_stop (p := fun c => Fig.dig c || Fig.let_ c) hk (by rw [h, h2]; rfl)]; simp
theorem name_good (s : ByteArray) (h : s.data.toList.all (fun c => Fig.dig c || Fig.let_ c) = true) : Fig.nameB s.data.toList = decide (1 ≤ s.size ∧ s.size ≤ 8) := by
  rw [Fig.nameB, h]; simp
set_option maxHeartbeats 400000 in
theorem name_any (s : ByteArray) (w : World) (hs : s.size ≤ maxLen) :
    Calls Tryz.prog 122 #[.string s] w fun e w' => e = .returned (.bool (Fig.nameB s.data.toList)) ∧ w = w' := by
  unfold maxLen at hs
  by_cases h0 : s.size = 0 ∨ 8 < s.size
  · have H := Lib.hid (name_ends s h0)
    have h0' : ((s.size : Int) == 0) = true ∨ (((s.size : Int) == 0) = false ∧ decide (8 < (s.size : Int)) = true) := by
      by_cases h : s.size = 0
      · exact Or.inl (beq0_t h)
      · exact Or.inr ⟨beq0_f h, dec_t (by omega)⟩
    clear h0
    rcases h0' with h0' | ⟨h0', h1⟩
    all_goals
      go_enter Tryz.func122, Tryz.ntmps122
      go_wp2_with fail
      go_ret
      exact ⟨retB H.out.symm, rfl⟩
  · have h0a : ((s.size : Int) == 0) = false := beq0_f (by omega)
    have h0b : decide (8 < (s.size : Int)) = false := dec_f (by omega)
    have h0c : s.size ≤ 8 := by omega
    have H := Lib.hid (name_mid s (by omega) (by omega))
    clear h0
    go_enter Tryz.func122, Tryz.ntmps122
    go_wp2_with fail
    go_loop [14] (fun i => ∃ k : Nat, k ≤ s.size ∧ i = .int .i64 k ∧ (s.data.toList.take k).all (fun c => Fig.dig c || Fig.let_ c) = true) (fun i => s.size - (intOf i).toNat)
    case atStart => exact ⟨0, Nat.zero_le _, rfl, rfl⟩
    case round =>
      obtain ⟨k, hk, rfl, hd⟩ := hrel
      by_cases hlt : k < s.size
      · by_cases hc : Fig.dig s[k] = true
        · have HD := Lib.hid (all_snoc hlt hd (by rw [hc]; rfl))
          clear hd
          go_wp2_with (first | (go_at_call 137; refine (digit_any _ _).mono ?_; rintro e w' ⟨rfl, rfl⟩) | (go_at_call 138; refine (letter_any _ _).mono ?_; rintro e w' ⟨rfl, rfl⟩))
          go_round
          case rel => exact ⟨k + 1, by omega, by go_num, HD.out⟩
          case measure => simp [intOf]; omega
        · have hc' : Fig.dig s[k] = false := by simpa using hc
          by_cases hl : Fig.let_ s[k] = true
          · have HD := Lib.hid (all_snoc hlt hd (by rw [hc', hl]; rfl))
            clear hd hc
            go_wp2_with (first | (go_at_call 137; refine (digit_any _ _).mono ?_; rintro e w' ⟨rfl, rfl⟩) | (go_at_call 138; refine (letter_any _ _).mono ?_; rintro e w' ⟨rfl, rfl⟩))
            go_round
            case rel => exact ⟨k + 1, by omega, by go_num, HD.out⟩
            case measure => simp [intOf]; omega
          · have hl' : Fig.let_ s[k] = false := by simpa using hl
            have HF := Lib.hid (name_bad s k hlt hc' hl')
            clear hd hc hl
            go_wp2_with (first | (go_at_call 137; refine (digit_any _ _).mono ?_; rintro e w' ⟨rfl, rfl⟩) | (go_at_call 138; refine (letter_any _ _).mono ?_; rintro e w' ⟨rfl, rfl⟩))
            go_ret
            exact ⟨retB HF.out.symm, rfl⟩
      · have hks : k = s.size := by omega
        subst hks
        have ht : s.data.toList.take s.size = s.data.toList := List.take_of_length_le (by simp)
        rw [ht] at hd
        have HF := Lib.hid (H.out.trans hd)
        clear hd ht
        go_wp2_with fail
        go_ret
        exact ⟨retB HF.out.symm, rfl⟩

theorem let_yes {c : UInt8} (h : Fig.let_ c = true) : (97 ≤ (c.toNat : Int) ∧ (c.toNat : Int) ≤ 122) ∨ (65 ≤ (c.toNat : Int) ∧ (c.toNat : Int) ≤ 90) := by
  exact of_decide_eq_true h
theorem let_no {c : UInt8} (h : Fig.let_ c = false) : ¬ ((97 ≤ (c.toNat : Int) ∧ (c.toNat : Int) ≤ 122) ∨ (65 ≤ (c.toNat : Int) ∧ (c.toNat : Int) ≤ 90)) := by
  exact of_decide_eq_false h
set_option maxHeartbeats 1000000 in
theorem rname_any (s : ByteArray) (w : World) (hs : s.size ≤ maxLen) :
    Calls Tryz.prog 68 #[.string s] w fun e w' => e = .returned (.bool (Fig.nameB s.data.toList)) ∧ w = w' := by
  unfold maxLen at hs
  go_enter Tryz.func68, Tryz.ntmps68
  go_wp2_with fail
  go_loop [3] (fun i => ∃ k : Nat, k ≤ s.size ∧ i = .int .i64 k ∧ (s.data.toList.take k).all (fun c => Fig.dig c || Fig.let_ c) = true) (fun i => s.size - (intOf i).toNat)
  case atStart => exact ⟨0, Nat.zero_le _, rfl, rfl⟩
  case round =>
    obtain ⟨k, hk, rfl, hd⟩ := hrel
    by_cases hlt : k < s.size
    · by_cases hc : Fig.dig s[k] = true
      · have HD := Lib.hid (all_snoc hlt hd (by rw [hc]; rfl))
        clear hd
        go_wp2_with (go_at_call 90; refine (rdigit_any _ _).mono ?_; rintro e w' ⟨rfl, rfl⟩)
        go_round
        case rel => exact ⟨k + 1, by omega, by go_num, HD.out⟩
        case measure => simp [intOf]; omega
      · have hc' : Fig.dig s[k] = false := by simpa using hc
        by_cases hl : Fig.let_ s[k] = true
        · have HD := Lib.hid (all_snoc hlt hd (by rw [hc', hl]; rfl))
          have hy : (decide ((s[k].toNat : Int) < 65) = false ∧ decide (90 < (s[k].toNat : Int)) = true ∧ decide ((s[k].toNat : Int) < 97) = false ∧ decide (122 < (s[k].toNat : Int)) = false) ∨ (decide ((s[k].toNat : Int) < 65) = false ∧ decide (90 < (s[k].toNat : Int)) = false) := by
            rcases let_yes hl with h | h
            · exact Or.inl ⟨dec_f (by omega), dec_t (by omega), dec_f (by omega), dec_f (by omega)⟩
            · exact Or.inr ⟨dec_f (by omega), dec_f (by omega)⟩
          clear hd hc hl
          rcases hy with ⟨hy1, hy2, hy3, hy4⟩ | ⟨hy1, hy2⟩
          all_goals
            go_wp2_with (go_at_call 90; refine (rdigit_any _ _).mono ?_; rintro e w' ⟨rfl, rfl⟩)
            go_round
            case rel => exact ⟨k + 1, by omega, by go_num, HD.out⟩
            case measure => simp [intOf]; omega
        · have hl' : Fig.let_ s[k] = false := by simpa using hl
          have HF := Lib.hid (name_bad s k hlt hc' hl')
          have hy : (decide ((s[k].toNat : Int) < 65) = true ∧ decide ((s[k].toNat : Int) < 97) = true) ∨ (decide ((s[k].toNat : Int) < 65) = false ∧ decide (90 < (s[k].toNat : Int)) = true ∧ decide ((s[k].toNat : Int) < 97) = true) ∨ (decide ((s[k].toNat : Int) < 65) = false ∧ decide (90 < (s[k].toNat : Int)) = true ∧ decide ((s[k].toNat : Int) < 97) = false ∧ decide (122 < (s[k].toNat : Int)) = true) := by
            have hn := let_no hl'
            by_cases h65 : (s[k].toNat : Int) < 65
            · exact Or.inl ⟨dec_t h65, dec_t (by omega)⟩
            · by_cases h97 : (s[k].toNat : Int) < 97
              · exact Or.inr (Or.inl ⟨dec_f h65, dec_t (by omega), dec_t h97⟩)
              · exact Or.inr (Or.inr ⟨dec_f h65, dec_t (by omega), dec_f h97, dec_t (by omega)⟩)
          clear hd hc hl
          rcases hy with ⟨hy1, hy2⟩ | ⟨hy1, hy2, hy3⟩ | ⟨hy1, hy2, hy3, hy4⟩
          all_goals
            go_wp2_with (go_at_call 90; refine (rdigit_any _ _).mono ?_; rintro e w' ⟨rfl, rfl⟩)
            go_ret
            exact ⟨retB HF.out.symm, rfl⟩
    · have hks : k = s.size := by omega
      subst hks
      have ht : s.data.toList.take s.size = s.data.toList := List.take_of_length_le (by simp)
      rw [ht] at hd
      have HF := Lib.hid (name_good s hd)
      have hy : (decide (1 ≤ (s.size : Int)) = true ∧ decide (1 ≤ s.size ∧ s.size ≤ 8) = decide ((s.size : Int) ≤ 8)) ∨ (decide (1 ≤ (s.size : Int)) = false ∧ decide (1 ≤ s.size ∧ s.size ≤ 8) = false) := by
        by_cases h1 : 1 ≤ s.size
        · refine Or.inl ⟨dec_t (by omega), ?_⟩
          rw [Bool.eq_iff_iff]; simp; omega
        · exact Or.inr ⟨dec_f (by omega), dec_f (by omega)⟩
      clear hd ht
      rcases hy with ⟨hy1, hy2⟩ | ⟨hy1, hy2⟩
      all_goals
        have HG := Lib.hid (HF.out.trans hy2)
        clear hy2
        go_wp2_with fail
        go_ret
        exact ⟨retB HG.out.symm, rfl⟩
end Go.Proofs.YtaheiolbeiofpaaGreatDoor
/-
  A list of bytes as a text's value (no function of Tryz is named here).
-/
namespace Go.Proofs.YtaheiolbeiofpaaGreatDoor
open Go.RowKit

def txt (x : List UInt8) : ByteArray := ⟨x.toArray⟩
def str (x : List UInt8) : Value := .string (txt x)
theorem txt_toList (x : List UInt8) : (txt x).data.toList = x := by simp [txt]
theorem txt_size (x : List UInt8) : (txt x).size = x.length := by simp [txt, ByteArray.size]
theorem txt_of (s : ByteArray) : txt s.data.toList = s := by simp [txt]
theorem str_of (s : ByteArray) : str s.data.toList = .string s := by rw [str, txt_of]
theorem txt_inj {x y : List UInt8} (h : txt x = txt y) : x = y := by rw [← txt_toList x, h, txt_toList]
theorem toList_txt (x : List UInt8) : (txt x).toList = x := by rw [ByteArray.toList_eq, txt_toList]
end Go.Proofs.YtaheiolbeiofpaaGreatDoor
/-
  The library contracts that this seat uses, laid at its translation in plain words by the kit's two scripts.
-/
namespace Go.Proofs
open Go.Shelf
def Tryz.lays156_ren : Go.Shelf.Ren := ⟨fun | 156 => 140 | 165 => 148 | 166 => 149 | 169 => 150 | 240 => 156 | 241 => 157 | 276 => 167 | 277 => 168 | n => n, fun | 31 => 79 | 9 => 9 | 3 => 3 | 4 => 4 | 0 => 0 | 20 => 20 | 72 => 164 | 76 => 168 | 70 => 162 | 37 => 125 | 75 => 167 | 127 => 175 | 164 => 180 | 5 => 5 | 80 => 170 | n => n, fun | n => n⟩
theorem Tryz.lays156 : Go.Proofs.Lays.n156 Tryz.prog Tryz.lays156_ren := {
  mixed := by kernel_rfl
  f156 := Tryz.func140.trans (congrArg some (by kernel_rfl))
  f165 := Tryz.func148.trans (congrArg some (by kernel_rfl))
  f166 := Tryz.func149.trans (congrArg some (by kernel_rfl))
  f169 := Tryz.func150.trans (congrArg some (by kernel_rfl))
  f240 := Tryz.func156.trans (congrArg some (by kernel_rfl))
  f241 := Tryz.func157.trans (congrArg some (by kernel_rfl))
  f276 := Tryz.func167.trans (congrArg some (by kernel_rfl))
  f277 := Tryz.func168.trans (congrArg some (by kernel_rfl))
  t0 := Tryz.underlying0
  a0 := Tryz.isAgg0
  z0 := Tryz.sizeOf0
  v0 := Tryz.zeroValue0
  t3 := Tryz.underlying3
  a3 := Tryz.isAgg3
  z3 := Tryz.sizeOf3
  v3 := Tryz.zeroValue3
  t4 := Tryz.underlying4
  a4 := Tryz.isAgg4
  z4 := Tryz.sizeOf4
  v4 := Tryz.zeroValue4
  t9 := Tryz.underlying9
  a9 := Tryz.isAgg9
  z9 := Tryz.sizeOf9
  v9 := Tryz.zeroValue9
  t20 := Tryz.underlying20
  a20 := Tryz.isAgg20
  z20 := Tryz.sizeOf20
  v20 := Tryz.zeroValue20
  t31 := Tryz.underlying79
  a31 := Tryz.isAgg79
  z31 := Tryz.sizeOf79
  v31 := Tryz.zeroValue79
  t37 := Tryz.underlying125
  a37 := Tryz.isAgg125
  z37 := Tryz.sizeOf125
  v37 := Tryz.zeroValue125
  t70 := Tryz.underlying162
  a70 := Tryz.isAgg162
  z70 := Tryz.sizeOf162
  v70 := Tryz.zeroValue162
  t72 := Tryz.underlying164
  a72 := Tryz.isAgg164
  z72 := Tryz.sizeOf164
  v72 := Tryz.zeroValue164
  t75 := Tryz.underlying167
  a75 := Tryz.isAgg167
  z75 := Tryz.sizeOf167
  v75 := Tryz.zeroValue167
  t76 := Tryz.underlying168
  a76 := Tryz.isAgg168
  z76 := Tryz.sizeOf168
  v76 := Tryz.zeroValue168
  t127 := Tryz.underlying175
  a127 := Tryz.isAgg175
  z127 := Tryz.sizeOf175
  v127 := Tryz.zeroValue175
  t164 := Tryz.underlying180
  a164 := Tryz.isAgg180
  z164 := Tryz.sizeOf180
  v164 := Tryz.zeroValue180 }
theorem Tryz.Builder_Extra_156 : Builder.Extra Tryz.prog Tryz.lays156_ren := {
  sizeBuilder := by kernel_rfl
  liesBuilder := by kernel_rfl
  t5 := Tryz.underlying5
  a5 := Tryz.isAgg5
  z5 := Tryz.sizeOf5
  v5 := Tryz.zeroValue5
  infoByte := by kernel_rfl
  cellsByte := by kernel_rfl
  sizeByte := by kernel_rfl
  neB5 := by decide }
open Go.RowKit in
/-- No element: the empty string; the world is as it was. (Whatever the slice's address and capacity: a nil slice too.) (LAID: no walk: one application.) -/
theorem Tryz.strings_Join_none (a : Option Addr) (c : Nat) (sep : ByteArray) (w : World) :
    Calls Tryz.prog 140 #[.slice a 0 c, .string sep] w fun e w' => e = .returned (.string ⟨#[]⟩) ∧ w' = w := Any.strings_Join_none Tryz.lays156 Tryz.Builder_Extra_156 a c sep w
open Go.RowKit in
/-- strings.Join: "Join concatenates the elements of its first argument to create a single string. The separator string sep is placed between elements in the resulting string.": HOWEVER MANY ELEMENTS. Below the heap's end the world is as it was. (LAID: no walk: one application.) -/
theorem Tryz.strings_Join (bk o c : Nat) (xs : List ByteArray) (sep : ByteArray) (w : World) (hcells : ∀ (j : Nat) x, xs[j]? = some x → w.cell? ⟨bk, o + j, none⟩ = some (.string x)) (hbk : bk < w.heap.size) (hN : xs.length ≤ 140737488355328) (hcap : xs.length ≤ c) (hlen : (Lib.join (xs.map (·.data.toList)) sep.data.toList).length ≤ 140737488355328) :
    Calls Tryz.prog 140 #[.slice (some ⟨bk, o, none⟩) xs.length c, .string sep] w fun e w' => e = .returned (.string ⟨(Lib.join (xs.map (·.data.toList)) sep.data.toList).toArray⟩) ∧ Below w.heap.size w w' := Any.strings_Join Tryz.lays156 Tryz.Builder_Extra_156 bk o c xs sep w hcells hbk hN hcap hlen
def Tryz.laysM171_ren : Go.Shelf.Ren := ⟨fun | 171 => 125 | 243 => 141 | 246 => 151 | 283 => 158 | 284 => 159 | 285 => 160 | 286 => 161 | 129 => 109 | 317 => 169 | 318 => 170 | 319 => 171 | 320 => 172 | 337 => 175 | 338 => 176 | n => n, fun | 3 => 3 | 9 => 9 | 2 => 2 | 4 => 4 | 171 => 176 | 0 => 0 | 53 => 139 | 37 => 125 | 5 => 5 | 173 => 178 | 212 => 184 | 51 => 137 | 20 => 20 | 213 => 185 | 46 => 121 | 232 => 193 | 233 => 194 | n => n, fun | 17 => 1 | 18 => 4 | 19 => 5 | n => n⟩
theorem Tryz.laysM171 : Go.Proofs.LaysM.n171 Tryz.prog Tryz.laysM171_ren := {
  mixed := by kernel_rfl
  f129 := Tryz.func109.trans (congrArg some (by kernel_rfl))
  f171 := Tryz.func125.trans (congrArg some (by kernel_rfl))
  f243 := Tryz.func141.trans (congrArg some (by kernel_rfl))
  f246 := Tryz.func151.trans (congrArg some (by kernel_rfl))
  f283 := Tryz.func158.trans (congrArg some (by kernel_rfl))
  f284 := Tryz.func159.trans (congrArg some (by kernel_rfl))
  f285 := Tryz.func160.trans (congrArg some (by kernel_rfl))
  f286 := Tryz.func161.trans (congrArg some (by kernel_rfl))
  f317 := Tryz.func169.trans (congrArg some (by kernel_rfl))
  f318 := Tryz.func170.trans (congrArg some (by kernel_rfl))
  f319 := Tryz.func171.trans (congrArg some (by kernel_rfl))
  f320 := Tryz.func172.trans (congrArg some (by kernel_rfl))
  f337 := Tryz.func175.trans (congrArg some (by kernel_rfl))
  f338 := Tryz.func176.trans (congrArg some (by kernel_rfl))
  t0 := Tryz.underlying0
  a0 := Tryz.isAgg0
  z0 := Tryz.sizeOf0
  v0 := Tryz.zeroValue0
  t2 := Tryz.underlying2
  a2 := Tryz.isAgg2
  z2 := Tryz.sizeOf2
  v2 := Tryz.zeroValue2
  t3 := Tryz.underlying3
  a3 := Tryz.isAgg3
  z3 := Tryz.sizeOf3
  v3 := Tryz.zeroValue3
  t4 := Tryz.underlying4
  a4 := Tryz.isAgg4
  z4 := Tryz.sizeOf4
  v4 := Tryz.zeroValue4
  t5 := Tryz.underlying5
  a5 := Tryz.isAgg5
  z5 := Tryz.sizeOf5
  v5 := Tryz.zeroValue5
  t9 := Tryz.underlying9
  a9 := Tryz.isAgg9
  z9 := Tryz.sizeOf9
  v9 := Tryz.zeroValue9
  t20 := Tryz.underlying20
  a20 := Tryz.isAgg20
  z20 := Tryz.sizeOf20
  v20 := Tryz.zeroValue20
  t37 := Tryz.underlying125
  a37 := Tryz.isAgg125
  z37 := Tryz.sizeOf125
  v37 := Tryz.zeroValue125
  t46 := Tryz.underlying121
  a46 := Tryz.isAgg121
  z46 := Tryz.sizeOf121
  v46 := Tryz.zeroValue121
  t51 := Tryz.underlying137
  a51 := Tryz.isAgg137
  z51 := Tryz.sizeOf137
  v51 := Tryz.zeroValue137
  t53 := Tryz.underlying139
  a53 := Tryz.isAgg139
  z53 := Tryz.sizeOf139
  v53 := Tryz.zeroValue139
  t171 := Tryz.underlying176
  a171 := Tryz.isAgg176
  z171 := Tryz.sizeOf176
  v171 := Tryz.zeroValue176
  t173 := Tryz.underlying178
  a173 := Tryz.isAgg178
  z173 := Tryz.sizeOf178
  v173 := Tryz.zeroValue178
  t212 := Tryz.underlying184
  a212 := Tryz.isAgg184
  z212 := Tryz.sizeOf184
  v212 := Tryz.zeroValue184
  t213 := Tryz.underlying185
  a213 := Tryz.isAgg185
  z213 := Tryz.sizeOf185
  t232 := Tryz.underlying193
  a232 := Tryz.isAgg193
  z232 := Tryz.sizeOf193
  v232 := Tryz.zeroValue193
  t233 := Tryz.underlying194
  a233 := Tryz.isAgg194
  z233 := Tryz.sizeOf194
  v233 := Tryz.zeroValue194
  g17 := by kernel_rfl
  g18 := by kernel_rfl
  g19 := by kernel_rfl
  i0 := by kernel_rfl
  i2 := by kernel_rfl
  i3 := by kernel_rfl
  i4 := by kernel_rfl
  i5 := by kernel_rfl
  i9 := by kernel_rfl
  i20 := by kernel_rfl
  i37 := by kernel_rfl
  i46 := by kernel_rfl
  i51 := by kernel_rfl
  i53 := by kernel_rfl
  i171 := by kernel_rfl
  i173 := by kernel_rfl
  i212 := by kernel_rfl
  i232 := by kernel_rfl
  i233 := by kernel_rfl
  m17 := by kernel_rfl
  m18 := by kernel_rfl
  m19 := by kernel_rfl }
open Go.RowKit Go.Sort Go.Lib in
/-- strconv.Itoa: "Itoa is equivalent to FormatInt(int64(i), 10).": i's DECIMAL NUMERAL ('Lib.itoa': a '-' where i is negative, then the digits), FOR EVERY int. The world behind the call: the world before it, new blocks behind the heap (the library's 'var a [24]byte'), draws. (LAID: no walk: one application.) -/
theorem Tryz.strconv_Itoa (n : Int) (h0 : -9223372036854775808 ≤ n) (h1 : n ≤ 9223372036854775807) (w : World) (htab : Lib.TabIs Tryz.prog w "internal/strconv.uint64pow10" .u64 Lib.pow10Tab) :
    Calls Tryz.prog 125 #[.int .i64 n] w fun e w' => e = .returned (.string ⟨(Lib.itoa n).toArray⟩) ∧ ∃ k os, w' = grow (w.drewN k) os := Any.strconv_Itoa Tryz.laysM171 n h0 h1 w htab
def Tryz.lays171_ren : Go.Shelf.Ren := ⟨fun | 171 => 125 | 243 => 141 | 246 => 151 | 283 => 158 | 284 => 159 | 285 => 160 | 286 => 161 | 129 => 109 | 317 => 169 | 318 => 170 | 319 => 171 | 320 => 172 | 337 => 175 | 338 => 176 | n => n, fun | 3 => 3 | 9 => 9 | 2 => 2 | 4 => 4 | 171 => 176 | 0 => 0 | 53 => 139 | 37 => 125 | 5 => 5 | 173 => 178 | 212 => 184 | 51 => 137 | 20 => 20 | 213 => 185 | 46 => 121 | 232 => 193 | 233 => 194 | n => n, fun | 17 => 1 | 18 => 4 | 19 => 5 | n => n⟩
theorem Tryz.lays171 : Go.Proofs.Lays.n171 Tryz.prog Tryz.lays171_ren := {
  mixed := by kernel_rfl
  f129 := Tryz.func109.trans (congrArg some (by kernel_rfl))
  f171 := Tryz.func125.trans (congrArg some (by kernel_rfl))
  f243 := Tryz.func141.trans (congrArg some (by kernel_rfl))
  f246 := Tryz.func151.trans (congrArg some (by kernel_rfl))
  f283 := Tryz.func158.trans (congrArg some (by kernel_rfl))
  f284 := Tryz.func159.trans (congrArg some (by kernel_rfl))
  f285 := Tryz.func160.trans (congrArg some (by kernel_rfl))
  f286 := Tryz.func161.trans (congrArg some (by kernel_rfl))
  f317 := Tryz.func169.trans (congrArg some (by kernel_rfl))
  f318 := Tryz.func170.trans (congrArg some (by kernel_rfl))
  f319 := Tryz.func171.trans (congrArg some (by kernel_rfl))
  f320 := Tryz.func172.trans (congrArg some (by kernel_rfl))
  f337 := Tryz.func175.trans (congrArg some (by kernel_rfl))
  f338 := Tryz.func176.trans (congrArg some (by kernel_rfl))
  t0 := Tryz.underlying0
  a0 := Tryz.isAgg0
  z0 := Tryz.sizeOf0
  v0 := Tryz.zeroValue0
  t2 := Tryz.underlying2
  a2 := Tryz.isAgg2
  z2 := Tryz.sizeOf2
  v2 := Tryz.zeroValue2
  t3 := Tryz.underlying3
  a3 := Tryz.isAgg3
  z3 := Tryz.sizeOf3
  v3 := Tryz.zeroValue3
  t4 := Tryz.underlying4
  a4 := Tryz.isAgg4
  z4 := Tryz.sizeOf4
  v4 := Tryz.zeroValue4
  t5 := Tryz.underlying5
  a5 := Tryz.isAgg5
  z5 := Tryz.sizeOf5
  v5 := Tryz.zeroValue5
  t9 := Tryz.underlying9
  a9 := Tryz.isAgg9
  z9 := Tryz.sizeOf9
  v9 := Tryz.zeroValue9
  t20 := Tryz.underlying20
  a20 := Tryz.isAgg20
  z20 := Tryz.sizeOf20
  v20 := Tryz.zeroValue20
  t37 := Tryz.underlying125
  a37 := Tryz.isAgg125
  z37 := Tryz.sizeOf125
  v37 := Tryz.zeroValue125
  t46 := Tryz.underlying121
  a46 := Tryz.isAgg121
  z46 := Tryz.sizeOf121
  v46 := Tryz.zeroValue121
  t51 := Tryz.underlying137
  a51 := Tryz.isAgg137
  z51 := Tryz.sizeOf137
  v51 := Tryz.zeroValue137
  t53 := Tryz.underlying139
  a53 := Tryz.isAgg139
  z53 := Tryz.sizeOf139
  v53 := Tryz.zeroValue139
  t171 := Tryz.underlying176
  a171 := Tryz.isAgg176
  z171 := Tryz.sizeOf176
  v171 := Tryz.zeroValue176
  t173 := Tryz.underlying178
  a173 := Tryz.isAgg178
  z173 := Tryz.sizeOf178
  v173 := Tryz.zeroValue178
  t212 := Tryz.underlying184
  a212 := Tryz.isAgg184
  z212 := Tryz.sizeOf184
  v212 := Tryz.zeroValue184
  t213 := Tryz.underlying185
  a213 := Tryz.isAgg185
  z213 := Tryz.sizeOf185
  t232 := Tryz.underlying193
  a232 := Tryz.isAgg193
  z232 := Tryz.sizeOf193
  v232 := Tryz.zeroValue193
  t233 := Tryz.underlying194
  a233 := Tryz.isAgg194
  z233 := Tryz.sizeOf194
  v233 := Tryz.zeroValue194
  g17 := by kernel_rfl
  g18 := by kernel_rfl
  g19 := by kernel_rfl }
open Go.RowKit Go.Sort Go.Lib in
/-- THE ROAD WITHOUT THE TABLE: 0 <= i < 100: NO PREMISE ON THE WORLD, AND THE WORLD IS AS IT WAS: a row that keeps its argument in that range need list no table ('laid = []'). (LAID: no walk: one application.) -/
theorem Tryz.strconv_Itoa_small (i : Nat) (hi : i < 100) (w : World) :
    Calls Tryz.prog 125 #[.int .i64 i] w fun e w' => e = .returned (.string ⟨(Lib.decDigits i).toArray⟩) ∧ w' = w := Any.strconv_Itoa_small Tryz.lays171 i hi w
def Tryz.lays146_ren : Go.Shelf.Ren := ⟨fun | 146 => 119 | 221 => 135 | 268 => 144 | 138 => 145 | 143 => 146 | 195 => 152 | 197 => 153 | 218 => 154 | 219 => 155 | 260 => 162 | 217 => 163 | 225 => 164 | 224 => 165 | 267 => 166 | 266 => 173 | 314 => 174 | n => n, fun | 9 => 9 | 31 => 79 | 3 => 3 | 4 => 4 | 0 => 0 | 105 => 172 | 21 => 21 | 5 => 5 | 46 => 121 | 119 => 187 | 139 => 190 | 138 => 189 | 146 => 191 | 51 => 137 | n => n, fun | 1 => 0 | 3 => 2 | 4 => 3 | n => n⟩
theorem Tryz.lays146 : Go.Proofs.Lays.n146 Tryz.prog Tryz.lays146_ren := {
  mixed := by kernel_rfl
  f138 := Tryz.func145.trans (congrArg some (by kernel_rfl))
  f143 := Tryz.func146.trans (congrArg some (by kernel_rfl))
  f146 := Tryz.func119.trans (congrArg some (by kernel_rfl))
  f195 := Tryz.func152.trans (congrArg some (by kernel_rfl))
  f197 := Tryz.func153.trans (congrArg some (by kernel_rfl))
  f217 := Tryz.func163.trans (congrArg some (by kernel_rfl))
  f218 := Tryz.func154.trans (congrArg some (by kernel_rfl))
  f219 := Tryz.func155.trans (congrArg some (by kernel_rfl))
  f221 := Tryz.func135.trans (congrArg some (by kernel_rfl))
  f224 := Tryz.func165.trans (congrArg some (by kernel_rfl))
  f225 := Tryz.func164.trans (congrArg some (by kernel_rfl))
  f260 := Tryz.func162.trans (congrArg some (by kernel_rfl))
  f266 := Tryz.func173.trans (congrArg some (by kernel_rfl))
  f267 := Tryz.func166.trans (congrArg some (by kernel_rfl))
  f268 := Tryz.func144.trans (congrArg some (by kernel_rfl))
  f314 := Tryz.func174.trans (congrArg some (by kernel_rfl))
  t0 := Tryz.underlying0
  a0 := Tryz.isAgg0
  z0 := Tryz.sizeOf0
  v0 := Tryz.zeroValue0
  t3 := Tryz.underlying3
  a3 := Tryz.isAgg3
  z3 := Tryz.sizeOf3
  v3 := Tryz.zeroValue3
  t4 := Tryz.underlying4
  a4 := Tryz.isAgg4
  z4 := Tryz.sizeOf4
  v4 := Tryz.zeroValue4
  t5 := Tryz.underlying5
  a5 := Tryz.isAgg5
  z5 := Tryz.sizeOf5
  v5 := Tryz.zeroValue5
  t9 := Tryz.underlying9
  a9 := Tryz.isAgg9
  z9 := Tryz.sizeOf9
  v9 := Tryz.zeroValue9
  t21 := Tryz.underlying21
  a21 := Tryz.isAgg21
  z21 := Tryz.sizeOf21
  v21 := Tryz.zeroValue21
  t31 := Tryz.underlying79
  a31 := Tryz.isAgg79
  z31 := Tryz.sizeOf79
  v31 := Tryz.zeroValue79
  t46 := Tryz.underlying121
  a46 := Tryz.isAgg121
  z46 := Tryz.sizeOf121
  v46 := Tryz.zeroValue121
  t51 := Tryz.underlying137
  a51 := Tryz.isAgg137
  z51 := Tryz.sizeOf137
  v51 := Tryz.zeroValue137
  t105 := Tryz.underlying172
  a105 := Tryz.isAgg172
  z105 := Tryz.sizeOf172
  v105 := Tryz.zeroValue172
  t119 := Tryz.underlying187
  a119 := Tryz.isAgg187
  z119 := Tryz.sizeOf187
  t138 := Tryz.underlying189
  a138 := Tryz.isAgg189
  z138 := Tryz.sizeOf189
  v138 := Tryz.zeroValue189
  t139 := Tryz.underlying190
  a139 := Tryz.isAgg190
  z139 := Tryz.sizeOf190
  v139 := Tryz.zeroValue190
  t146 := Tryz.underlying191
  a146 := Tryz.isAgg191
  z146 := Tryz.sizeOf191
  v146 := Tryz.zeroValue191
  g1 := by kernel_rfl
  g3 := by kernel_rfl
  g4 := by kernel_rfl }
open Go.RowKit Go.Lib in
/-- strings.Split. (LAID: no walk: one application.) -/
theorem Tryz.strings_Split (s sep : ByteArray) (m : Int) (w : World) (hs : s.size < 4294967281) (hm : w.cell? ⟨0, 0, none⟩ = some (.int .i64 m)) (h1 : 1 ≤ sep.size) :
    Calls Tryz.prog 119 #[.string s, .string sep] w fun e w' =>
      e = .returned (.slice (some ⟨w.heap.size, 0, none⟩) (Lib.countB s sep + 1) (Lib.countB s sep + 1)) ∧ w' = w.alloc (.cells ((Lib.splitB sep 0 (Lib.countB s sep) s).map Value.string).toArray 9) := Any.strings_Split Tryz.lays146 (by kernel_rfl) s sep m w hs hm h1
def Tryz.laysM146_ren : Go.Shelf.Ren := ⟨fun | 146 => 119 | 221 => 135 | 268 => 144 | 138 => 145 | 143 => 146 | 195 => 152 | 197 => 153 | 218 => 154 | 219 => 155 | 260 => 162 | 217 => 163 | 225 => 164 | 224 => 165 | 267 => 166 | 266 => 173 | 314 => 174 | n => n, fun | 9 => 9 | 31 => 79 | 3 => 3 | 4 => 4 | 0 => 0 | 105 => 172 | 21 => 21 | 5 => 5 | 46 => 121 | 119 => 187 | 139 => 190 | 138 => 189 | 146 => 191 | 51 => 137 | n => n, fun | 1 => 0 | 3 => 2 | 4 => 3 | n => n⟩
theorem Tryz.laysM146 : Go.Proofs.LaysM.n146 Tryz.prog Tryz.laysM146_ren := {
  mixed := by kernel_rfl
  f138 := Tryz.func145.trans (congrArg some (by kernel_rfl))
  f143 := Tryz.func146.trans (congrArg some (by kernel_rfl))
  f146 := Tryz.func119.trans (congrArg some (by kernel_rfl))
  f195 := Tryz.func152.trans (congrArg some (by kernel_rfl))
  f197 := Tryz.func153.trans (congrArg some (by kernel_rfl))
  f217 := Tryz.func163.trans (congrArg some (by kernel_rfl))
  f218 := Tryz.func154.trans (congrArg some (by kernel_rfl))
  f219 := Tryz.func155.trans (congrArg some (by kernel_rfl))
  f221 := Tryz.func135.trans (congrArg some (by kernel_rfl))
  f224 := Tryz.func165.trans (congrArg some (by kernel_rfl))
  f225 := Tryz.func164.trans (congrArg some (by kernel_rfl))
  f260 := Tryz.func162.trans (congrArg some (by kernel_rfl))
  f266 := Tryz.func173.trans (congrArg some (by kernel_rfl))
  f267 := Tryz.func166.trans (congrArg some (by kernel_rfl))
  f268 := Tryz.func144.trans (congrArg some (by kernel_rfl))
  f314 := Tryz.func174.trans (congrArg some (by kernel_rfl))
  t0 := Tryz.underlying0
  a0 := Tryz.isAgg0
  z0 := Tryz.sizeOf0
  v0 := Tryz.zeroValue0
  t3 := Tryz.underlying3
  a3 := Tryz.isAgg3
  z3 := Tryz.sizeOf3
  v3 := Tryz.zeroValue3
  t4 := Tryz.underlying4
  a4 := Tryz.isAgg4
  z4 := Tryz.sizeOf4
  v4 := Tryz.zeroValue4
  t5 := Tryz.underlying5
  a5 := Tryz.isAgg5
  z5 := Tryz.sizeOf5
  v5 := Tryz.zeroValue5
  t9 := Tryz.underlying9
  a9 := Tryz.isAgg9
  z9 := Tryz.sizeOf9
  v9 := Tryz.zeroValue9
  t21 := Tryz.underlying21
  a21 := Tryz.isAgg21
  z21 := Tryz.sizeOf21
  v21 := Tryz.zeroValue21
  t31 := Tryz.underlying79
  a31 := Tryz.isAgg79
  z31 := Tryz.sizeOf79
  v31 := Tryz.zeroValue79
  t46 := Tryz.underlying121
  a46 := Tryz.isAgg121
  z46 := Tryz.sizeOf121
  v46 := Tryz.zeroValue121
  t51 := Tryz.underlying137
  a51 := Tryz.isAgg137
  z51 := Tryz.sizeOf137
  v51 := Tryz.zeroValue137
  t105 := Tryz.underlying172
  a105 := Tryz.isAgg172
  z105 := Tryz.sizeOf172
  v105 := Tryz.zeroValue172
  t119 := Tryz.underlying187
  a119 := Tryz.isAgg187
  z119 := Tryz.sizeOf187
  t138 := Tryz.underlying189
  a138 := Tryz.isAgg189
  z138 := Tryz.sizeOf189
  v138 := Tryz.zeroValue189
  t139 := Tryz.underlying190
  a139 := Tryz.isAgg190
  z139 := Tryz.sizeOf190
  v139 := Tryz.zeroValue190
  t146 := Tryz.underlying191
  a146 := Tryz.isAgg191
  z146 := Tryz.sizeOf191
  v146 := Tryz.zeroValue191
  g1 := by kernel_rfl
  g3 := by kernel_rfl
  g4 := by kernel_rfl
  i0 := by kernel_rfl
  i3 := by kernel_rfl
  i4 := by kernel_rfl
  i5 := by kernel_rfl
  i9 := by kernel_rfl
  i21 := by kernel_rfl
  i31 := by kernel_rfl
  i46 := by kernel_rfl
  i51 := by kernel_rfl
  i105 := by kernel_rfl
  i138 := by kernel_rfl
  i139 := by kernel_rfl
  i146 := by kernel_rfl
  m1 := by kernel_rfl
  s1_3 := fun w h => Go.Proofs.cell_of_shapedOpen_int (zero := #[.int .i64 0]) (t := 3) h (of_decide_eq_true (by kernel_rfl)) (by kernel_rfl) rfl (by kernel_rfl) (by kernel_rfl) Tryz.underlying3
  m3 := by kernel_rfl
  m4 := by kernel_rfl }
open Go.RowKit Go.Lib in
/-- strings.Split, sep not empty. (LAID: no walk: one application.) -/
theorem Tryz.strings_Split_shaped (s sep : ByteArray) (w : World) (h : w.ShapedOpen Tryz.prog) (hs : s.size < 4294967281) (h1 : 1 ≤ sep.size) :
    Calls Tryz.prog 119 #[.string s, .string sep] w fun e w' =>
      e = .returned (.slice (some ⟨w.heap.size, 0, none⟩) (Lib.countB s sep + 1) (Lib.countB s sep + 1)) ∧ w' = w.alloc (.cells ((Lib.splitB sep 0 (Lib.countB s sep) s).map Value.string).toArray 9) := Any.strings_Split_shaped Tryz.laysM146 s sep w h hs h1
end Go.Proofs
/-
  The walks of layer 1's Print and of the document's answer to it: both give a number's decimal digits; memory that there was is as it was.
-/
namespace Go.Proofs.YtaheiolbeiofpaaGreatDoor
open Go.RowKit

theorem retS {a b : List UInt8} (h : a = b) : Ending.returned (.string ⟨a.toArray⟩) = .returned (.string ⟨b.toArray⟩) := by rw [h]
theorem grow_below (w : World) (k : Nat) (os : Array Obj) : Below w.heap.size w (Go.Sort.grow (w.drewN k) os) :=
  ⟨rfl, rfl, rfl, by simp, fun j hj => by rw [Go.Sort.heap_grow_old _ _ (by simpa using hj)]; rfl⟩
set_option maxHeartbeats 400000 in
theorem print_any (n : Int) (w : World) (h0 : 0 ≤ n) (h1 : n ≤ 9223372036854775807) (htab : Lib.TabIs Tryz.prog w "internal/strconv.uint64pow10" .u64 Lib.pow10Tab) :
    Calls Tryz.prog 97 #[.int .i64 n] w fun e w' => e = .returned (.string ⟨(Lib.decDigits n.toNat).toArray⟩) ∧ Below w.heap.size w w' := by
  have H := Lib.hid (show Lib.itoa n = Lib.decDigits n.toNat by unfold Lib.itoa; rw [if_neg (by omega)])
  go_enter Tryz.func97, Tryz.ntmps97
  go_wp2_with (go_at_call 125; refine (Tryz.strconv_Itoa n (by omega) h1 _ htab).mono ?_; rintro e w' ⟨rfl, k, os, rfl⟩)
  go_ret
  exact ⟨retS H.out, grow_below w k os⟩

theorem bcell {W w1 : World} (hb : Below W.heap.size W w1) : (∀ b o, b < W.heap.size → w1.cell? ⟨b, o, none⟩ = W.cell? ⟨b, o, none⟩) ∧ (∀ b o, b < W.heap.size → w1.frozen? ⟨b, o, none⟩ = W.frozen? ⟨b, o, none⟩) :=
  ⟨fun b o h => hb.cell (p := ⟨b, o, none⟩) h, fun b o h => hb.frozen (p := ⟨b, o, none⟩) h⟩
/-- A slice of one byte of the call's own, made a text. -/
theorem one_byte (w : World) (b : Nat) (x : Int) (h : w.cell? ⟨b, 0, none⟩ = some (.int .u8 x)) :
    Sem.run Tryz.prog (convert 125 9 (.slice (some ⟨b, 0, none⟩) 1 1)) w = .ok (.string ⟨#[UInt8.ofNat x.toNat]⟩) w := by
  have := run_convert_bytes_arg (P := Tryz.prog) (w := w) 125 5 Tryz.underlying125 Tryz.underlying5 b 0 1 1 [x] rfl (fun i hi => by
    obtain rfl : i = 0 := by omega
    simpa using h) 9 Tryz.underlying9
  exact this
theorem one_new (w : World) (x : Int) :
    Sem.run Tryz.prog (convert 125 9 (.slice (some ⟨w.heap.size, 0, none⟩) 1 1)) (w.alloc (.cells #[.int .u8 x] 5)) = .ok (.string ⟨#[UInt8.ofNat x.toNat]⟩) (w.alloc (.cells #[.int .u8 x] 5)) :=
  one_byte _ _ _ (by
    show (w.alloc (.cells #[.int .u8 x] 5)).cell? ⟨w.heap.size, 0, none⟩ = _
    go_simp)
theorem u8_in (n : Int) (h : 0 ≤ n ∧ n ≤ 255) : IntKind.u8.wrap n = n := by
  unfold IntKind.wrap; simp [IntKind.bits, IntKind.signed]; omega
theorem digit_one (n : Int) (h0 : 0 ≤ n) (h1 : n < 10) : [UInt8.ofNat (48 + n).toNat] = Lib.decDigits n.toNat := by
  rw [Lib.decDigits_one (by omega)]
  congr 2; omega
theorem retSS {a b : ByteArray} (h : a = b) : Ending.returned (.string a) = .returned (.string b) := by rw [h]
theorem digit_more (n : Int) (h1 : 10 ≤ n) : (ByteArray.mk (Lib.decDigits (n / 10).toNat).toArray ++ ByteArray.mk #[UInt8.ofNat (48 + n % 10).toNat]) = ⟨(Lib.decDigits n.toNat).toArray⟩ := by
  have e : (ByteArray.mk #[UInt8.ofNat (48 + n % 10).toNat]) = ByteArray.mk [UInt8.ofNat (48 + n % 10).toNat].toArray := rfl
  rw [e, ByteArray.mk_append_mk]
  have : Lib.decDigits n.toNat = Lib.decDigits (n.toNat / 10) ++ [UInt8.ofNat (48 + n.toNat % 10)] := by
    conv => lhs; rw [Lib.decDigits, dif_neg (by omega)]
  rw [this, show (n / 10).toNat = n.toNat / 10 by omega, show (48 + n % 10).toNat = 48 + n.toNat % 10 by omega]
set_option maxHeartbeats 400000 in
set_option maxRecDepth 100000 in
theorem rprint_any (k : Nat) : ∀ (n : Int) (w : World), 0 ≤ n → n ≤ k → n ≤ 9223372036854775807 →
    Calls Tryz.prog 73 #[.int .i64 n] w fun e w' => e = .returned (.string ⟨(Lib.decDigits n.toNat).toArray⟩) ∧ Below w.heap.size w w' := by
  induction k with
  | zero =>
    intro n w h0 hk h1
    have hconv := one_new w (48 + n)
    go_enter Tryz.func73, Tryz.ntmps73
    go_wp2_with fail
    go_ret
    exact ⟨retS (digit_one n h0 (by omega)), (Below.refl _ _).alloc (Nat.le_refl _) _⟩
  | succ k ih =>
    intro n w h0 hk h1
    by_cases hn : n < 10
    · have hconv := one_new w (48 + n)
      have H := Lib.hid (digit_one n h0 hn)
      go_enter Tryz.func73, Tryz.ntmps73
      go_wp2_with fail
      go_ret
      exact ⟨retS H.out, (Below.refl _ _).alloc (Nat.le_refl _) _⟩
    · have ih' := fun W => ih (n / 10) W (by omega) (by omega) (by omega)
      have I := Lib.hid ih'
      have H := Lib.hid (digit_more n (by omega))
      clear ih ih'
      have hm : 0 ≤ n % 10 := by omega
      have hm2 : n % 10 < 10 := by omega
      have q1 : IntKind.i64.wrap (n.tdiv 10) = n / 10 := by rw [Int.tdiv_eq_ediv_of_nonneg h0]; exact IntWalk.i64_in _ (by omega)
      have q2 : n.tmod 10 = n % 10 := Int.tmod_eq_emod_of_nonneg h0
      have q3 : IntKind.i64.wrap (48 + n % 10) = 48 + n % 10 := IntWalk.i64_in _ (by omega)
      have q4 : IntKind.u8.wrap (48 + n % 10) = 48 + n % 10 := u8_in _ (by omega)
      have hL : (Lib.decDigits (n / 10).toNat).length ≤ 20 := by rw [Lib.decDigits_length]; exact Lib.nDigits_le20 _ (by omega)
      have hL2 : ¬ (9223372036854775807 < (Lib.decDigits (n / 10).toNat).length + 1) := by omega
      have hA := fun W => one_new W (48 + n % 10)
      have hB := fun W b => one_byte W b (48 + n % 10)
      go_enter Tryz.func73, Tryz.ntmps73
      go_wp2_with fail
      go_region_with (first | (go_at_call 73; refine (I.out _).mono ?_; rintro e w' ⟨rfl, hb⟩; have hcell := (bcell hb).1))
      all_goals go_wp2_with fail
      all_goals go_ret
      · exact ⟨retSS H.out, (Below.trans (b := w.drew) (Below.refl w.heap.size w).drew hb).alloc hb.size _⟩
      all_goals exact ⟨retSS H.out, ((Below.refl w.heap.size w).alloc (Nat.le_refl _) _).drew.trans (hb.mono (B' := w.heap.size) (by simp))⟩
end Go.Proofs.YtaheiolbeiofpaaGreatDoor
/-
  What a law's row asks behind the call, for any law of this project: it returned true, and memory that there was is as it was. No function of the project is named here.
-/
namespace Go.Proofs.YtaheiolbeiofpaaGreatDoor
open Go.ChangeShapes Go.WideShapes Go.ChangeAt Go.RowKit

theorem ownKnobNone : ownKnob Tryz.prog.godebug = none := by kernel_rfl
theorem laidOut : laidOutB Tryz.prog = true := by kernel_rfl

theorem trodAll_kept {H : Type} {enc : TypeId × Value → H} {P : Program} (hl : laidOutB P = true) {W W' : World} {sp : Nat → Bool} (hb : Below W.heap.size W W') :
    ∀ {ts : List TypeId} {vs : List Value} {ds : List (DataW H)} {ps : List MemPlace}, (ts.all fun t => P.readableRec t && decide (t < P.types.size)) = true →
      DataW.TrodAll enc P W 0 (fun _ => true) true ts vs ds ps → (∀ x ∈ ps, x.block < W.heap.size) → (∀ x ∈ ps, sp x.block = true) → DataW.TrodAll enc P W' 0 sp true ts vs ds ps
  | [], [], [], _, _, h, _, _ => h
  | t :: ts, v :: vs, d :: ds, ps, hr, h, hlt, hs => by
    obtain ⟨p, q, h1, h2, rfl⟩ := h
    simp only [List.all_cons, Bool.and_eq_true, decide_eq_true_eq] at hr
    exact ⟨p, q, Go.WideElems.Trod_stays hl hr.1.1 hr.1.2 h1 (fun x hx => hb.same (hlt x (List.mem_append_left _ hx))) (fun x hx => hs x (List.mem_append_left _ hx)),
      trodAll_kept hl hb (by simpa using hr.2) h2 (fun x hx => hlt x (List.mem_append_right _ hx)) (fun x hx => hs x (List.mem_append_right _ hx)), rfl⟩
  | [], _ :: _, _, _, _, h, _, _ => h.elim
  | _ :: _, [], _, _, _, h, _, _ => h.elim
  | [], [], _ :: _, _, _, h, _, _ => h.elim
  | _ :: _, _ :: _, [], _, _, h, _, _ => h.elim

/-- Behind a law that returned true: all that its row asks. -/
theorem post_law {H : Type} {enc : TypeId × Value → H} {P : Program} {f : Func} {s : ChangeSpec} {W W' : World} {args : Array Value} {ds gs : List (DataW H)} {before : List MemPlace} {tb : TypeId}
    (hl : laidOutB P = true) (hv : s.vars = []) (hr : f.resultTypes = #[tb]) (ht : P.underlying tb = some .bool)
    (hp : (f.params.toList.all fun t => P.readableRec t && decide (t < P.types.size)) = true)
    (hfn : s.fn H (ds ++ gs) = { results := [.lit (.bool true)], args := ds })
    (hW : DataW.Whole enc P f.params.toList s.vars false W args.toList ds gs before) (hb : Below W.heap.size W W') :
    s.post enc P f false true false false W args (.bool true) W' := by
  have hlt : ∀ p ∈ before, p.block < W.heap.size := fun p hp => hW.lt p hp
  have hW2 := hW
  obtain ⟨p, q, hA, hV, rfl, _, _⟩ := hW
  rw [hv] at hV
  obtain ⟨rfl, rfl⟩ := trodVars_none hV
  simp only [List.append_nil] at hlt hW2
  refine ⟨ds, [], p, [], p, [], hW2, ?_, ?_, ?_, ?_, fun h => by cases h⟩
  · rw [hfn, hr]
    exact trodAll_cons_mk (shut_bool ht _) trodAll_mk0
  · rw [hfn]
    exact trodAll_kept hl hb hp hA hlt (fun x hx => by simpa using hlt x hx)
  · rw [hfn, hv]; rfl
  · exact World.keptBut_mono (fun x hx => ⟨hx, Or.inr (Or.inl hx)⟩) (hb.frame (· ∈ p))

/-- The cells that a laid table's datum tells. -/
def tableCells : DataW Unit → Array Value
  | .agg l => (l.map fun | .lit (.int k n) => .int k n | _ => undef).toArray
  | _ => #[]
/-- A world in which block g holds these cells. -/
def setTable (h : Array Obj) (g : Nat) (cs : Array Value) : Array Obj := h.modify g fun
  | .cells _ t frozen => .cells cs t frozen
  | o => o

theorem wf_i64 {n : Int} (h : (Lit.int .i64 n).wf = true) : -9223372036854775808 ≤ n ∧ n ≤ 9223372036854775807 := by
  simpa [Lit.wf, IntKind.min, IntKind.max, IntKind.bits, IntKind.signed] using h
theorem wf_u64 {n : Int} (h : (Lit.int .u64 n).wf = true) : 0 ≤ n ∧ n ≤ 18446744073709551615 := by
  simpa [Lit.wf, IntKind.min, IntKind.max, IntKind.bits, IntKind.signed] using h
theorem wf_u32 {n : Int} (h : (Lit.int .u32 n).wf = true) : 0 ≤ n ∧ n ≤ 4294967295 := by
  simpa [Lit.wf, IntKind.min, IntKind.max, IntKind.bits, IntKind.signed] using h
theorem wf_u16 {n : Int} (h : (Lit.int .u16 n).wf = true) : 0 ≤ n ∧ n ≤ 65535 := by
  simpa [Lit.wf, IntKind.min, IntKind.max, IntKind.bits, IntKind.signed] using h
theorem wf_u8 {n : Int} (h : (Lit.int .u8 n).wf = true) : 0 ≤ n ∧ n ≤ 255 := by
  simpa [Lit.wf, IntKind.min, IntKind.max, IntKind.bits, IntKind.signed] using h
end Go.Proofs.YtaheiolbeiofpaaGreatDoor
