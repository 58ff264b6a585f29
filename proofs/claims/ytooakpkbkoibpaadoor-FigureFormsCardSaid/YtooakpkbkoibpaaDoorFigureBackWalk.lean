/-
  The walk of the law FigureBack: it returns true.
-/
import Derived.Test.YtooakpkbkoibpaaDoorFigAwake
import Derived.Test.YtooakpkbkoibpaaDoorLawKit
import Derived.Test.YtooakpkbkoibpaaDoorFigureNamesWalk
namespace Go.Proofs.YtooakpkbkoibpaaDoor
open Go.RowKit

theorem val_dec (u : Nat) : Fig.val (Lib.decDigits u) = u := by
  induction u using Nat.strongRecOn with
  | ind u ih =>
    by_cases h : u < 10
    · rw [Lib.decDigits, dif_pos h]
      simp [Fig.val]; omega
    · rw [Lib.decDigits, dif_neg h, Fig.val_snoc, ih (u / 10) (by omega)]
      simp; omega
theorem dec_head (u : Nat) (h : 1 ≤ u) : (Lib.decDigits u).head? ≠ some 48 := by
  induction u using Nat.strongRecOn with
  | ind u ih =>
    by_cases h1 : u < 10
    · rw [Lib.decDigits, dif_pos h1]
      simp
      intro hc
      have := congrArg UInt8.toNat hc
      simp at this
      omega
    · have hp := dec_pos (u / 10)
      rw [Lib.decDigits, dif_neg h1]
      have := ih (u / 10) (by omega) (by omega)
      cases hd : Lib.decDigits (u / 10) with
      | nil => rw [hd] at hp; simp at hp
      | cons x xs => rw [hd] at this; simpa using this
theorem dec_pad (u : Nat) : Fig.pad (Lib.decDigits u) = false := by
  by_cases h : 1 ≤ u
  · rw [Fig.pad, Bool.and_eq_false_iff]
    exact Or.inr (by simpa using dec_head u h)
  · obtain rfl : u = 0 := by omega
    rw [Lib.decDigits, dif_pos (by omega)]; rfl
theorem dec_form (u : Nat) (h : u < 10000000000000) : Fig.form (Lib.decDigits u) = true := by
  have h1 := dec_pos u
  have h2 := dec_len 12 u (by simpa using h)
  rw [Fig.form, dec_pad, dec_dig]
  simp; omega
theorem parse_dec (u : Nat) (m : Int) (h : u < 10000000000000) : Fig.parseB (Lib.decDigits u) m = decide ((u : Int) ≤ m) ∧ Fig.parseN (Lib.decDigits u) m = if (u : Int) ≤ m then (u : Int) else 0 := by
  simp [Fig.parseB, Fig.parseN, dec_form u h, val_dec]

theorem dig_back {c : UInt8} (h : Fig.dig c = true) : UInt8.ofNat (48 + ((c.toNat : Int) - 48).toNat) = c := by
  have := dig_bd h
  apply UInt8.toNat_inj.mp
  rw [UInt8.toNat_ofNat']
  omega
theorem back_rev : ∀ (r : List UInt8), r ≠ [] → r.all Fig.dig = true → r.reverse.head? ≠ some 48 → 1 ≤ Fig.val r.reverse ∧ Lib.decDigits (Fig.val r.reverse).toNat = r.reverse := by
  intro r
  induction r with
  | nil => intro h; exact absurd rfl h
  | cons c r ih =>
    intro _ hd hh
    simp only [List.all_cons, Bool.and_eq_true] at hd
    have hb := dig_bd hd.1
    rw [List.reverse_cons, Fig.val_snoc]
    cases r with
    | nil =>
      have hc : c ≠ 48 := by simpa using hh
      have hc2 : c.toNat ≠ 48 := by
        intro h; apply hc; exact UInt8.toNat_inj.mp h
      have hv : Fig.val ([] : List UInt8).reverse = 0 := rfl
      rw [hv]
      refine ⟨by omega, ?_⟩
      rw [Lib.decDigits, dif_pos (by omega)]
      have := dig_back hd.1
      simp only [List.reverse_nil, List.nil_append]
      rw [show (10 * 0 + ((c.toNat : Int) - 48)).toNat = ((c.toNat : Int) - 48).toNat by omega, this]
    | cons x xs =>
      have h2 := ih (by simp) hd.2 (by
        intro h; apply hh
        rw [List.reverse_cons]
        cases hx : (x :: xs).reverse with
        | nil => simp at hx
        | cons y ys => rw [hx] at h; simpa using h)
      refine ⟨by omega, ?_⟩
      rw [Lib.decDigits, dif_neg (by omega)]
      rw [show (10 * Fig.val (x :: xs).reverse + ((c.toNat : Int) - 48)).toNat / 10 = (Fig.val (x :: xs).reverse).toNat by omega, h2.2]
      rw [show (10 * Fig.val (x :: xs).reverse + ((c.toNat : Int) - 48)).toNat % 10 = ((c.toNat : Int) - 48).toNat by omega, dig_back hd.1]
theorem form_back (l : List UInt8) (h : Fig.form l = true) : Lib.decDigits (Fig.val l).toNat = l := by
  simp only [Fig.form, Bool.and_eq_true, decide_eq_true_eq, Bool.not_eq_true'] at h
  obtain ⟨⟨⟨h1, _⟩, hp⟩, hd⟩ := h
  by_cases h48 : l.head? = some 48
  · have hl : ¬ 1 < l.length := by
      intro hl
      rw [Fig.pad, h48, show decide (1 < l.length) = true from decide_eq_true hl] at hp
      exact absurd hp (by decide)
    match l, h1, hl, h48 with
    | [c], _, _, h48 =>
      obtain rfl : c = 48 := by simpa using h48
      rw [show Fig.val [48] = 0 from rfl, Lib.decDigits, dif_pos (by decide)]; rfl
    | _ :: _ :: _, _, hl, _ => simp at hl
    | [], h1, _, _ => simp at h1
  · have := (back_rev l.reverse (by intro h; rw [List.reverse_eq_nil_iff] at h; subst h; simp at h1) (by simpa using hd) (by simpa using h48)).2
    simpa using this
theorem parse_of (s : ByteArray) (most n : Int) (b : Bool) (hs : s.size ≤ maxLen) (hn : Fig.parseN s.data.toList most = n) (hb : Fig.parseB s.data.toList most = b) (w : World) :
    Calls Tryd.prog 8 #[.string s, .int .i64 most] w fun e w' => e = .returned (.tuple #[.int .i64 n, .bool b]) ∧ w = w' := by
  subst hn hb; exact parse_any s most w hs
theorem dec_size (u : Nat) (h : u < 10000000000000) : (⟨(Lib.decDigits u).toArray⟩ : ByteArray).size ≤ maxLen := by
  have := dec_len 12 u (by simpa using h)
  show (Lib.decDigits u).toArray.size ≤ _
  unfold maxLen; simp; omega
/-- What is read of any text, where at most ten billions times a thousand may be. -/
theorem parse_text (s : ByteArray) : (Fig.parseB s.data.toList 10000000000000 = false) ∨ (Fig.parseB s.data.toList 10000000000000 = true ∧ 0 ≤ Fig.parseN s.data.toList 10000000000000 ∧ Fig.parseN s.data.toList 10000000000000 ≤ 10000000000000 ∧ (⟨(Lib.decDigits (Fig.parseN s.data.toList 10000000000000).toNat).toArray⟩ : ByteArray) = s) := by
  cases h : Fig.parseB s.data.toList 10000000000000 with
  | false => exact Or.inl rfl
  | true =>
    refine Or.inr ⟨rfl, ?_⟩
    have hN : Fig.parseN s.data.toList 10000000000000 = Fig.val s.data.toList := by rw [Fig.parseN, if_pos h]
    rw [Fig.parseB, Bool.and_eq_true, decide_eq_true_eq] at h
    have hb := form_back _ h.1
    have hd : s.data.toList.all Fig.dig = true := by
      have := h.1
      rw [Fig.form, Bool.and_eq_true] at this
      exact this.2
    have := Fig.val_bd _ hd
    rw [hN, hb]
    exact ⟨by omega, h.2, by simp⟩

set_option maxHeartbeats 1000000 in
theorem figureBack_walk (n m : Int) (s : ByteArray) (W : World) (wn : (Lit.int .u64 n).wf = true) (wm : (Lit.int .u64 m).wf = true) (ws : s.size ≤ maxLen)
    (htab : Lib.TabIs Tryd.prog W "internal/strconv.uint64pow10" .u64 Lib.pow10Tab) :
    Calls Tryd.prog 4 #[.int .u64 n, .int .u64 m, .string s] W fun e w' => e = .returned (.bool true) ∧ Below W.heap.size W w' := by
  have bn := wf_u64 wn
  have bm := wf_u64 wm
  unfold maxLen at ws
  have A := Lib.hid (fun w h => awake_any w h)
  have T := Lib.hid htab
  clear htab wn wm
  by_cases hl : 100 < s.size
  · have h1 : decide (100 < (s.size : Int)) = true := dec_t (by omega)
    clear hl bn bm
    go_enter Tryd.func4, Tryd.ntmps4
    go_wp2_with (go_at_call 7; refine (A.out _ T.out).mono ?_; rintro e w' ⟨rfl, hb⟩)
    go_ret
    exact ⟨rfl, hb⟩
  · have h1 : decide (100 < (s.size : Int)) = false := dec_f (by omega)
    have q1 : 0 ≤ n % 10000000000000 := by omega
    have q2 : n % 10000000000000 < 10000000000000 := by omega
    have hk : ((n % 10000000000000).toNat : Int) = n % 10000000000000 := by omega
    have hp := parse_dec (n % 10000000000000).toNat (m / 2) (by omega)
    rw [hk] at hp
    have hsz := dec_size (n % 10000000000000).toNat (by omega)
    have hs' : s.size ≤ maxLen := by unfold maxLen; omega
    have both : ∃ k : Int, ∃ b : Bool, Fig.parseN (Lib.decDigits (n % 10000000000000).toNat) (m / 2) = k ∧ Fig.parseB (Lib.decDigits (n % 10000000000000).toNat) (m / 2) = b ∧
        ((b = true ∧ decide (n % 10000000000000 ≤ m / 2) = true ∧ k = n % 10000000000000) ∨ (b = false ∧ decide (n % 10000000000000 ≤ m / 2) = false ∧ k = 0)) := by
      refine ⟨_, _, rfl, rfl, ?_⟩
      rw [hp.1, hp.2]
      by_cases h : n % 10000000000000 ≤ m / 2
      · exact Or.inl ⟨dec_t h, dec_t h, if_pos h⟩
      · exact Or.inr ⟨dec_f h, dec_f h, if_neg h⟩
    obtain ⟨k, b, hkN, hkB, hkb⟩ := both
    have C1 := Lib.hid (parse_of _ (m / 2) k b hsz hkN hkB)
    rcases parse_text s with h2 | ⟨h2, h3, h4, h5⟩
    · have C2 := Lib.hid (parse_of s 10000000000000 0 false hs' (by rw [Fig.parseN, h2]; rfl) h2)
      clear hk hp hsz hs' hkN hkB h2 hl
      rcases hkb with ⟨rfl, hle, rfl⟩ | ⟨rfl, hle, rfl⟩
      all_goals
        go_enter Tryd.func4, Tryd.ntmps4
        go_wp2_with fail
        refine (print_any (n % 10000000000000) _ q1 (by omega) T.out).mono ?_; rintro e w1 ⟨rfl, hb1⟩
        have T1 := Lib.hid (Lib.tabBelow_of_tabIs T.out _ hb1)
        go_wp2_with fail
        refine (C1.out _).mono ?_; rintro e w' ⟨rfl, rfl⟩
        go_wp2_with fail
        refine (C2.out _).mono ?_; rintro e w' ⟨rfl, rfl⟩
        go_wp2_with fail
        refine (A.out _ T1.out).mono ?_; rintro e w2 ⟨rfl, hb2⟩
        have T2 := Lib.hid (Lib.tabBelow_of_tabIs T1.out _ hb2)
        have hb := hb1.trans (hb2.mono hb1.size)
        have hz := hb1.size
        have hz2 := hb2.size
        clear hb1 hb2
        go_wp2_with fail
        go_ret
        exact ⟨rfl, hb⟩
    · obtain ⟨v, hv⟩ : ∃ v, v = Fig.parseN s.data.toList 10000000000000 := ⟨_, rfl⟩
      rw [← hv] at h3 h4 h5
      have C2 := Lib.hid (parse_of s 10000000000000 v true hs' hv.symm h2)
      have C3 := Lib.hid (fun w h => print_c v s h3 (by omega) h5 w h)
      clear hk hp hsz hs' hkN hkB h2 hl hv h5
      rcases hkb with ⟨rfl, hle, rfl⟩ | ⟨rfl, hle, rfl⟩
      all_goals
        go_enter Tryd.func4, Tryd.ntmps4
        go_wp2_with fail
        refine (print_any (n % 10000000000000) _ q1 (by omega) T.out).mono ?_; rintro e w1 ⟨rfl, hb1⟩
        have T1 := Lib.hid (Lib.tabBelow_of_tabIs T.out _ hb1)
        go_wp2_with fail
        refine (C1.out _).mono ?_; rintro e w' ⟨rfl, rfl⟩
        go_wp2_with fail
        refine (C2.out _).mono ?_; rintro e w' ⟨rfl, rfl⟩
        go_wp2_with fail
        refine (A.out _ T1.out).mono ?_; rintro e w2 ⟨rfl, hb2⟩
        have T2 := Lib.hid (Lib.tabBelow_of_tabIs T1.out _ hb2)
        have hb := hb1.trans (hb2.mono hb1.size)
        have hz := hb1.size
        have hz2 := hb2.size
        clear hb1 hb2
        go_wp2_with fail
        refine (C3.out _ T2.out).mono ?_; rintro e w3 ⟨rfl, hb3⟩
        go_wp2_with fail
        go_ret
        exact ⟨rfl, hb.trans (hb3.mono (by omega))⟩
end Go.Proofs.YtooakpkbkoibpaaDoor
