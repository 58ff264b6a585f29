/-
  Texts of this claim, merged: SmCat, PkSpec, PkMem.
-/
import Derived.Test.YtehniclicjoiiaaMg01
import Derived.Deep.CutRange
import Derived.Deep.RegionHeld3
import Derived.Deep.RegionWith
import Derived.Lib.AppendStr
import Derived.Lib.AppendZeros
import Derived.Lib.IndexLaws
/-
  The walks of the library's functions over bytes that layer 16 calls: bytes.Equal, bytes.Clone, slices.Grow, slices.Concat.
-/
namespace Go.Proofs.Ytehniclicjoiiaa
open Go.RowKit

theorem own_low {w : World} {base b0 : Nat} {e : TypeId} {size : Nat} {v : Value} {n : Nat} {xs : List Value} (h : w.ownsRow base e size v n xs) (hb : b0 ≤ base) : w.ownsRow b0 e size v n xs := by
  refine ⟨h.1, h.2.imp id ?_⟩
  rintro ⟨g, cap, cur, h1, h2, h3⟩
  exact ⟨g, cap, cur, h1, Nat.le_trans hb h2, h3⟩
theorem own_bytes0 (w : World) {g base : Nat} (hg : w.heap.size = g) (hb : base ≤ g := by simp) : (w.alloc (.cells #[] 5)).ownsRow base 5 LBt.m (.slice (some ⟨g, 0, none⟩) 0 0) 0 [] := by
  subst hg
  exact ⟨rfl, .inr ⟨w.heap.size, 0, #[], rfl, hb, heap_alloc_new _ _, Nat.le_refl _, by unfold maxLen; omega, rfl, rfl⟩⟩
/-- A slice of the call's own, empty, with room or none. -/
def BtGrown (w : World) (e : Ending) (w' : World) : Prop := ∃ v, e = .returned v ∧ w'.ownsRow w.heap.size 5 1 v 0 [] ∧ Below w.heap.size w w'
set_option maxHeartbeats 4000000 in
set_option maxRecDepth 100000 in
theorem spGrow_any (n : Nat) (w : World) (hl : n ≤ 1000000) :
    Calls Try.prog 20 #[.slice none 0 0, .int .i64 n] w (BtGrown w) := by
  --[
  rcases Nat.eq_zero_or_pos n with rfl | h0
  · have HB := Lib.hid (Below.refl w.heap.size w)
    go_enter Try.func20, Try.ntmps20
    go_wp2_with fail
    go_ret
    exact ⟨_, rfl, ⟨rfl, .inl ⟨rfl, rfl⟩⟩, HB.out⟩
  obtain ⟨i0, hi, hz0, hz1, hz2⟩ := info_parts infoBt
  have hr := fun ty => Lib.run_append_nil_zeros (P := Try.prog) w 22 3 ty 5 i0 (.int .u8 0) .i64 .i64 Try.underlying22 Try.underlying3 hi hz0 n h0 (by omega) (by omega) (by rw [hz2]; omega)
  have hge := grownCap_ge w n 0 5
  have hmx := grownCap_le_maxLen w n 0 5 (by unfold maxLen; omega)
  generalize grownCap w n 0 5 = G at hr hge hmx
  have hsz : (Builtin.zeroCells (Value.int .u8 0).cells n ++ Builtin.zeroCells (Value.int .u8 0).cells (G - n)).size = G * 1 := by
    rw [Array.size_append, size_zeroCells, size_zeroCells, show (Value.int .u8 0).cells.size = 1 from rfl, ← Nat.add_mul]
    congr 1; omega
  generalize Builtin.zeroCells (Value.int .u8 0).cells n ++ Builtin.zeroCells (Value.int .u8 0).cells (G - n) = Z at hr hsz
  have HB := Lib.hid ((Below.refl w.heap.size w).drew.alloc (Nat.le_refl _) (.cells Z 5))
  have HO := Lib.hid (show (w.drew.alloc (.cells Z 5)).ownsRow w.heap.size 5 1 (.slice (some ⟨w.heap.size, 0, none⟩) 0 G) 0 [] from
    ⟨rfl, .inr ⟨w.heap.size, G, Z, rfl, Nat.le_refl _, heap_alloc_new w.drew _, Nat.zero_le _, hmx, hsz, by simp⟩⟩)
  have D1 : decide ((n : Int) < 0) = false := dec_f (by omega)
  have D2 : decide ((0 : Int) < (n : Int)) = true := dec_t (by omega)
  have HG : (G : Int) ≤ 9223372036854775807 := by unfold maxLen at hmx; omega
  clear hsz hmx hz1 hz2 hi
  go_enter Try.func20, Try.ntmps20
  go_wp2_with (at_builtin; refine Lib.wpList_append_run _ rfl _ _ _ _ rfl _ _ rfl rfl _ _ (hr _) ?_)
  go_ret
  exact ⟨_, rfl, HO.out, HB.out⟩
  --]
/-- The first rows of some, one behind the other. -/
def Sm.catTo (Ls : Nat → List Nat) : Nat → List Nat
  | 0 => []
  | k + 1 => Sm.catTo Ls k ++ Ls k
theorem Sm.catTo_len (Ls : Nat → List Nat) : ∀ {k m : Nat}, k ≤ m → (Sm.catTo Ls k).length ≤ (Sm.catTo Ls m).length
  | k, 0, h => by obtain rfl : k = 0 := by omega
                  exact Nat.le_refl _
  | k, m + 1, h => by
    rcases Nat.lt_or_ge m k with h2 | h2
    · obtain rfl : k = m + 1 := by omega
      exact Nat.le_refl _
    · have := Sm.catTo_len Ls h2
      rw [show Sm.catTo Ls (m + 1) = Sm.catTo Ls m ++ Ls m from rfl, List.length_append]
      omega
set_option maxHeartbeats 8000000 in
set_option maxRecDepth 100000 in
theorem spConcat_any (m : Nat) (g : Nat) (As : Nat → Option Addr) (cs : Nat → Nat) (Ls : Nat → List Nat) (w : World) (hg : g < w.heap.size)
    (hC : ∀ k, k < m → w.cell? ⟨g, k, none⟩ = some (.slice (As k) (Ls k).length (cs k))) (hR : ∀ k, k < m → LBt.Row w (As k) (Ls k)) (hm : m ≤ 1000) (hl : (Sm.catTo Ls m).length ≤ 1000000) :
    Calls Try.prog 18 #[.slice (some ⟨g, 0, none⟩) m m] w (BtOwn (Sm.catTo Ls m) w) := by
  --[
  have B0 := Lib.hid (Below.refl w.heap.size w)
  have KC := Lib.hid (fun W (hW : Below w.heap.size w W) k (hk : k < m) => (hW.cell (p := ⟨g, k, none⟩) hg).trans (hC k hk))
  have KR := Lib.hid (fun W (hW : Below w.heap.size w W) k (hk : k < m) => (hR k hk).below rfl hW)
  have KL := Lib.hid (fun k (hk : k ≤ m) => Sm.catTo_len Ls hk)
  clear hC hR
  obtain ⟨i0, hi, hz0, hz1, hz2⟩ := info_parts infoBt
  go_enter Try.func18, Try.ntmps18
  go_wp2_with fail
  go_loopw [3, 5, 11] (fun v1 _ v2 w' => ∃ k : Nat, k ≤ m ∧ v1 = .int .i64 ((Sm.catTo Ls k).length : Int) ∧ v2 = .int .i64 k ∧ Below w.heap.size w w') (fun _ _ v2 _ => m - (intOf v2).toNat)
  case atStart => exact ⟨0, Nat.zero_le _, rfl, rfl, B0.out⟩
  case round =>
    obtain ⟨k, hk, rfl, rfl, hb⟩ := hrel
    have HB := Lib.hid hb
    clear hb
    by_cases hlt : k < m
    · have c0 := KC.out _ HB.out k hlt
      have hk1 := KL.out (k + 1) hlt
      have hk0 := KL.out k hk
      have HL := Lib.hid (show (Sm.catTo Ls (k + 1)).length = (Sm.catTo Ls k).length + (Ls k).length from by rw [show Sm.catTo Ls (k + 1) = Sm.catTo Ls k ++ Ls k from rfl, List.length_append])
      have d1 : decide ((k : Int) < (m : Int)) = true := dec_t (by omega)
      have i0 : (0 : Int) ≤ (k : Int) := Int.natCast_nonneg k
      have i1 : (k : Int) < (m : Int) := by omega
      have q : IntKind.i64.wrap (((Sm.catTo Ls k).length : Int) + ((Ls k).length : Int)) = ((Sm.catTo Ls (k + 1)).length : Int) := by
        have := HL.out
        rw [IntWalk.i64_in _ (by omega)]; omega
      have D2 : decide (((Sm.catTo Ls (k + 1)).length : Int) < 0) = false := dec_f (by omega)
      clear hk1 hk0
      go_wp2_with fail
      go_roundw
      case rel => exact ⟨k + 1, by omega, rfl, by go_num, HB.out⟩
      case measure => simp [intOf]; omega
    · obtain rfl : k = m := by omega
      have d1 : decide ((k : Int) < (k : Int)) = false := dec_f (by omega)
      have CG := Lib.hid (spGrow_any (Sm.catTo Ls k).length wr hl)
      go_wp2_with fail
      refine CG.out.mono ?_; rintro e w2 ⟨v0, rfl, ho, hb2⟩
      have O2 := Lib.hid (show w2.ownsRow wr.heap.size 5 1 v0 (Sm.catTo Ls 0).length (LBt.all (Sm.catTo Ls 0)) from ho)
      have B2 := Lib.hid (HB.out.trans (hb2.mono HB.out.size))
      have S2 := Lib.hid hb2.size
      have SZ := Lib.hid HB.out.size
      clear ho hb2 CG
      go_wp2_with fail
      generalize wr.heap.size = base at O2 S2 SZ ⊢
      go_loopw [6, 8, 27] (fun v1 _ v2 w' => ∃ j : Nat, j ≤ k ∧ v2 = .int .i64 j ∧ w'.ownsRow base 5 1 v1 (Sm.catTo Ls j).length (LBt.all (Sm.catTo Ls j)) ∧ base ≤ w'.heap.size ∧ Below w.heap.size w w') (fun _ _ v2 _ => k - (intOf v2).toNat)
      case atStart => exact ⟨0, Nat.zero_le _, rfl, O2.out, S2.out, B2.out⟩
      case round =>
        obtain ⟨j, hj, rfl, ho, hs, hb⟩ := hrel
        have HO := Lib.hid ho
        have HB3 := Lib.hid hb
        have HS3 := Lib.hid hs
        clear ho hb hs
        by_cases hjt : j < k
        · have c0 := KC.out _ HB3.out j hjt
          have hk1 := KL.out (j + 1) hjt
          have HL := Lib.hid (show (Sm.catTo Ls (j + 1)).length = (Sm.catTo Ls j).length + (Ls j).length from by rw [show Sm.catTo Ls (j + 1) = Sm.catTo Ls j ++ Ls j from rfl, List.length_append])
          have HE := Lib.hid (show LBt.all (Sm.catTo Ls (j + 1)) = LBt.all (Sm.catTo Ls j) ++ LBt.all (Ls j) from by rw [show Sm.catTo Ls (j + 1) = Sm.catTo Ls j ++ Ls j from rfl, LBt.all_append])
          have hsum : (Sm.catTo Ls j).length + (Ls j).length ≤ 1000000 := by have := HL.out; omega
          have d1 : decide ((j : Int) < (k : Int)) = true := dec_t (by omega)
          have i0' : (0 : Int) ≤ (j : Int) := Int.natCast_nonneg j
          have i1 : (j : Int) < (k : Int) := by omega
          clear hk1
          go_wp2_with (at_builtin; refine wpList_append_at LBt rfl (.tmp 31) (.tmp 32) 22 rfl base 5 i0 _ 1 Try.underlying22 hi hz0 hz1 hz2 rfl _ (Sm.catTo Ls j).length (LBt.all (Sm.catTo Ls j)) rfl HO.out (As j) (Ls j).length (cs j) (Ls j) rfl rfl (KR.out _ HB3.out j hjt) (by omega) (by omega) HS3.out ?_; intro v4 w4 hown4 hg4)
          have HB4 := Lib.hid (Below.grown HB3.out hg4 HB3.out.size (fun b hb => Nat.le_trans SZ.out (HO.out.lt b hb).1))
          have HS4 := Lib.hid (Nat.le_trans HS3.out hg4.size)
          have HO4 := Lib.hid (show w4.ownsRow base 5 1 v4 (Sm.catTo Ls (j + 1)).length (LBt.all (Sm.catTo Ls (j + 1))) from by rw [HL.out, HE.out]; exact hown4)
          clear hown4 hg4
          go_wp2_with fail
          go_roundw
          case rel => exact ⟨j + 1, by omega, by go_num, HO4.out, HS4.out, HB4.out⟩
          case measure => simp [intOf]; omega
        · obtain rfl : j = k := by omega
          have d1 : decide ((j : Int) < (j : Int)) = false := dec_f (by omega)
          go_wp2_with fail
          go_ret
          exact ⟨_, rfl, own_low HO.out SZ.out, HB3.out⟩
  --]
theorem spConcat2 (A : Option Addr) (c : Nat) (L : List Nat) (B : Option Addr) (d : Nat) (M : List Nat) (g : Nat) (w : World) (hg : g < w.heap.size) (h0 : w.cell? ⟨g, 0, none⟩ = some (.slice A L.length c)) (h1 : w.cell? ⟨g, 1, none⟩ = some (.slice B M.length d))
    (hL : LBt.Row w A L) (hM : LBt.Row w B M) (hl : (L ++ M).length ≤ 1000000) : Calls Try.prog 18 #[.slice (some ⟨g, 0, none⟩) 2 2] w (BtOwn (L ++ M) w) := by
  have e : Sm.catTo (fun k => if k = 0 then L else M) 2 = L ++ M := by
    show ([] ++ L) ++ M = _
    rw [List.nil_append]
  have := spConcat_any 2 g (fun k => if k = 0 then A else B) (fun k => if k = 0 then c else d) (fun k => if k = 0 then L else M) w hg (fun k hk => ?_) (fun k hk => ?_) (by decide) (by rw [e]; exact hl)
  · rwa [e] at this
  · match k, hk with
    | 0, _ => exact h0
    | 1, _ => exact h1
  · match k, hk with
    | 0, _ => exact hL
    | 1, _ => exact hM
theorem spConcat3 (A : Option Addr) (c : Nat) (L : List Nat) (B : Option Addr) (d : Nat) (M : List Nat) (C : Option Addr) (f : Nat) (K : List Nat) (g : Nat) (w : World) (hg : g < w.heap.size) (h0 : w.cell? ⟨g, 0, none⟩ = some (.slice A L.length c)) (h1 : w.cell? ⟨g, 1, none⟩ = some (.slice B M.length d))
    (h2 : w.cell? ⟨g, 2, none⟩ = some (.slice C K.length f)) (hL : LBt.Row w A L) (hM : LBt.Row w B M) (hK : LBt.Row w C K) (hl : (L ++ M ++ K).length ≤ 1000000) : Calls Try.prog 18 #[.slice (some ⟨g, 0, none⟩) 3 3] w (BtOwn (L ++ M ++ K) w) := by
  have e : Sm.catTo (fun k => if k = 0 then L else if k = 1 then M else K) 3 = L ++ M ++ K := by
    show (([] ++ L) ++ M) ++ K = _
    rw [List.nil_append]
  have := spConcat_any 3 g (fun k => if k = 0 then A else if k = 1 then B else C) (fun k => if k = 0 then c else if k = 1 then d else f) (fun k => if k = 0 then L else if k = 1 then M else K) w hg (fun k hk => ?_) (fun k hk => ?_) (by decide) (by rw [e]; exact hl)
  · rwa [e] at this
  · match k, hk with
    | 0, _ => exact h0
    | 1, _ => exact h1
    | 2, _ => exact h2
  · match k, hk with
    | 0, _ => exact hL
    | 1, _ => exact hM
    | 2, _ => exact hK
end Go.Proofs.Ytehniclicjoiiaa
/-
  Plain facts on numbers and texts in bytes, for layer 17. No program is named here.
-/
namespace Go.Proofs.Ytehniclicjoiiaa.Pk

/-- A number's lowest bytes, the highest of them first. -/
def low : Nat → Nat → List Nat
  | _, 0 => []
  | n, s + 1 => (n / 256 ^ s % 256) :: low n s
def val (l : List Nat) : Nat := l.foldl (fun n x => n * 256 + x) 0
def put (b : List Nat) (n s : Nat) : List Nat := b ++ low n s
def name (b t : List Nat) : List Nat := put b t.length 1 ++ t
/-- Are so many bytes there? -/
def fits (B : List Nat) (p : Int) (bad : Bool) (s : Nat) : Bool := !bad && decide (0 ≤ p ∧ p + s ≤ B.length)
def got (B : List Nat) (p : Int) (s : Nat) : List Nat := (B.drop p.toNat).take s
def num (B : List Nat) (p : Int) (bad : Bool) (s : Nat) : Nat := if fits B p bad s = true then val (got B p s) else 0
def numAt (B : List Nat) (p : Int) (bad : Bool) (s : Nat) : Int := if fits B p bad s = true then p + s else p
/-- Is a text there? -/
def fitsT (B : List Nat) (p : Int) (bad : Bool) : Bool := fits B p bad 1 && decide (p + 1 + num B p bad 1 ≤ B.length)
def text (B : List Nat) (p : Int) (bad : Bool) : List Nat := if fitsT B p bad = true then got B (p + 1) (num B p bad 1) else []
def textAt (B : List Nat) (p : Int) (bad : Bool) : Int := if fitsT B p bad = true then p + 1 + num B p bad 1 else p

theorem low_len (n s : Nat) : (low n s).length = s := by
  induction s with
  | zero => rfl
  | succ s ih => show (low n s).length + 1 = s + 1; rw [ih]
theorem low_bytes (n s : Nat) : Sm.Bytes (low n s) := by
  induction s with
  | zero => intro x hx; cases hx
  | succ s ih =>
    intro x hx
    rcases List.mem_cons.1 hx with rfl | hx
    · exact Nat.mod_lt _ (by decide)
    · exact ih x hx
theorem fold_low (n s a : Nat) : (low n s).foldl (fun n x => n * 256 + x) a = a * 256 ^ s + n % 256 ^ s := by
  induction s generalizing a with
  | zero => show a = a * 1 + n % 1; omega
  | succ s ih =>
    show (low n s).foldl _ (a * 256 + n / 256 ^ s % 256) = _
    rw [ih, Nat.mod_pow_succ, Nat.pow_succ, Nat.add_mul, Nat.mul_assoc, Nat.mul_comm 256, Nat.add_assoc]
    congr 1
    rw [Nat.add_comm, Nat.mul_comm (n / 256 ^ s % 256)]
theorem val_low (n s : Nat) : val (low n s) = n % 256 ^ s := by
  unfold val
  rw [fold_low, Nat.zero_mul, Nat.zero_add]
theorem val_lt {l : List Nat} (h : Sm.Bytes l) : val l < 256 ^ l.length := by
  have : ∀ (l : List Nat) (a k : Nat), Sm.Bytes l → a < 256 ^ k → l.foldl (fun n x => n * 256 + x) a < 256 ^ (k + l.length) := by
    intro l
    induction l with
    | nil => intro a k _ ha; exact ha
    | cons x l ih =>
      intro a k hl ha
      have hx := hl x List.mem_cons_self
      have := ih (a * 256 + x) (k + 1) (fun y hy => hl y (List.mem_cons_of_mem _ hy)) (by rw [Nat.pow_succ]; omega)
      rw [List.length_cons, show k + (l.length + 1) = k + 1 + l.length by omega]
      exact this
  have h2 := this l 0 0 h (by decide)
  rw [Nat.zero_add] at h2
  exact h2
theorem val_take {l : List Nat} {k x : Nat} (h : l[k]? = some x) : val (l.take (k + 1)) = val (l.take k) * 256 + x := by
  unfold val
  rw [List.take_add_one, h, List.foldl_append]
  rfl
theorem put_len (b : List Nat) (n s : Nat) : (put b n s).length = b.length + s := by unfold put; rw [List.length_append, low_len]
theorem put_bytes {b : List Nat} (h : Sm.Bytes b) (n s : Nat) : Sm.Bytes (put b n s) := fun x hx => by
  rcases List.mem_append.1 hx with hx | hx
  · exact h x hx
  · exact low_bytes n s x hx
theorem name_len (b t : List Nat) : (name b t).length = b.length + 1 + t.length := by unfold name; rw [List.length_append, put_len]
theorem name_bytes {b t : List Nat} (h : Sm.Bytes b) (ht : Sm.Bytes t) : Sm.Bytes (name b t) := fun x hx => by
  rcases List.mem_append.1 hx with hx | hx
  · exact put_bytes h _ _ x hx
  · exact ht x hx
theorem fits_iff {B : List Nat} {p : Int} {bad : Bool} {s : Nat} : fits B p bad s = true ↔ bad = false ∧ 0 ≤ p ∧ p + s ≤ B.length := by
  unfold fits
  rw [Bool.and_eq_true, decide_eq_true_eq, Bool.not_eq_true']
theorem got_len {B : List Nat} {p : Int} {s : Nat} (h0 : 0 ≤ p) (h : p + s ≤ B.length) : (got B p s).length = s := by
  unfold got
  rw [List.length_take, List.length_drop]
  omega
theorem got_bytes {B : List Nat} (h : Sm.Bytes B) (p : Int) (s : Nat) : Sm.Bytes (got B p s) := (h.drop _).take _
theorem num_lt {B : List Nat} (h : Sm.Bytes B) (p : Int) (bad : Bool) (s : Nat) : num B p bad s < 256 ^ s := by
  unfold num
  split
  case isTrue hf =>
    obtain ⟨-, h0, h1⟩ := fits_iff.1 hf
    have := val_lt (got_bytes h p s)
    rwa [got_len h0 h1] at this
  case isFalse => exact Nat.pow_pos (by decide)
/-- What lies behind so many bytes. -/
theorem got_at (a l r : List Nat) : got (a ++ l ++ r) a.length l.length = l := by
  unfold got
  rw [Int.toNat_natCast, List.append_assoc, List.drop_left, List.take_left]
theorem num_at (a r : List Nat) (n s : Nat) : num (put a n s ++ r) a.length false s = n % 256 ^ s ∧ numAt (put a n s ++ r) a.length false s = ((put a n s).length : Nat) ∧ fits (put a n s ++ r) a.length false s = true := by
  have hf : fits (put a n s ++ r) a.length false s = true := fits_iff.2 ⟨rfl, Int.natCast_nonneg _, by rw [List.length_append, put_len]; omega⟩
  refine ⟨?_, ?_, hf⟩
  · unfold num
    rw [if_pos hf, ← val_low]
    congr 1
    have := got_at a (low n s) r
    rwa [low_len] at this
  · unfold numAt
    rw [if_pos hf, put_len]
    rfl
theorem text_at (a t r : List Nat) (h : t.length ≤ 255) : text (name a t ++ r) a.length false = t ∧ textAt (name a t ++ r) a.length false = ((name a t).length : Nat) ∧ fitsT (name a t ++ r) a.length false = true := by
  have e : name a t ++ r = put a t.length 1 ++ (t ++ r) := by unfold name; rw [List.append_assoc]
  obtain ⟨h1, h2, h3⟩ := num_at a (t ++ r) t.length 1
  rw [← e] at h1 h2 h3
  have h4 : t.length % 256 ^ 1 = t.length := Nat.mod_eq_of_lt (by show t.length < 256; omega)
  rw [h4] at h1
  have hf : fitsT (name a t ++ r) a.length false = true := by
    unfold fitsT
    rw [h3, h1, Bool.true_and, decide_eq_true_eq, List.length_append, name_len]
    omega
  refine ⟨?_, ?_, hf⟩
  · unfold text
    rw [if_pos hf, h1]
    have := got_at (put a t.length 1) t r
    rw [put_len] at this
    exact this
  · unfold textAt
    rw [if_pos hf, h1, name_len]
    omega
/-- The lowest bytes are the last of more of them. -/
theorem low_drop (n t s : Nat) : (low n (t + s)).drop t = low n s := by
  induction t with
  | zero => rw [Nat.zero_add, List.drop_zero]
  | succ t ih =>
    rw [show t + 1 + s = (t + s) + 1 by omega]
    exact ih
/-- A text is there just if its length and so many bytes are. -/
theorem fitsT_cut (B : List Nat) (p : Int) (bad : Bool) : fitsT B p bad = fits B p bad (1 + num B p bad 1) := by
  unfold fitsT
  rw [Bool.eq_iff_iff, Bool.and_eq_true, decide_eq_true_eq, fits_iff, fits_iff]
  exact ⟨fun ⟨⟨h1, h2, _⟩, h4⟩ => ⟨h1, h2, by omega⟩, fun ⟨h1, h2, h3⟩ => ⟨⟨h1, h2, by omega⟩, by omega⟩⟩
/-- The next bytes, or none. -/
def cut (B : List Nat) (p : Int) (bad : Bool) (s : Nat) : List Nat := if fits B p bad s = true then got B p s else []
theorem cut_len (B : List Nat) (p : Int) (bad : Bool) (s : Nat) : (cut B p bad s).length ≤ s ∧ (fits B p bad s = true → (cut B p bad s).length = s) := by
  unfold cut
  split
  case isTrue hf =>
    obtain ⟨-, h0, h1⟩ := fits_iff.1 hf
    rw [got_len h0 h1]
    exact ⟨Nat.le_refl _, fun _ => rfl⟩
  case isFalse hf => exact ⟨Nat.zero_le _, fun h => absurd h hf⟩
theorem cut_bytes {B : List Nat} (h : Sm.Bytes B) (p : Int) (bad : Bool) (s : Nat) : Sm.Bytes (cut B p bad s) := by
  unfold cut
  split
  · exact got_bytes h _ _
  · intro x hx; cases hx
theorem num_cut (B : List Nat) (p : Int) (bad : Bool) (s : Nat) : num B p bad s = val (cut B p bad s) := by
  unfold num cut
  split <;> rfl
theorem text_cut (B : List Nat) (p : Int) (bad : Bool) : text B p bad = (cut B p bad (1 + num B p bad 1)).drop 1 ∧ textAt B p bad = numAt B p bad (1 + num B p bad 1) := by
  unfold text textAt cut numAt
  rw [fitsT_cut]
  generalize hz : fits B p bad (1 + num B p bad 1) = z
  cases z
  · exact ⟨rfl, rfl⟩
  · obtain ⟨-, h0, h1⟩ := fits_iff.1 hz
    obtain ⟨m, rfl⟩ : ∃ m : Nat, p = (m : Int) := ⟨p.toNat, by omega⟩
    generalize num B (m : Int) bad 1 = N
    rw [if_pos rfl, if_pos rfl, if_pos rfl, if_pos rfl]
    refine ⟨?_, by omega⟩
    unfold got
    rw [show ((m : Int) + 1).toNat = m + 1 by omega, Int.toNat_natCast, List.drop_take, List.drop_drop, show 1 + N - 1 = N by omega]
/-- Numbers and texts, one behind the other. -/
def rows (N : List Nat) (T : List (List Nat)) : Nat → List Nat
  | 0 => []
  | k + 1 => name (put (rows N T k) (N.getD k 0) (1 + k % 8)) (T.getD k [])
/-- All of them begin with the first of them. -/
theorem rows_split (N : List Nat) (T : List (List Nat)) {k m : Nat} (h : k ≤ m) : ∃ r, rows N T m = rows N T k ++ r := by
  induction m with
  | zero => exact ⟨[], by rw [show k = 0 by omega, List.append_nil]⟩
  | succ m ih =>
    rcases Nat.lt_or_ge k (m + 1) with h2 | h2
    · obtain ⟨r, hr⟩ := ih (by omega)
      refine ⟨r ++ (low (N.getD m 0) (1 + m % 8) ++ low (T.getD m []).length 1 ++ T.getD m []), ?_⟩
      show name (put (rows N T m) _ _) _ = _
      unfold name put
      rw [hr]
      simp only [List.append_assoc]
    · exact ⟨[], by rw [show k = m + 1 by omega, List.append_nil]⟩
theorem rows_bytes {N : List Nat} {T : List (List Nat)} (hT : ∀ t ∈ T, Sm.Bytes t) (k : Nat) : Sm.Bytes (rows N T k) := by
  induction k with
  | zero => intro x hx; cases hx
  | succ k ih =>
    refine name_bytes (put_bytes ih _ _) ?_
    rw [List.getD_eq_getElem?_getD]
    cases hx : T[k]? with
    | none => intro x hx; cases hx
    | some y => exact hT y (List.mem_of_getElem? hx)
/-- The byte at a place, counted from the end: so many come behind it. -/
theorem low_at (n j t : Nat) : (low n (j + t + 1))[j]? = some (n / 256 ^ t % 256) := by
  induction j with
  | zero => rw [Nat.zero_add]; rfl
  | succ j ih =>
    rw [show j + 1 + t + 1 = (j + t + 1) + 1 by omega]
    show (_ :: low n (j + t + 1))[j + 1]? = _
    rw [List.getElem?_cons_succ, ih]
/-- A number and a text, one behind the other, among others. -/
theorem item_at (b t r : List Nat) (n s : Nat) (h : t.length ≤ 255) : (num (name (put b n s) t ++ r) b.length false s = n % 256 ^ s ∧ numAt (name (put b n s) t ++ r) b.length false s = ((put b n s).length : Nat) ∧ fits (name (put b n s) t ++ r) b.length false s = true) ∧
    text (name (put b n s) t ++ r) (put b n s).length false = t ∧ textAt (name (put b n s) t ++ r) (put b n s).length false = ((name (put b n s) t).length : Nat) ∧ fitsT (name (put b n s) t ++ r) (put b n s).length false = true := by
  refine ⟨?_, text_at (put b n s) t r h⟩
  have e : name (put b n s) t ++ r = put b n s ++ (low t.length 1 ++ (t ++ r)) := by
    show (put b n s ++ low t.length 1) ++ t ++ r = _
    simp only [List.append_assoc]
  rw [e]
  exact num_at b _ n s
theorem rows_le {N : List Nat} {T : List (List Nat)} {k : Nat} (h : ∀ i, i < k → (T.getD i []).length ≤ 255) : (rows N T k).length ≤ 264 * k := by
  induction k with
  | zero => exact Nat.le_refl _
  | succ k ih =>
    have h1 := ih fun i hi => h i (by omega)
    have h2 := h k (by omega)
    show (name (put _ _ _) _).length ≤ _
    rw [name_len, put_len]
    omega
end Go.Proofs.Ytehniclicjoiiaa.Pk
/-
  A cursor in memory: a block of three cells; what is kept beside it. No function of the program is named here.
-/
namespace Go.Proofs.Ytehniclicjoiiaa
open Go.RowKit

def curO (t : TypeId) (A : Option Addr) (n c : Nat) (p : Int) (bad : Bool) : Obj := .cells #[.slice A n c, .int .i64 p, .bool bad] t (0, 0)
/-- All but one block is kept. -/
def Kept (g : Nat) (w w' : World) : Prop := Below g w w' ∧ ∀ b, g < b → b < w.heap.size → w'.heap[b]? = w.heap[b]?
theorem Kept.refl (g : Nat) (w : World) : Kept g w w := ⟨Below.refl _ _, fun _ _ _ => rfl⟩
theorem Kept.block {g : Nat} {w w' : World} (h : Kept g w w') {b : Nat} (hb : b < w.heap.size) (hg : b ≠ g) : w'.heap[b]? = w.heap[b]? := by
  rcases Nat.lt_or_ge b g with h2 | h2
  · exact h.1.block b h2
  · exact h.2 b (by omega) hb
theorem Kept.trans {g : Nat} {w w' w'' : World} (h : Kept g w w') (h' : Kept g w' w'') : Kept g w w'' := ⟨h.1.trans h'.1, fun b hb hs => by
  have := h.1.size
  rw [h'.2 b hb (by omega), h.2 b hb hs]⟩
theorem Kept.drew {g : Nat} {w w' : World} (h : Kept g w w') : Kept g w w'.drew := ⟨h.1.drew, h.2⟩
theorem Kept.drewN {g : Nat} {w w' : World} (h : Kept g w w') (q : Nat) : Kept g w (w'.drewN q) := ⟨below_drewN h.1 q, h.2⟩
theorem Kept.set {g : Nat} {w w' : World} (h : Kept g w w') (i : Nat) (v : Value) : Kept g w (w'.setCell ⟨g, i, none⟩ v) := ⟨h.1.setCell (p := ⟨g, i, none⟩) (Nat.le_refl g) v, fun b hb hs => by
  rw [show (w'.setCell ⟨g, i, none⟩ v).heap[b]? = w'.heap[b]? from setCells_other g b (by omega) [v] i w', h.2 b hb hs]⟩
theorem Kept.below {g B : Nat} {W w w' : World} (h : Kept g w w') (hB : B ≤ g) (hb : Below B W w) : Below B W w' := hb.trans (h.1.mono hB)
theorem Kept.row {α : Type} {E : Lies α} {g : Nat} {w w' : World} (h : Kept g w w') {A : Option Addr} {L : List α} (hA : ∀ a, A = some a → L ≠ [] → a.block ≠ g) (hR : E.Row w A L) : E.Row w' A L := by
  by_cases hn : L = []
  · exact .inl hn
  rcases hR with hR | ⟨b, o, rfl, hb, hR⟩
  · exact .inl hR
  · have hs := h.1.size
    refine .inr ⟨b, o, rfl, by omega, fun k y hk j u hu => ?_⟩
    have := hR k y hk j u hu
    have e := h.block hb (hA _ rfl hn)
    unfold World.cell? at this ⊢
    simp only at this ⊢
    rw [e]
    exact this
/-- A row of bytes isn't a cursor's block. -/
theorem row_apart {t : TypeId} {A B : Option Addr} {n c : Nat} {p : Int} {bad : Bool} {w : World} {g : Nat} {L : List Nat} (h : LBt.Row w A L) (hg : w.heap[g]? = some (curO t B n c p bad)) : ∀ a, A = some a → L ≠ [] → a.block ≠ g := fun a ha hL e => by
  obtain ⟨b, o, h1, -, h3⟩ := bt_at h (List.length_pos_iff.2 hL)
  rw [ha] at h1
  cases h1
  subst e
  rw [cell_of_row _ _ _ _ _ _ hg] at h3
  match o, h3 with
  | 0, h3 => cases h3
  | 1, h3 => cases h3
  | 2, h3 => cases h3
  | o + 3, h3 => cases h3
/-- A new block, and what a call keeps that turns it: all that was there is kept. -/
theorem Kept.over {g : Nat} {w w1 : World} {o : Obj} (h : Kept w.heap.size (w.alloc o) w1) (hg : g < w.heap.size) : Kept g w w1 :=
  ⟨((Below.refl g w).alloc (by omega) o).trans (h.1.mono (by omega)), fun b _ hs => by rw [h.block (by simp; omega) (by omega), Below.heap_alloc w o b hs]⟩
/-- A block whose cells are bytes. -/
theorem row_of_block {w : World} {g : Nat} {L : List Nat} {t : TypeId} {fr : Nat × Nat} (h : w.heap[g]? = some (.cells (LBt.all L).toArray t fr)) : LBt.Row w (some ⟨g, 0, none⟩) L := by
  refine .inr ⟨g, 0, rfl, (Array.getElem?_eq_some_iff.1 h).1, fun k y hk j u hu => ?_⟩
  have hj : j < LBt.m := by
    have := (List.getElem?_eq_some_iff.1 hu).1
    rwa [LBt.len] at this
  rw [cell_of_row _ _ _ _ _ _ h, List.getElem?_toArray, show 0 + k * LBt.m + j = k * LBt.m + j by omega, LBt.all_at L k j y hk hj]
  exact hu
/-- What a call leaves that turns one cursor. -/
def CurIs (g : Nat) (o : Obj) (v : Value) (w : World) (e : Ending) (w' : World) : Prop := e = .returned v ∧ w'.heap[g]? = some o ∧ Kept g w w'
section
variable {t : TypeId} {A : Option Addr} {n c : Nat} {p : Int} {bad : Bool} {w : World} {g : Nat}
theorem cur_cells (h : w.heap[g]? = some (curO t A n c p bad)) : w.cell? ⟨g, 0, none⟩ = some (.slice A n c) ∧ w.cell? ⟨g, 1, none⟩ = some (.int .i64 p) ∧ w.cell? ⟨g, 2, none⟩ = some (.bool bad) :=
  ⟨by rw [cell_of_row w g 0 _ _ _ h]; rfl, by rw [cell_of_row w g 1 _ _ _ h]; rfl, by rw [cell_of_row w g 2 _ _ _ h]; rfl⟩
theorem cur_free (h : w.heap[g]? = some (curO t A n c p bad)) : w.frozen? ⟨g, 1, none⟩ = false ∧ w.frozen? ⟨g, 2, none⟩ = false := ⟨frozen_of_row w g 1 _ _ h, frozen_of_row w g 2 _ _ h⟩
theorem cur_at (h : w.heap[g]? = some (curO t A n c p bad)) (p' : Int) : (w.setCell ⟨g, 1, none⟩ (.int .i64 p')).heap[g]? = some (curO t A n c p' bad) := heap_setCell_same _ _ _ _ _ _ h
theorem cur_bad (h : w.heap[g]? = some (curO t A n c p bad)) (b : Bool) : (w.setCell ⟨g, 2, none⟩ (.bool b)).heap[g]? = some (curO t A n c p b) := heap_setCell_same _ _ _ _ _ _ h
end
/-- A text's bytes. -/
def sbytes (s : ByteArray) : List Nat := s.data.toList.map UInt8.toNat
theorem sbytes_len (s : ByteArray) : (sbytes s).length = s.size := by unfold sbytes; rw [List.length_map, Array.length_toList]; rfl
theorem sbytes_bytes (s : ByteArray) : Sm.Bytes (sbytes s) := fun x hx => by
  obtain ⟨b, -, rfl⟩ := List.mem_map.1 hx
  exact UInt8.toNat_lt b
theorem sbytes_cells (s : ByteArray) : Lib.strCells s = LBt.all (sbytes s) := by
  have : ∀ l : List UInt8, l.map (fun b => Value.int .u8 b.toNat) = LBt.all (l.map UInt8.toNat) := fun l => by
    induction l with
    | nil => rfl
    | cons b l ih => rw [List.map_cons, List.map_cons, LBt.all_cons, ← ih]; rfl
  exact this s.data.toList
theorem sbytes_text (s : ByteArray) : btext (sbytes s) = s := by
  have e : (sbytes s).map (fun x => UInt8.ofNat x) = s.data.toList := by
    unfold sbytes
    rw [List.map_map]
    conv => rhs; rw [← List.map_id s.data.toList]
    refine List.map_congr_left fun b _ => ?_
    show UInt8.ofNat b.toNat = b
    exact UInt8.ofNat_toNat
  show (⟨((bnums (sbytes s)).map fun n => UInt8.ofNat n.toNat).toArray⟩ : ByteArray) = s
  have e2 : (bnums (sbytes s)).map (fun n => UInt8.ofNat n.toNat) = (sbytes s).map (fun x => UInt8.ofNat x) := by
    unfold bnums
    rw [List.map_map]
    refine List.map_congr_left fun x _ => ?_
    show UInt8.ofNat ((x : Int).toNat) = _
    rw [Int.toNat_natCast]
  rw [e2, e]
/-- Numbers of 64 bits in memory. -/
def LLong : Lies Nat := ⟨1, by decide, fun x => [.int .u64 (x : Int)], fun _ => rfl, fun y u hu => by
  simp at hu
  subst hu; rfl⟩
theorem long_at {w : World} {A : Option Addr} {L : List Nat} (h : LLong.Row w A L) {k : Nat} (hk : k < L.length) : ∃ b o, A = some ⟨b, o, none⟩ ∧ b < w.heap.size ∧ w.cell? ⟨b, o + k, none⟩ = some (.int .u64 (L.getD k 0 : Nat)) := by
  obtain ⟨b, o, h1, h2, h3⟩ := h.at hk
  refine ⟨b, o, h1, h2, ?_⟩
  have : w.cell? ⟨b, o + k * LLong.m, none⟩ = some (.int .u64 ((L[k] : Nat) : Int)) := h3 0 _ rfl
  rw [show k * LLong.m = k from Nat.mul_one k] at this
  rw [this, List.getD_eq_getElem?_getD, List.getElem?_eq_getElem hk]
  rfl
/-- The lowest bits, by a mask. -/
theorem Pk.mask (N t : Nat) (h : t ≤ 63) (hN : N < 18446744073709551616) : (2 : Int) ^ t % 18446744073709551616 = ((2 ^ t : Nat) : Int) ∧ IntKind.u64.wrap ((2 : Int) ^ t) = ((2 ^ t : Nat) : Int) ∧
    IntKind.u64.wrap (((2 ^ t : Nat) : Int) - 1) = ((2 ^ t - 1 : Nat) : Int) ∧ (((2 ^ t : Nat) : Int) - 1) % 18446744073709551616 = ((2 ^ t - 1 : Nat) : Int) ∧ bits .and .u64 (N : Int) ((2 ^ t - 1 : Nat) : Int) = ((N % 2 ^ t : Nat) : Int) := by
  have h2 : (2 : Nat) ^ t ≤ 2 ^ 63 := Nat.pow_le_pow_right (by decide) h
  have h0 : 0 < (2 : Nat) ^ t := Nat.pow_pos (by decide)
  have e : ((2 : Int) ^ t) = ((2 ^ t : Nat) : Int) := by simp
  rw [e, IntKind.wrap_u64, IntKind.wrap_u64]
  refine ⟨by omega, by omega, by omega, by omega, ?_⟩
  rw [u64_and_nat _ _ hN (by omega), Nat.and_two_pow_sub_one_eq_mod]
theorem put_defers (a : Act) (d : Option Tmp) (v : Value) : (a.put d v).defers = a.defers := by cases d <;> rfl
theorem put_size (a : Act) (d : Option Tmp) (v : Value) : (a.put d v).tmps.size = a.tmps.size := by cases d <;> simp [Act.put]
/-- A return behind a region whose last act lays the result. -/
theorem post_put {P : Program} {fn : Func} {R : Ending → World → Prop} {a : Act} {d : Option Tmp} {v : Value} {t : Tmp} {w : World} (hr : fn.results = #[.tmp t]) (hd : d = some t) (hs : t < a.tmps.size) (hf : a.defers = []) (hR : R (.returned v) w) :
    bodyPost P fn R .ret (a.put d v) w := by
  subst hd
  refine bodyPost_ret (results_tmp hr _ _ _) (by rw [put_defers]; exact hf) ?_
  have e : (a.put (some t) v).tmps.getD t undef = v := by simp [Act.put, hs]
  rw [e]
  exact hR
end Go.Proofs.Ytehniclicjoiiaa
