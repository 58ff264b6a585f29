/-
  Texts of this claim, merged: PkPr.
-/
import Derived.Test.YtehniclicjoiiaaMg04
import Derived.Lib.ConvBytes
import Derived.Lib.SmallJoins
/-
  The walks of the program's layer 17: Take, Name, Put, Name of a text.
-/
namespace Go.Proofs.Ytehniclicjoiiaa
open Go.RowKit

set_option maxHeartbeats 8000000 in
set_option maxRecDepth 100000 in
theorem pkTake_any (A : Option Addr) (c : Nat) (L : List Nat) (w : World) (g : Nat) (p : Int) (bad : Bool) (s : Nat) (h : LBt.Row w A L) (hL : Sm.Bytes L) (hl : L.length ≤ 1000000) (hc : L.length ≤ c)
    (hp : -9223372036854775808 ≤ p ∧ p ≤ 9223372036854775807) (hs : s ≤ 8) (hg : w.heap[g]? = some (curO 26 A L.length c p bad)) :
    Calls Try.prog 9 #[.pointer (some ⟨g, 0, none⟩), .int .i64 s] w (CurIs g (curO 26 A L.length c (Pk.numAt L p bad s) (!Pk.fits L p bad s)) (.int .u64 (Pk.num L p bad s : Nat)) w) := by
  --[
  have CZ := Lib.hid (pkSized_any s w hs)
  have CC := Lib.hid (pkCut_any A c L w g p bad s h hl hc hp hg)
  rw [Pk.num_cut]
  have HM := Lib.hid (Nat.le_trans (Pk.cut_len L p bad s).1 hs)
  have HB := Lib.hid (Pk.cut_bytes hL p bad s)
  generalize curO 26 A L.length c (Pk.numAt L p bad s) (!Pk.fits L p bad s) = o at CC ⊢
  generalize Pk.cut L p bad s = M at CC HM HB ⊢
  clear h hg hL hl hc hp
  go_enter Try.func9, Try.ntmps9
  go_wp2_with fail
  refine CZ.out.mono ?_; rintro e w1 ⟨rfl, rfl⟩
  go_wp2_with fail
  refine CC.out.mono ?_; rintro e w2 ⟨B, d, rfl, hR, -, hg, hk⟩
  have HR := Lib.hid hR
  have HF := Lib.hid (show ∀ v, CurIs g o v _ (.returned v) w2 from fun v => ⟨rfl, hg, hk⟩)
  clear hR hg hk CC CZ
  go_wp2_with fail
  go_loopw [5, 7, 20] (fun v5 _ v20 w' => ∃ k : Nat, k ≤ M.length ∧ v20 = .int .i64 k ∧ v5 = .int .u64 (Pk.val (M.take k) : Nat) ∧ w' = w2) (fun _ _ v20 _ => M.length - (intOf v20).toNat)
  case atStart => exact ⟨0, Nat.zero_le _, rfl, rfl, rfl⟩
  case round =>
    obtain ⟨k, hk, rfl, rfl, rfl⟩ := hrel
    by_cases hlt : k < M.length
    · obtain ⟨b, o', rfl, -, c3⟩ := bt_at HR.out hlt
      have HV := Lib.hid (Pk.val_take (show M[k]? = some (M.getD k 0) from by rw [List.getD_eq_getElem?_getD, List.getElem?_eq_getElem hlt]; rfl))
      have hu := Pk.val_lt (HB.out.take k)
      have hx := HB.out.at k
      have hm := HM.out
      have hu2 : Pk.val (M.take k) < 72057594037927936 := by
        rw [List.length_take, Nat.min_eq_left (by omega)] at hu
        exact Nat.lt_of_lt_of_le hu (Nat.pow_le_pow_right (n := 256) (by decide) (show k ≤ 7 by omega))
      generalize M.getD k 0 = x at c3 HV hx
      generalize Pk.val (M.take k) = u at HV hu2 ⊢
      obtain ⟨s1, s2, s3⟩ := Pk.shl8 u x hu2 hx
      have s4 : IntKind.u64.wrap (x : Int) = (x : Int) := by rw [IntKind.wrap_u64]; omega
      generalize hy : u * 256 + x = y at s3 HV
      generalize u * 256 = u2 at s1 s2 s3
      have d1 : decide ((k : Int) < (M.length : Int)) = true := dec_t (by omega)
      have i0 : (0 : Int) ≤ (k : Int) := Int.natCast_nonneg k
      have i1 : (k : Int) < (M.length : Int) := by omega
      clear hu hu2 hx hy
      go_wp2_with fail
      go_roundw
      case rel => exact ⟨k + 1, by omega, by go_num, by rw [HV.out], trivial⟩
      case measure => simp [intOf]; omega
    · obtain rfl : k = M.length := by omega
      have d1 : decide ((M.length : Int) < (M.length : Int)) = false := dec_f (by omega)
      rw [List.take_length]
      go_wp2_with fail
      go_ret
      exact HF.out _
  --]
set_option maxHeartbeats 8000000 in
set_option maxRecDepth 100000 in
theorem pkName_any (A : Option Addr) (c : Nat) (L : List Nat) (w : World) (g : Nat) (p : Int) (bad : Bool) (h : LBt.Row w A L) (hL : Sm.Bytes L) (hl : L.length ≤ 1000000) (hc : L.length ≤ c)
    (hp : -9223372036854775808 ≤ p ∧ p ≤ 9223372036854775807) (hg : w.heap[g]? = some (curO 26 A L.length c p bad)) :
    Calls Try.prog 7 #[.pointer (some ⟨g, 0, none⟩)] w (CurIs g (curO 26 A L.length c (Pk.textAt L p bad) (!Pk.fitsT L p bad)) (.string (btext (Pk.text L p bad))) w) := by
  --[
  have hgs : g < w.heap.size := (Array.getElem?_eq_some_iff.1 hg).1
  have HGS := Lib.hid hgs
  obtain ⟨c0, c1, c2⟩ := cur_cells hg
  have HN0 := Lib.hid ((Below.refl w.heap.size w).alloc (Nat.le_refl _) (curO 26 A L.length c p bad))
  have CT := Lib.hid (pkTake_any A c L (w.alloc (curO 26 A L.length c p bad)) w.heap.size p bad 1 (h.below rfl HN0.out) hL hl hc hp (by decide) (heap_alloc_new w _))
  have HG := Lib.hid hg
  have HR := Lib.hid h
  have hN := Pk.num_lt hL p bad 1
  obtain ⟨e1, e2⟩ := Pk.text_cut L p bad
  rw [e1, e2, Pk.fitsT_cut]
  generalize Pk.num L p bad 1 = N at CT hN ⊢
  generalize curO 26 A L.length c (Pk.numAt L p bad 1) (!Pk.fits L p bad 1) = o1 at CT
  have q0 : IntKind.i64.wrap (N : Int) = (N : Int) := IntWalk.i64_in _ (by omega)
  have q1 : IntKind.i64.wrap (1 + (N : Int)) = ((1 + N : Nat) : Int) := by rw [IntWalk.i64_in _ (by omega)]; omega
  have CC := Lib.hid (fun w1 (hk : Kept w.heap.size (w.alloc (curO 26 A L.length c p bad)) w1) => pkCut_any A c L w1 g p bad (1 + N) ((hk.over hgs).row (row_apart h hg) h) hl hc hp (by
    rw [hk.block (by simp; omega) (by omega), Below.heap_alloc w _ g hgs]; exact hg))
  obtain ⟨-, HLN⟩ := Pk.cut_len L p bad (1 + N)
  have HZ := Lib.hid (fun (h : Pk.fits L p bad (1 + N) = false) => show Pk.cut L p bad (1 + N) = [] from if_neg (by rw [h]; exact Bool.false_ne_true))
  have HLN := Lib.hid HLN
  generalize Pk.fits L p bad (1 + N) = z at CC HZ HLN ⊢
  generalize Pk.cut L p bad (1 + N) = M at CC HZ HLN ⊢
  generalize Pk.numAt L p bad (1 + N) = p1 at CC ⊢
  have HN1 := Lib.hid (show 1 ≤ 1 + N from by omega)
  generalize 1 + N = N1 at q1 CC HLN HN1
  generalize hX : List.drop 1 M = X
  have HX := Lib.hid hX
  clear h hL hl hc hp hN hg hgs e1 e2 hX
  go_enter Try.func7, Try.ntmps7
  go_wp2_with fail
  refine CT.out.mono ?_; rintro e w1 ⟨rfl, -, hk1⟩
  have C2 := Lib.hid (CC.out _ hk1)
  have K1 := Lib.hid (hk1.over HGS.out)
  clear hk1 CT CC
  go_wp2_with fail
  refine C2.out.mono ?_; rintro e w2 ⟨B, d, rfl, hR, hd, hg2, hk2⟩
  obtain ⟨x0, x1, x2⟩ := cur_cells hg2
  have HF := Lib.hid (show ∀ v, CurIs g (curO 26 A L.length c p1 (!z)) v w (.returned v) w2 from fun v => ⟨rfl, hg2, K1.out.trans hk2⟩)
  cases z with
  | false =>
    obtain rfl : M = [] := HZ.out rfl
    obtain rfl : X = [] := HX.out.symm
    clear hR hd hg2 hk2 C2
    go_wp2_with fail
    go_ret
    exact HF.out _
  | true =>
    have hML := HLN.out rfl
    have h1 : 1 ≤ M.length := by have := HN1.out; omega
    have hd2 : M.length ≤ d := hd
    obtain ⟨b, o, rfl, -⟩ := bt_at hR h1
    have R := Lies.Row.low hR hd 1
    rw [show 1 * LBt.m = 1 from rfl] at R
    have t1 := run_text R (d - 1)
    rw [List.length_drop] at t1
    rw [HX.out] at t1
    have HT := Lib.hid t1
    clear hg2 hk2 C2 R t1 hR
    have l1 : (1 : Int) ≤ (M.length : Int) := by omega
    have l2 : (M.length : Int) ≤ (d : Int) := by omega
    by_cases hd1 : d = 1
    · subst hd1
      have hM1 : M.length = 1 := by omega
      have t1 : (convert 22 9 (.slice (some ⟨b, o, none⟩) 0 0)).run Try.prog w2 = .ok (.string (btext X)) w2 := by
        have := HT.out
        rw [hM1, if_pos rfl] at this
        exact this
      clear hML h1 hd hd2
      go_wp2_with fail
      go_ret
      exact HF.out _
    · have t1 := HT.out
      rw [if_neg hd1, Option.map_some, Go.WideShapes.add_plain] at t1
      clear hML hd
      go_wp2_with fail
      go_ret
      exact HF.out _
  --]
/-- The eight bytes of a number while they are laid, the last ones first. -/
def Pk.arr (N j : Nat) : List Nat := List.replicate j 0 ++ Pk.low N (8 - j)
theorem Pk.arr_set (N : Nat) : ∀ j, j < 8 → (Pk.arr N (j + 1)).length = 8 ∧ (Pk.arr N (j + 1)).set j (N / 256 ^ (7 - j) % 256) = Pk.arr N j
  | 0, _ => ⟨rfl, rfl⟩
  | 1, _ => ⟨rfl, rfl⟩
  | 2, _ => ⟨rfl, rfl⟩
  | 3, _ => ⟨rfl, rfl⟩
  | 4, _ => ⟨rfl, rfl⟩
  | 5, _ => ⟨rfl, rfl⟩
  | 6, _ => ⟨rfl, rfl⟩
  | 7, _ => ⟨rfl, rfl⟩
  | j + 8, h => absurd h (by omega)
/-- One byte of a block is another one. -/
theorem block_set {w : World} {g : Nat} {L : List Nat} {t : TypeId} (h : w.heap[g]? = some (.cells (LBt.all L).toArray t (0, 0))) {k : Nat} (hk : k < L.length) (x : Nat) :
    (w.setCell ⟨g, k, none⟩ (.int .u8 (x : Int))).heap[g]? = some (.cells (LBt.all (L.set k x)).toArray t (0, 0)) := by
  rw [heap_setCell_same _ _ _ _ _ _ h, List.setIfInBounds_toArray]
  have := LBt.set_cell L k 0 L[k] x (List.getElem?_eq_getElem hk) (by decide) (.int .u8 (x : Int)) rfl
  rw [show LBt.m = 1 from rfl, Nat.mul_one, Nat.add_zero] at this
  rw [this]
theorem block_at {w : World} {g : Nat} {L : List Nat} {t : TypeId} (h : w.heap[g]? = some (.cells (LBt.all L).toArray t (0, 0))) {k : Nat} (hk : k < L.length) :
    w.cell? ⟨g, k, none⟩ = some (.int .u8 (L.getD k 0 : Nat)) ∧ w.frozen? ⟨g, k, none⟩ = false := by
  obtain ⟨b, o, h1, -, h3⟩ := bt_at (row_of_block h) hk
  cases h1
  rw [Nat.zero_add] at h3
  exact ⟨h3, frozen_of_row w g k _ _ h⟩
theorem put_cat (A : Option Addr) (c : Nat) (L : List Nat) (N s : Nat) (w w' : World) (hl : L.length ≤ 100000) (hs : s ≤ 8) (hR : LBt.Row w A L) (hb : Below w.heap.size w w') (B : Option Addr) (n d : Nat) (hn : n = s) (hB : LBt.Row w' B (Pk.low N s)) :
    Calls Try.prog 18 #[.slice (some ⟨w'.heap.size, 0, none⟩) 2 2] (w'.alloc (.cells #[.slice A L.length c, .slice B n d] 22)) (BtOwn (Pk.put L N s) w) := by
  obtain rfl : n = (Pk.low N s).length := by rw [Pk.low_len]; exact hn
  have H1 := (Below.refl w'.heap.size w').alloc (Nat.le_refl _) (.cells #[.slice A L.length c, .slice B (Pk.low N s).length d] 22)
  have H2 := hb.alloc hb.size (.cells #[.slice A L.length c, .slice B (Pk.low N s).length d] 22)
  refine (spConcat2 A c L B d (Pk.low N s) w'.heap.size _ (by simp) (by rw [cell_of_row _ _ _ _ _ _ (heap_alloc_new w' _)]; rfl) (by rw [cell_of_row _ _ _ _ _ _ (heap_alloc_new w' _)]; rfl) (hR.below rfl H2) (hB.below rfl H1) (by rw [List.length_append, Pk.low_len]; omega)).mono ?_
  rintro e w2 ⟨v, rfl, ho, hb2⟩
  exact ⟨v, rfl, own_low ho H2.size, H2.trans (hb2.mono H2.size)⟩
set_option maxHeartbeats 8000000 in
set_option maxRecDepth 100000 in
theorem pkPut_any (A : Option Addr) (c : Nat) (L : List Nat) (N s : Nat) (w : World) (h : LBt.Row w A L) (hl : L.length ≤ 100000) (hs : s ≤ 8) :
    Calls Try.prog 11 #[.slice A L.length c, .int .u64 N, .int .i64 s] w (BtOwn (Pk.put L N s) w) := by
  --[
  have CZ := Lib.hid (pkSized_any s w hs)
  have HR := Lib.hid h
  have HB0 := Lib.hid ((Below.refl w.heap.size w).alloc (Nat.le_refl _) (.cells (LBt.all (Pk.arr N 8)).toArray 43))
  have HG0 := Lib.hid (show (w.alloc (.cells (LBt.all (Pk.arr N 8)).toArray 43)).heap[w.heap.size]? = some (.cells (LBt.all (Pk.arr N 8)).toArray 43 (0, 0)) from heap_alloc_new w _)
  clear h
  go_enter Try.func11, Try.ntmps11
  go_wp2_with fail
  refine CZ.out.mono ?_; rintro e w1 ⟨rfl, rfl⟩
  go_wp2_with fail
  go_loopw [1, 8] (fun v1 v8 w' => ∃ j : Nat, j ≤ 8 ∧ v8 = .int .i64 ((j : Int) - 1) ∧ v1 = .int .u64 (N / 256 ^ (8 - j) : Nat) ∧ w'.heap[w1.heap.size]? = some (.cells (LBt.all (Pk.arr N j)).toArray 43 (0, 0)) ∧ Below w1.heap.size w1 w') (fun _ v8 _ => (intOf v8 + 1).toNat)
  case atStart => exact ⟨8, Nat.le_refl _, rfl, by rw [Nat.sub_self, Nat.pow_zero, Nat.div_one], HG0.out, HB0.out⟩
  case round =>
    obtain ⟨j, hj, rfl, rfl, hg, hb⟩ := hrel
    have HB := Lib.hid hb
    have HG := Lib.hid hg
    clear hg hb
    by_cases h0 : j = 0
    · subst h0
      obtain ⟨k, hk⟩ : ∃ k, 8 = k + s := ⟨8 - s, by omega⟩
      have d1 : decide ((0 : Int) ≤ ((0 : Nat) : Int) - 1) = false := by decide
      have q1 : IntKind.i64.wrap (8 - (s : Int)) = (k : Int) := by rw [IntWalk.i64_in _ (by omega)]; omega
      have i0 : (0 : Int) ≤ (k : Int) := by omega
      have i1 : (k : Int) ≤ 8 := by omega
      have RB := Lib.hid (show LBt.Row wr (some ⟨w1.heap.size, k, none⟩) (Pk.low N s) from by
        have := Lies.Row.drop LBt (row_of_block HG.out) k
        rw [show Pk.arr N 0 = Pk.low N (k + s) from by rw [← hk]; rfl, Pk.low_drop, Nat.zero_add, show k * LBt.m = k from Nat.mul_one k] at this
        exact this)
      have HK := Lib.hid hk
      have CC := Lib.hid (put_cat A c L N s w1 wr hl hs HR.out HB.out)
      clear hk hj d1
      go_wp2_with fail
      · obtain rfl : s = 0 := by have := HK.out; omega
        refine Calls.mono (CC.out _ _ _ (by omega) (.inl rfl)) ?_
        rintro e w2 ⟨v, rfl, ho, hb⟩
        have HF := Lib.hid (show BtOwn (Pk.put L N 0) w1 (.returned v) w2 from ⟨v, rfl, ho, hb⟩)
        clear ho hb CC
        go_wp2_with fail
        go_ret
        exact HF.out
      · refine Calls.mono (CC.out _ _ _ (by have := HK.out; omega) RB.out) ?_
        rintro e w2 ⟨v, rfl, ho, hb⟩
        have HF := Lib.hid (show BtOwn (Pk.put L N s) w1 (.returned v) w2 from ⟨v, rfl, ho, hb⟩)
        clear ho hb CC
        go_wp2_with fail
        go_ret
        exact HF.out
    · obtain ⟨i, rfl⟩ : ∃ i, j = i + 1 := ⟨j - 1, by omega⟩
      obtain ⟨l1, l2⟩ := Pk.arr_set N i (by omega)
      obtain ⟨z1, z2⟩ := block_at HG.out (k := i) (by omega)
      have HS := Lib.hid (block_set HG.out (k := i) (by omega) (N / 256 ^ (7 - i) % 256))
      rw [l2] at HS
      have HBS := Lib.hid (HB.out.setCell (p := ⟨w1.heap.size, i, none⟩) (Nat.le_refl _) (.int .u8 ((N / 256 ^ (7 - i) % 256 : Nat) : Int)))
      have HD := Lib.hid (show N / 256 ^ (8 - i) = N / 256 ^ (7 - i) / 256 from by rw [show 8 - i = (7 - i) + 1 by omega, Nat.pow_succ, Nat.div_div_eq_div_mul])
      rw [show 8 - (i + 1) = 7 - i by omega]
      generalize N / 256 ^ (7 - i) = n at HS HBS HD ⊢
      rw [show (((i + 1 : Nat) : Int) - 1) = (i : Int) by omega]
      have d1 : decide ((0 : Int) ≤ (i : Int)) = true := dec_t (by omega)
      have i0 : (0 : Int) ≤ (i : Int) := by omega
      have i1 : (i : Int) < 8 := by omega
      have q1 : IntKind.u8.wrap (n : Int) = ((n % 256 : Nat) : Int) := by rw [IntKind.wrap_u8]; omega
      have q2 : (n : Int) / 256 = ((n / 256 : Nat) : Int) := by omega
      have q3 : IntKind.i64.wrap ((i : Int) - 1) = (i : Int) - 1 := IntWalk.i64_in _ (by omega)
      generalize n / 256 = n2 at q2 HD
      generalize n % 256 = x at q1 HS HBS
      generalize (Pk.arr N (i + 1)).getD i 0 = y at z1
      clear l1 l2 h0
      go_wp2_with fail
      go_roundw
      case rel => exact ⟨i, by omega, rfl, by rw [HD.out], HS.out, HBS.out⟩
      case measure => simp [intOf]
  --]
theorem name_cat (A : Option Addr) (c : Nat) (L : List Nat) (s : ByteArray) (w : World) (hl : L.length ≤ 50000) (hs : s.size ≤ 255) (hR : LBt.Row w A L) :
    Calls Try.prog 18 #[.slice (some ⟨w.heap.size + 2, 0, none⟩) 3 3] ((Lib.bytesWorld (w.alloc (.cells #[.int .u8 (s.size : Int)] 5)) 5 s).alloc
      (.cells #[.slice A L.length c, .slice (some ⟨w.heap.size, 0, none⟩) 1 1, .slice (some ⟨w.heap.size + 1, 0, none⟩) s.size (grownCap (w.alloc (.cells #[.int .u8 (s.size : Int)] 5)) s.size 0 5)] 22)) (BtOwn (Pk.name L (sbytes s)) w) := by
  have H1 := (Below.refl w.heap.size w).alloc (Nat.le_refl _) (.cells #[.int .u8 (s.size : Int)] 5)
  have R1 : LBt.Row (w.alloc (.cells #[.int .u8 (s.size : Int)] 5)) (some ⟨w.heap.size, 0, none⟩) [s.size] := Lies.Row.fresh (E := LBt) w [s.size] 5
  generalize hw1 : w.alloc (.cells #[.int .u8 (s.size : Int)] 5) = w1 at H1 R1 ⊢
  have s1 : w1.heap.size = w.heap.size + 1 := by rw [← hw1]; simp
  clear hw1
  have H2 := Joins.below_bytesWorld w1.heap.size w1 5 s (Nat.le_refl _)
  have R2 : LBt.Row (Lib.bytesWorld w1 5 s) (some ⟨w1.heap.size, 0, none⟩) (sbytes s) := by
    refine .inr ⟨w1.heap.size, 0, rfl, by rw [Lib.bytesWorld_size]; omega, fun k y hk j u hu => ?_⟩
    have hj : j = 0 := by
      have := (List.getElem?_eq_some_iff.1 hu).1
      rw [LBt.len] at this
      exact Nat.lt_one_iff.1 this
    subst hj
    have hk2 : k < s.size := by
      have := (List.getElem?_eq_some_iff.1 hk).1
      rwa [sbytes_len] at this
    rw [show 0 + k * LBt.m + 0 = k from by show 0 + k * 1 + 0 = k; omega, Lib.bytesWorld_cell w1 _ s k hk2]
    unfold sbytes at hk
    rw [List.getElem?_map] at hk
    obtain ⟨z, hz, rfl⟩ := Option.map_eq_some_iff.1 hk
    rw [List.getD_eq_getElem?_getD, hz]
    exact hu
  generalize grownCap w1 s.size 0 5 = d2
  generalize hw2 : Lib.bytesWorld w1 5 s = w2 at H2 R2 ⊢
  have s2 : w2.heap.size = w.heap.size + 2 := by rw [← hw2, Lib.bytesWorld_size, s1]
  clear hw2
  have H12 := H1.trans (H2.mono (by omega))
  rw [← s2, ← s1]
  have H3 := (Below.refl w2.heap.size w2).alloc (Nat.le_refl _) (.cells #[.slice A L.length c, .slice (some ⟨w.heap.size, 0, none⟩) 1 1, .slice (some ⟨w1.heap.size, 0, none⟩) (sbytes s).length d2] 22)
  have H4 := H12.alloc H12.size (.cells #[.slice A L.length c, .slice (some ⟨w.heap.size, 0, none⟩) 1 1, .slice (some ⟨w1.heap.size, 0, none⟩) (sbytes s).length d2] 22)
  have e : L ++ [s.size] ++ sbytes s = Pk.name L (sbytes s) := by
    unfold Pk.name Pk.put Pk.low
    rw [sbytes_len, Nat.pow_zero, Nat.div_one, Nat.mod_eq_of_lt (show s.size < 256 by omega)]
    rfl
  rw [← sbytes_len s]
  rw [← sbytes_len s] at R1 e
  refine (spConcat3 A c L (some ⟨w.heap.size, 0, none⟩) 1 [(sbytes s).length] (some ⟨w1.heap.size, 0, none⟩) d2 (sbytes s) w2.heap.size _ (by simp) (by rw [cell_of_row _ _ _ _ _ _ (heap_alloc_new w2 _)]; rfl) (by rw [cell_of_row _ _ _ _ _ _ (heap_alloc_new w2 _)]; rfl) (by rw [cell_of_row _ _ _ _ _ _ (heap_alloc_new w2 _)]; rfl) (hR.below rfl H4) ((R1.below rfl H2).below rfl H3) (R2.below rfl H3) (by
    rw [e, Pk.name_len, sbytes_len]; omega)).mono ?_
  rintro e' w3 ⟨v, rfl, ho, hb2⟩
  rw [e] at ho
  exact ⟨v, rfl, own_low ho H4.size, H4.trans (hb2.mono H4.size)⟩
set_option maxHeartbeats 8000000 in
set_option maxRecDepth 100000 in
theorem pkPutName_any (A : Option Addr) (c : Nat) (L : List Nat) (s : ByteArray) (w : World) (h : LBt.Row w A L) (hl : L.length ≤ 50000) (hs : s.size ≤ 255) :
    Calls Try.prog 13 #[.slice A L.length c, .string s] w (BtOwn (Pk.name L (sbytes s)) w) := by
  --[
  have CC := Lib.hid (name_cat A c L s w hl hs h)
  have d0 : decide ((255 : Int) < (s.size : Int)) = false := dec_f (by omega)
  have q0 : IntKind.u8.wrap (s.size : Int) = (s.size : Int) := by rw [IntKind.wrap_u8]; omega
  have kc := fun w => Lib.run_convert_string_bytes (P := Try.prog) w 9 22 5 s Try.underlying9 Try.underlying22 Try.underlying5
  have ks := fun w => Lib.bytesWorld_size w 5 s
  clear h
  go_enter Try.func13, Try.ntmps13
  go_wp2_with fail
  refine Calls.mono CC.out ?_
  rintro e w2 ⟨v, rfl, ho, hb⟩
  have HF := Lib.hid (show BtOwn (Pk.name L (sbytes s)) w (.returned v) w2 from ⟨v, rfl, ho, hb⟩)
  clear ho hb CC
  go_wp2_with fail
  go_ret
  exact HF.out
  --]
end Go.Proofs.Ytehniclicjoiiaa
