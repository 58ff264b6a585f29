/-
  Texts of this claim, merged: PackRowsWalk, StrKit.
-/
import Derived.Test.YtehniclicjoiiaaMg01
import Derived.Test.YtehniclicjoiiaaMg06
import Derived.Deep.Strs
/-
  The walk of the law PackRows: it returns true.
-/
namespace Go.Proofs.Ytehniclicjoiiaa
open Go.RowKit

/-- Texts as bytes. -/
def Pk.texts (T : List (List UInt8)) : List (List Nat) := T.map (List.map UInt8.toNat)
theorem Pk.texts_at {T : List (List UInt8)} {k : Nat} (h : k < T.length) : (Pk.texts T).getD k [] = sbytes (txt T[k]) := by
  unfold Pk.texts sbytes
  rw [List.getD_eq_getElem?_getD, List.getElem?_map, List.getElem?_eq_getElem h, txt_toList]
  rfl
theorem Pk.texts_bytes (T : List (List UInt8)) : ∀ t ∈ Pk.texts T, Sm.Bytes t := fun t ht x hx => by
  obtain ⟨l, -, rfl⟩ := List.mem_map.1 ht
  obtain ⟨b, -, rfl⟩ := List.mem_map.1 hx
  exact UInt8.toNat_lt b
theorem text_cell {w : World} {A : Option Addr} {T : List (List UInt8)} (h : Strs w A T) {k : Nat} (hk : k < T.length) : ∃ a, A = some a ∧ w.cell? (a.add k) = some (.string (txt T[k])) := by
  obtain ⟨a, h1, -, h2⟩ := h.cell hk
  exact ⟨a, h1, h2⟩
set_option maxHeartbeats 16000000 in
set_option maxRecDepth 100000 in
theorem packRows_walk (A : Option Addr) (c n : Nat) (L : List Nat) (B : Option Addr) (d m : Nat) (T : List (List UInt8)) (W : World)
    (hn : L.length = n) (hL : LLong.Row W A L) (_hc : n ≤ c) (_hl : n ≤ maxLen) (hb : ∀ x ∈ L, x < 18446744073709551616) (hm : T.length = m) (hT : Strs W B T) (_hd : m ≤ d) (_hk : m ≤ maxLen) (_hx : ∀ x ∈ T, x.length ≤ maxLen) :
    Calls Try.prog 5 #[.slice A n c, .slice B m d] W fun e w' => e = .returned (.bool true) ∧ Below W.heap.size W w' := by
  --[
  subst hn hm
  have HL := Lib.hid hL
  have HT := Lib.hid hT
  have AW := Lib.hid (fun W => pkAwake_any W)
  by_cases g1 : 20 < L.length
  · have D1 : decide (20 < (L.length : Int)) = true := dec_t (by omega)
    go_enter Try.func5, Try.ntmps5
    go_wp2_with fail
    refine (AW.out _).mono ?_; rintro e w8 ⟨rfl, hb8⟩
    go_wp2_with fail
    go_ret
    exact ⟨rfl, hb8⟩
  have D1 : decide (20 < (L.length : Int)) = false := dec_f (by omega)
  by_cases g2 : 20 < T.length
  · have D2 : decide (20 < (T.length : Int)) = true := dec_t (by omega)
    go_enter Try.func5, Try.ntmps5
    go_wp2_with fail
    refine (AW.out _).mono ?_; rintro e w8 ⟨rfl, hb8⟩
    go_wp2_with fail
    go_ret
    exact ⟨rfl, hb8⟩
  have D2 : decide (20 < (T.length : Int)) = false := dec_f (by omega)
  have hl : L.length ≤ 20 := by omega
  have ht : T.length ≤ 20 := by omega
  have HLB := Lib.hid (fun k => show L.getD k 0 < 18446744073709551616 from by
    rw [List.getD_eq_getElem?_getD]
    cases hx : L[k]? with
    | none => show 0 < _; omega
    | some y => exact hb y (List.mem_of_getElem? hx))
  have HTA := Lib.hid (fun k (h : k < T.length) => Pk.texts_at h)
  have HTB := Lib.hid (Pk.texts_bytes T)
  obtain ⟨P, hP⟩ : ∃ P, Pk.texts T = P := ⟨_, rfl⟩
  rw [hP] at HTA HTB
  have B0 := Lib.hid (Below.refl W.heap.size W)
  have O0 := Lib.hid (show W.ownsRow W.heap.size 5 LBt.m (.slice none 0 0) (Pk.rows L P 0).length (LBt.all (Pk.rows L P 0)) from ⟨rfl, .inl ⟨rfl, rfl⟩⟩)
  clear hL hT g1 g2 hb hP
  obtain ⟨i0, hi, hz0, hz1, hz2⟩ := info_parts infoBt
  go_enter Try.func5, Try.ntmps5
  go_wp2_with fail
  go_loopw [5, 6] (fun v5 v6 w' => ∃ k : Nat, k ≤ L.length ∧ k ≤ T.length ∧ v6 = .int .i64 k ∧ (∀ i, i < k → (P.getD i []).length ≤ 255) ∧ w'.ownsRow W.heap.size 5 LBt.m v5 (Pk.rows L P k).length (LBt.all (Pk.rows L P k)) ∧ Below W.heap.size W w') (fun _ v6 _ => L.length - (intOf v6).toNat)
  case atStart => exact ⟨0, Nat.zero_le _, Nat.zero_le _, rfl, fun i hi => absurd hi (Nat.not_lt_zero i), O0.out, B0.out⟩
  case round =>
    obtain ⟨k, hk, hk', rfl, hsm, ho, hbw⟩ := hrel
    have HB := Lib.hid hbw
    have HSM := Lib.hid hsm
    have HO := Lib.hid ho
    obtain ⟨-, B5, c5, hv5, hc5, hR5⟩ := Lies.Row.of_own (E := LBt) ho
    have HLE := Lib.hid (Pk.rows_le (N := L) hsm)
    subst hv5
    have HR5 := Lib.hid hR5
    have HC5 := Lib.hid hc5
    clear hbw hsm ho hR5 hc5
    by_cases hboth : k < L.length ∧ k < T.length
    case pos =>
      obtain ⟨hlt, hlt'⟩ := hboth
      have d1 : decide ((k : Int) < (L.length : Int)) = true := dec_t (by omega)
      have d2 : decide ((k : Int) < (T.length : Int)) = true := dec_t (by omega)
      obtain ⟨bb, rfl, c1⟩ := text_cell (HT.out.below rfl HB.out) hlt'
      obtain ⟨b, o, rfl, -, c0⟩ := long_at (HL.out.below rfl HB.out) hlt
      have HTK := Lib.hid (HTA.out k hlt')
      have HSK := Lib.hid (fun W' (hW : Below wr.heap.size wr W') => show W'.cell? (bb.add k) = some (.string (txt T[k])) ∧ W'.cell? ⟨b, o + k, none⟩ = some (.int .u64 (L.getD k 0 : Nat)) from by
        obtain ⟨x1, e1, f1⟩ := text_cell (HT.out.below rfl (HB.out.trans (hW.mono HB.out.size))) hlt'
        obtain ⟨y1, y2, e2, -, f2⟩ := long_at (HL.out.below rfl (HB.out.trans (hW.mono HB.out.size))) hlt
        cases e1
        cases e2
        exact ⟨f1, f2⟩)
      generalize txt T[k] = s at c1 HTK HSK
      have hN := HLB.out k
      have i0 : (0 : Int) ≤ (k : Int) := Int.natCast_nonneg k
      have i1 : (k : Int) < (L.length : Int) := by omega
      have i2 : (k : Int) < (T.length : Int) := by omega
      by_cases hs : 255 < s.size
      · have d3 : decide (255 < (s.size : Int)) = true := dec_t (by omega)
        go_wp2_with fail
        refine (AW.out _).mono ?_; rintro e w8 ⟨rfl, hb8⟩
        have B8 := Lib.hid (HB.out.trans (hb8.mono HB.out.size))
        clear hb8
        go_wp2_with fail
        go_ret
        exact ⟨rfl, B8.out⟩
      · have d3 : decide (255 < (s.size : Int)) = false := dec_f (by omega)
        have hs2 : s.size ≤ 255 := by omega
        have hle := HLE.out
        have HRS := Lib.hid (show Pk.rows L P (k + 1) = Pk.name (Pk.put (Pk.rows L P k) (L.getD k 0) (1 + k % 8)) (sbytes s) from by rw [← HTK.out]; rfl)
        have HSM2 := Lib.hid (show ∀ i, i < k + 1 → (P.getD i []).length ≤ 255 from fun i hi => by
          by_cases h : i = k
          · rw [h, HTK.out, sbytes_len]; exact hs2
          · exact HSM.out i (by omega))
        have r1 : (k : Int).tmod 8 = ((k % 8 : Nat) : Int) := by rw [Int.tmod_eq_emod_of_nonneg i0]; omega
        have r2 : (k : Int) % 8 = ((k % 8 : Nat) : Int) := by omega
        have r3 : IntKind.i64.wrap (1 + ((k % 8 : Nat) : Int)) = ((1 + k % 8 : Nat) : Int) := by rw [IntWalk.i64_in _ (by omega)]; omega
        have r4 : 1 + ((k % 8 : Nat) : Int) = ((1 + k % 8 : Nat) : Int) := by omega
        have r5 : IntKind.i64.wrap ((1 + k % 8 : Nat) : Int) = ((1 + k % 8 : Nat) : Int) := IntWalk.i64_in _ (by omega)
        have hsz : 1 + k % 8 ≤ 8 := by omega
        generalize 1 + k % 8 = sz at r3 r4 r5 hsz HRS
        generalize k % 8 = q at r1 r2 r3 r4
        have CP := Lib.hid (fun W' (hW : Below wr.heap.size wr W') => pkPut_any B5 c5 (Pk.rows L P k) (L.getD k 0) sz W' (HR5.out.below rfl hW) (by omega) hsz)
        have hpl := Pk.put_len (Pk.rows L P k) (L.getD k 0) sz
        have HPL := Lib.hid (show (Pk.put (Pk.rows L P k) (L.getD k 0) sz).length ≤ 50000 from by rw [hpl]; omega)
        generalize Pk.put (Pk.rows L P k) (L.getD k 0) sz = X at CP HRS HPL
        generalize L.getD k 0 = N at c0 CP HSK hN
        have U0 := Lib.hid (Below.refl wr.heap.size wr)
        clear hpl hle hN hs hsz
        go_upto_region 9 with fail
        go_region_with (first
          | (go_at_call 11
             (with_reducible refine (CP.out _ U0.out.drew).mono ?_)
             rintro e1 z1 ⟨v1, rfl, ho1, hb1⟩
             obtain ⟨-, B1, d1', rfl, -, hR1⟩ := Lies.Row.of_own (E := LBt) ho1
             have h1 := Lib.hid (U0.out.drew.trans hb1)
             obtain ⟨c1', c0'⟩ := HSK.out _ h1.out
             have CN := Lib.hid (pkPutName_any B1 d1' X s z1 hR1 HPL.out (by omega))
             clear ho1 hb1 hR1)
          | (go_at_call 13
             (with_reducible refine CN.out.mono ?_)
             rintro e2 z2 ⟨v2, rfl, ho2, hb2⟩
             have X2 := Lib.hid (HB.out.trans ((h1.out.trans (hb2.mono h1.out.size)).mono HB.out.size))
             have O2 := Lib.hid (own_low ho2 (Nat.le_trans HB.out.size h1.out.size))
             clear ho2 hb2))
        all_goals go_wp2_with fail
        all_goals go_roundw
        all_goals first
          | exact ⟨k + 1, by omega, by omega, by go_num, HSM2.out, by rw [HRS.out]; exact O2.out, X2.out⟩
          | (simp [intOf]; omega)
    case neg =>
      have hle := HLE.out
      have RK := Lib.hid (fun W' (hW : Below wr.heap.size wr W') => HR5.out.below rfl hW)
      have A3 := Lib.hid (show ∀ a, B5 = some a → Pk.rows L P k ≠ [] → a.block ≠ wr.heap.size from fun a ha _ => by
        subst ha
        exact Nat.ne_of_lt (HO.out.lt a.block rfl).2)
      have X3 := Lib.hid (HB.out.alloc HB.out.size (.cells #[.slice B5 (Pk.rows L P k).length c5, .int .i64 0, .bool false] 26))
      have R3 := Lib.hid (RK.out _ ((Below.refl wr.heap.size wr).alloc (Nat.le_refl _) (.cells #[.slice B5 (Pk.rows L P k).length c5, .int .i64 0, .bool false] 26)))
      have G3 := Lib.hid (show (wr.alloc (.cells #[.slice B5 (Pk.rows L P k).length c5, .int .i64 0, .bool false] 26)).heap[wr.heap.size]? = some (curO 26 B5 (Pk.rows L P k).length c5 ((Pk.rows L P 0).length : Nat) false) from cur_new wr 26 B5 (Pk.rows L P k).length c5 0 false)
      have K3 := Lib.hid (Kept.refl wr.heap.size (wr.alloc (.cells #[.slice B5 (Pk.rows L P k).length c5, .int .i64 0, .bool false] 26)))
      have GW := Lib.hid HB.out.size
      have HZB := Lib.hid (Pk.rows_bytes (N := L) HTB.out k)
      have hle2 : (Pk.rows L P k).length ≤ 6000 := by omega
      have HSPL := Lib.hid (fun j (hj : j < k) => Pk.rows_split L P (show j + 1 ≤ k by omega))
      clear RK HR5 HO
      have d0 : (k < L.length ∧ ¬ k < T.length) ∨ ¬ k < L.length := by omega
      clear hboth hle HLE
      generalize hZ : Pk.rows L P k = Z at A3 X3 R3 G3 K3 HZB hle2 HSPL
      have HZE := Lib.hid hZ
      clear hZ
      rcases d0 with ⟨d1, d2⟩ | d1
      case' inl => have d3 : decide ((k : Int) < (L.length : Int)) = true := dec_t (by omega)
      case' inr => have d3 : decide ((k : Int) < (L.length : Int)) = false := dec_f (by omega)
      all_goals
        go_wp2_with fail
        generalize wr.alloc (.cells #[.slice B5 Z.length c5, .int .i64 0, .bool false] 26) = w3 at X3 R3 G3 K3 ⊢
        generalize wr.heap.size = g at A3 G3 K3 GW ⊢
        go_loopw [8, 9] (fun v8 _ w' => ∃ j : Nat, j ≤ k ∧ v8 = .int .i64 j ∧ w'.heap[g]? = some (curO 26 B5 Z.length c5 ((Pk.rows L P j).length : Nat) false) ∧ Kept g w3 w') (fun v8 _ _ => k - (intOf v8).toNat)
        case atStart => exact ⟨0, Nat.zero_le _, rfl, G3.out, K3.out⟩
        case round =>
          obtain ⟨j, hj, rfl, hg, hk2⟩ := hrel
          have HG := Lib.hid hg
          have HK := Lib.hid hk2
          have XW := Lib.hid (hk2.below GW.out X3.out)
          have R8 := Lib.hid (hk2.row A3.out R3.out)
          clear hg hk2
          by_cases hjt : j < k
          · have hjl : j < L.length := by omega
            have hjm : j < T.length := by omega
            have f1 : decide ((j : Int) < (L.length : Int)) = true := dec_t (by omega)
            have f2 : decide ((j : Int) < (T.length : Int)) = true := dec_t (by omega)
            have i0 : (0 : Int) ≤ (j : Int) := Int.natCast_nonneg j
            have i1 : (j : Int) < (L.length : Int) := by omega
            have i2 : (j : Int) < (T.length : Int) := by omega
            obtain ⟨bb, rfl, c1⟩ := text_cell (HT.out.below rfl XW.out) hjm
            obtain ⟨b, o, rfl, -, c0⟩ := long_at (HL.out.below rfl XW.out) hjl
            have HTK := Lib.hid (HTA.out j hjm)
            have HSK := Lib.hid (fun W' (hW : Below W.heap.size W W') => show W'.cell? (bb.add j) = some (.string (txt T[j])) from by
              obtain ⟨x1, e1, f1⟩ := text_cell (HT.out.below rfl hW) hjm
              cases e1
              exact f1)
            obtain ⟨r, hr⟩ := HSPL.out j hjt
            have HI := Pk.item_at (Pk.rows L P j) (P.getD j []) r (L.getD j 0) (1 + j % 8) (HSM.out j hjt)
            rw [show Pk.name (Pk.put (Pk.rows L P j) (L.getD j 0) (1 + j % 8)) (P.getD j []) ++ r = Z from hr.symm] at HI
            have HNX := Lib.hid (show Pk.name (Pk.put (Pk.rows L P j) (L.getD j 0) (1 + j % 8)) (P.getD j []) = Pk.rows L P (j + 1) from rfl)
            rw [HNX.out, HTK.out] at HI
            have HI := Lib.hid HI
            have HN := Lib.hid (HLB.out j)
            have HPB := Lib.hid (show (Pk.rows L P j).length ≤ 6000 from by
              have := Pk.rows_le (N := L) (T := P) (k := j) (fun i hi => HSM.out i (by omega))
              omega)
            have HPB2 := Lib.hid (show (Pk.put (Pk.rows L P j) (L.getD j 0) (1 + j % 8)).length ≤ 7000 from by
              have := HPB.out
              rw [Pk.put_len]; omega)
            generalize txt T[j] = s at c1 HTK HSK HI
            generalize Pk.put (Pk.rows L P j) (L.getD j 0) (1 + j % 8) = X at HI HPB2
            generalize L.getD j 0 = N at c0 HI HN
            have r1 : (j : Int).tmod 8 = ((j % 8 : Nat) : Int) := by rw [Int.tmod_eq_emod_of_nonneg i0]; omega
            have r2 : (j : Int) % 8 = ((j % 8 : Nat) : Int) := by omega
            have r3 : IntKind.i64.wrap (1 + ((j % 8 : Nat) : Int)) = ((1 + j % 8 : Nat) : Int) := by rw [IntWalk.i64_in _ (by omega)]; omega
            have r4 : 1 + ((j % 8 : Nat) : Int) = ((1 + j % 8 : Nat) : Int) := by omega
            have r5 : IntKind.i64.wrap ((1 + j % 8 : Nat) : Int) = ((1 + j % 8 : Nat) : Int) := IntWalk.i64_in _ (by omega)
            have hq : j % 8 < 8 := Nat.mod_lt _ (by decide)
            have HSZ := Lib.hid (show 1 + j % 8 = j % 8 + 1 by omega)
            generalize 1 + j % 8 = sz at r3 r4 r5 HI HSZ
            generalize j % 8 = q at r1 r2 r3 r4 HSZ hq
            have HQ := Lib.hid hq
            clear hr
            by_cases h7 : q < 7
            case' pos =>
              have e3 : decide ((q : Int) < 7) = true := dec_t (by omega)
              have HR := Lib.hid (show N % 256 ^ sz = N % 2 ^ (8 + 8 * q) from by rw [HSZ.out, show (256 : Nat) = 2 ^ 8 from rfl, ← Nat.pow_mul]; congr 2; omega)
              obtain ⟨m1, m2, m3, m4, m5⟩ := Pk.mask N (8 + 8 * q) (by omega) HN.out
              have a0 : IntKind.i64.wrap (8 * (q : Int)) = ((8 * q : Nat) : Int) := by rw [IntWalk.i64_in _ (by omega)]; omega
              have a1 : IntKind.i64.wrap (8 + ((8 * q : Nat) : Int)) = ((8 + 8 * q : Nat) : Int) := by rw [IntWalk.i64_in _ (by omega)]; omega
              have a1' : 8 + ((8 * q : Nat) : Int) = ((8 + 8 * q : Nat) : Int) := by omega
              have a2 : IntKind.u64.wrap ((8 + 8 * q : Nat) : Int) = ((8 + 8 * q : Nat) : Int) := by rw [IntKind.wrap_u64]; omega
              have a2' : IntKind.i64.wrap ((8 + 8 * q : Nat) : Int) = ((8 + 8 * q : Nat) : Int) := IntWalk.i64_in _ (by omega)
              have a3 : (0 : Int) ≤ ((8 + 8 * q : Nat) : Int) := Int.natCast_nonneg _
              have a4 : min (8 + 8 * q) 64 = 8 + 8 * q := by omega
              generalize 8 + 8 * q = t8 at a1 a1' a2 a2' a3 a4 m1 m2 m3 m4 m5 HR
              generalize 8 * q = u8 at a0 a1 a1'
              generalize hP1 : 2 ^ t8 - 1 = P1 at m3 m4 m5
              generalize N % 2 ^ t8 = R at m5 HR
              generalize 2 ^ t8 = P2 at m1 m2 m3 m4
              clear hP1 h7 hq
              have HNV := Lib.hid (HI.out.1.1.trans HR.out)
              clear HR
              go_upto_region 17 with fail
            case' neg =>
              have e3 : decide ((q : Int) < 7) = false := dec_f (by omega)
              have HNV := Lib.hid (HI.out.1.1.trans (show N % 256 ^ sz = N from by rw [HSZ.out, show q + 1 = 8 by omega]; exact Nat.mod_eq_of_lt HN.out))
              clear h7 hq
              go_upto_region 17 with fail
            all_goals
              have CT := pkTake_any B5 c5 Z wr.drew g (Pk.rows L P j).length false sz (R8.out.below rfl (Below.refl wr.heap.size wr).drew) HZB.out (by omega) (by rw [← HZE.out]; exact HC5.out) (by have := HPB.out; omega) (by have := HSZ.out; have := HQ.out; omega) HG.out
              rw [HNV.out, HI.out.1.2.1, HI.out.1.2.2] at CT
              have CT := Lib.hid CT
              go_region_with (first
                | (go_at_call 9
                   (with_reducible refine CT.out.mono ?_)
                   rintro e1 z1 ⟨rfl, hg1, hk1⟩
                   have K1 := Lib.hid (HK.out.drew.trans hk1)
                   have c1' := HSK.out _ (K1.out.below GW.out X3.out)
                   have CM := pkName_any B5 c5 Z z1 g X.length false (K1.out.row A3.out R3.out) HZB.out (by omega) (by rw [← HZE.out]; exact HC5.out) (by have := HPB2.out; omega) hg1
                   rw [HI.out.2.1, HI.out.2.2.1, HI.out.2.2.2, sbytes_text] at CM
                   have CM := Lib.hid CM
                   clear hg1 hk1)
                | (go_at_call 7
                   (with_reducible refine CM.out.mono ?_)
                   rintro e2 z2 ⟨rfl, hg2, hk2⟩
                   have K2 := Lib.hid (K1.out.trans hk2)
                   have c1'' := HSK.out _ (K2.out.below GW.out X3.out)
                   have G2 := Lib.hid hg2
                   clear hg2 hk2))
              all_goals go_wp2_with fail
              all_goals go_roundw
              all_goals first
                | exact ⟨j + 1, by omega, by go_num, G2.out, K2.out⟩
                | (simp [intOf]; omega)
          · obtain rfl : j = k := by omega
            have XS := Lib.hid XW.out.size
            go_wp2_with fail
            refine (AW.out _).mono ?_; rintro e w8 ⟨rfl, hb8⟩
            have X8 := Lib.hid (XW.out.trans (hb8.mono XW.out.size))
            have hg8 := (hb8.block g (Array.getElem?_eq_some_iff.1 HG.out).1).trans HG.out
            obtain ⟨-, k1, k2⟩ := cur_cells hg8
            have HZ2 := Lib.hid (show ((Pk.rows L P j).length : Int) = (Z.length : Int) from by rw [HZE.out])
            have k3 := k1
            rw [HZ2.out] at k3
            clear hb8 hg8 k1
            go_wp2_with fail
            go_ret
            exact ⟨rfl, X8.out⟩
  --]
end Go.Proofs.Ytehniclicjoiiaa
/-
  A law's argument that is a slice of texts, opened once for all laws: its cells, its length, the bounds. And tables of whatever depth, laid in a witness's world.
-/
namespace Go.Proofs.Ytehniclicjoiiaa
open Go.ChangeShapes Go.WideShapes Go.ChangeAt Go.RowKit

theorem open_texts {H : Type} {enc : TypeId × Value → H} {P : Program} {w : World} {base b0 : Nat} {r : Reach} {sp : Nat → Bool} {held : Bool} {t e : TypeId} {v : Value} {d : DataW H} {p : List MemPlace}
    (ht : P.underlying t = some (.slice e)) (he : P.underlying e = some .string) (hc : P.cellsOf e = 1) (hval : Value.okWide P w r b0 t v) (hd : DataW.Trod enc P w base sp held t v d p) :
    ∃ A c n L, v = .slice A n c ∧ L.length = n ∧ Strs w A L ∧ n ≤ c ∧ n ≤ maxLen ∧ ∀ x ∈ L, x.length ≤ maxLen := by
  obtain ⟨a0, n0, c0, rfl⟩ := okWide_slice ht hval
  obtain ⟨fuel, hf⟩ := hd
  rcases Go.Deep.open_strs ht he hc hf with ⟨h, _⟩ | ⟨a, len, cap, m, Sx, h, hb, hl, hm, hmm, _, hx⟩
  · simp [Value.cells] at h
    obtain ⟨rfl, rfl, rfl⟩ := h
    exact ⟨none, 0, 0, [], rfl, rfl, Strs.nil _ _, Nat.le_refl _, Nat.zero_le _, by simp⟩
  · simp [Value.cells] at h
    obtain ⟨rfl, rfl, rfl⟩ := h
    have hlm : n0 ≤ m := by rw [hmm]; split <;> omega
    refine ⟨some a, c0, n0, (List.range n0).map fun i => (Sx i).data.toList, rfl, by simp, fun k x hk => ?_, hl, by omega, fun x hx' => ?_⟩
    · have hk2 : k < n0 := by
        have := (List.getElem?_eq_some_iff.1 hk).1
        simpa using this
      have hkx : x = (Sx k).data.toList := by simpa [List.getElem?_map, hk2] using hk.symm
      have hcell := (hx k (by omega)).1
      subst hkx
      refine ⟨a, rfl, ?_, by rw [str_of]; exact hcell⟩
      have := World.block_lt_of_cell? _ _ hcell
      rwa [add_block] at this
    · obtain ⟨i, hi, rfl⟩ := List.mem_map.1 hx'
      have := (hx i (by have := List.mem_range.1 hi; omega)).2
      simpa using this

/-- The cells that a laid datum tells, one behind the other. -/
def flatCells : Nat → DataW Unit → List Value
  | 0, _ => []
  | _ + 1, .lit (.int k n) => [.int k n]
  | f + 1, .agg l => l.flatMap (flatCells f)
  | _ + 1, _ => [undef]
end Go.Proofs.Ytehniclicjoiiaa
