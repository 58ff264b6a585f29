/-
  Texts of this claim, merged: BitsetBackWalk.
-/
import Derived.Test.YtfgoakpdfnhddaaDoorMg08
/-
  The walk of the law BitsetBack: it returns true.
-/
namespace Go.Proofs.YtfgoakpdfnhddaaDoor
open Go.RowKit

theorem any_take {L : List Int} {k : Nat} {x : Int} (h : L[k]? = some x) (p : Int → Bool) : (L.take (k + 1)).any p = ((L.take k).any p || p x) := by
  rw [List.take_add_one, h, List.any_append]
  simp
theorem ints_take {L : List Nat} {k x : Nat} (h : L[k]? = some x) : ints (L.take (k + 1)) = ints (L.take k) ++ [(x : Int)] := by
  rw [List.take_add_one, h]
  exact ints_snoc _ _
set_option maxHeartbeats 16000000 in
set_option maxRecDepth 100000 in
theorem bitsetBack_walk (A : Option Addr) (c n : Nat) (L : List Nat) (m : Int) (W : World)
    (hn : L.length = n) (hL : LBt.Row W A L) (_hc : n ≤ c) (_hl : n ≤ maxLen) (hx : ∀ x ∈ L, x < 256) (hm : (Lit.int .u8 m).wf = true)
    (htab : Lib.TabIs Tryd.prog W "math/bits.deBruijn32tab" .u8 bitTabL) :
    Calls Tryd.prog 4 #[.slice A n c, .int .u8 m] W fun e w' => e = .returned (.bool true) ∧ Below W.heap.size W w' := by
  subst hn
  have bm := wf_u8 hm
  have T0 := Lib.hid (BitTab.of htab)
  have HL := Lib.hid hL
  have AW := Lib.hid (fun W' (hW : Below W.heap.size W W') => bsAwake_any W' (T0.out.below rfl hW))
  have X0 := Lib.hid (Below.refl W.heap.size W)
  clear htab hL hm
  by_cases g1 : 60 < L.length
  · have D1 : decide (60 < (L.length : Int)) = true := dec_t (by omega)
    go_enter Tryd.func4, Tryd.ntmps4
    go_wp2_with fail
    refine (AW.out _ X0.out).mono ?_; rintro e w8 ⟨rfl, hb8⟩
    go_wp2_with fail
    go_ret
    exact ⟨rfl, hb8⟩
  have D1 : decide (60 < (L.length : Int)) = false := dec_f (by omega)
  have hl60 : L.length ≤ 60 := by omega
  have w1 : IntKind.i64.wrap m = m := IntWalk.i64_in _ (by omega)
  have O0 := Lib.hid (show W.ownsRow W.heap.size 3 LNum.m (.slice none 0 0) (ints (L.take 0)).length (LNum.all (ints (L.take 0))) from ⟨rfl, .inl ⟨rfl, rfl⟩⟩)
  have HX := Lib.hid hx
  have hI60 : (ints L).length ≤ 60 := by rw [ints_len]; exact hl60
  have HXI := Lib.hid (show ∀ x ∈ ints L, -9223372036854775808 ≤ x ∧ x ≤ 9223372036854775807 from fun x hx2 => by
    unfold ints at hx2
    obtain ⟨y, hy, rfl⟩ := List.mem_map.1 hx2
    have := hx y hy
    omega)
  have HH := Lib.hid (fun k : Nat => Bs.has_ofL m (k : Int) (ints L))
  have HOL := Lib.hid (show (Bs.ofL m (ints L)).length ≤ 8 from by rw [Bs.ofL_len, Bs.new_len]; split <;> omega)
  have HW := Lib.hid (Bs.W32.ofL m (ints L))
  obtain ⟨i0, hi, hz0, hz1, hz2⟩ := info_parts infoNumB
  clear g1 hx
  go_enter Tryd.func4, Tryd.ntmps4
  go_wp2_with fail
  go_loopw [6, 7] (fun v6 v7 w' => ∃ k : Nat, k ≤ L.length ∧ v7 = .int .i64 k ∧ w'.ownsRow W.heap.size 3 LNum.m v6 (ints (L.take k)).length (LNum.all (ints (L.take k))) ∧ Below W.heap.size W w') (fun _ v7 _ => L.length - (intOf v7).toNat)
  case atStart => exact ⟨0, Nat.zero_le _, rfl, O0.out, X0.out⟩
  case round =>
    obtain ⟨k, hk, rfl, ho, hb⟩ := hrel
    have HB := Lib.hid hb
    have HO := Lib.hid ho
    have HS := Lib.hid hb.size
    by_cases hlt : k < L.length
    · have hy := List.getElem?_eq_getElem hlt
      have hyx := HX.out _ (List.getElem_mem hlt)
      obtain ⟨b1, o1, rfl, g1, on⟩ := (HL.out.below rfl hb).at hlt
      have HT := Lib.hid (ints_take hy)
      generalize L[k] = x at hy hyx on HT
      have c0 := bt_on on
      rw [show k * LBt.m = k from Nat.mul_one k] at c0
      have d1 : decide ((k : Int) < (L.length : Int)) = true := dec_t (by omega)
      have j0 : (0 : Int) ≤ (k : Int) := Int.natCast_nonneg k
      have j1 : (k : Int) < (L.length : Int) := by omega
      have w2 : IntKind.i64.wrap (x : Int) = (x : Int) := IntWalk.i64_in _ (by omega)
      have HTL := Lib.hid (show (ints (L.take k)).length ≤ 60 from by rw [ints_len, List.length_take]; omega)
      have HR1 := Lib.hid (num_row1 wr (x : Int) rfl)
      have HO1 := Lib.hid (HO.out.alloc (.cells #[.int .i64 (x : Int)] 3))
      have HB1 := Lib.hid (HB.out.alloc HS.out (.cells #[.int .i64 (x : Int)] 3))
      clear hy hyx on hb ho
      go_wp2_with (at_builtin; refine wpList_append_at LNum rfl (.tmp 28) (.tmp 34) 25 rfl W.heap.size 3 i0 _ 8 Tryd.underlying25 hi hz0 hz1 hz2 rfl _ (ints (L.take k)).length (LNum.all (ints (L.take k))) rfl HO1.out (some ⟨wr.heap.size, 0, none⟩) 1 1 [(x : Int)] rfl rfl HR1.out (by have := HTL.out; omega) (by have := HTL.out; omega) (by have := HS.out; simp; omega) ?_; intro v4 w4 hown4 hg4)
      have HB4 := Lib.hid (Below.grown HB1.out hg4 HB1.out.size (fun b hb => (HO1.out.lt b hb).1))
      have HO4 := Lib.hid (show w4.ownsRow W.heap.size 3 LNum.m v4 (ints (L.take (k + 1))).length (LNum.all (ints (L.take (k + 1)))) from by rw [HT.out, List.length_append, LNum.all_append]; exact hown4)
      clear hown4 hg4
      go_wp2_with fail
      go_roundw
      case rel => exact ⟨k + 1, by omega, by go_num, HO4.out, HB4.out⟩
      case measure => simp [intOf]; omega
    · obtain rfl : k = L.length := by omega
      have d1 : decide ((L.length : Int) < (L.length : Int)) = false := dec_f (by omega)
      rw [List.take_length] at ho
      obtain ⟨-, B, d, rfl, hd, hR⟩ := Lies.Row.of_own (E := LNum) ho
      have HR := Lib.hid (fun W' (hW : Below wr.heap.size wr W') => hR.below rfl hW)
      have CO := Lib.hid (bpOf_any m B d (ints L) wr (by omega) hR (by omega) HXI.out)
      generalize ints L = I at CO HR HH HOL HW hI60 ⊢
      generalize hlo : Bs.ofL m I = lo at CO HH HOL HW
      have CL := Lib.hid (fun D e W' h (hW : Below W.heap.size W W') => bpList_any D e lo W' h HW.out (by have := HOL.out; omega) (T0.out.below rfl hW))
      have CH := Lib.hid (fun D e (k : Nat) (hk : k ≤ 256) W' h => bpHas_any D e lo (k : Int) W' (by omega) h HW.out (by have := HOL.out; omega))
      have HLL := Lib.hid (show (Bs.list lo).length ≤ 256 from Nat.le_trans (Bs.list_len lo) (by have := HOL.out; omega))
      have HRI := Lib.hid (Bs.list_rise lo)
      have HLA := Lib.hid (fun k : Nat => Bs.list_any (L := lo) (k := (k : Int)))
      generalize Bs.list lo = O at CL HLL HRI HLA
      clear ho hd hR hb hlo HO hk HX HXI HL hl60
      go_wp2_with fail
      refine CO.out.mono ?_; rintro e w2 he
      obtain ⟨D, f, rfl, hRD, -, hb2⟩ := he.yes
      have Y2 := Lib.hid (HB.out.trans (hb2.mono HB.out.size))
      have HR2 := Lib.hid (fun W' (hW : Below w2.heap.size w2 W') => HR.out _ (hb2.trans (hW.mono hb2.size)))
      have RD := Lib.hid hRD
      clear hRD hb2 he CO HR HB
      go_wp2_with fail
      refine (CL.out _ _ _ RD.out Y2.out).mono ?_; rintro e w3 ⟨E, g, rfl, hRE, -, hb3⟩
      have Y3 := Lib.hid (Y2.out.trans (hb3.mono Y2.out.size))
      have HR3 := Lib.hid (fun W' (hW : Below w3.heap.size w3 W') => HR2.out _ (hb3.trans (hW.mono hb3.size)))
      have RD3 := Lib.hid (fun W' (hW : Below w3.heap.size w3 W') => (RD.out.below rfl hb3).below rfl hW)
      have RE := Lib.hid (fun W' (hW : Below w3.heap.size w3 W') => hRE.below rfl hW)
      have T3 := Lib.hid (Below.refl w3.heap.size w3)
      clear hRE hb3 HR2 RD Y2 CL
      go_wp2_with fail
      go_loopw [10] (fun v w' => ∃ k : Nat, k + 1 ≤ O.length + 1 ∧ v = .int .i64 ((k + 1 : Nat) : Int) ∧ Below w3.heap.size w3 w') (fun v _ => O.length + 1 - (intOf v).toNat)
      case atStart => exact ⟨0, by omega, rfl, T3.out⟩
      case round =>
        obtain ⟨k, hk, rfl, hb⟩ := hrel
        have HB4 := Lib.hid hb
        by_cases hlt : k + 1 < O.length
        · have d1 : decide (((k + 1 : Nat) : Int) < (O.length : Int)) = true := dec_t (by omega)
          have hrow := RE.out _ hb
          obtain ⟨b1, o1, rfl, g1, on⟩ := hrow.at hlt
          obtain ⟨b2, o2, he, g2, on2⟩ := hrow.at (show k < O.length by omega)
          cases he
          have hris := List.pairwise_iff_getElem.1 HRI.out k (k + 1) (by omega) hlt (by omega)
          generalize O[k + 1] = y at on hris
          generalize O[k] = y' at on2 hris
          have r0 := num_on on
          have s0 := num_on on2
          rw [show (k + 1) * LNum.m = k + 1 from Nat.mul_one _] at r0
          rw [show k * LNum.m = k from Nat.mul_one k] at s0
          have D : decide (y ≤ y') = false := dec_f (by omega)
          have q1 : IntKind.i64.wrap (((k + 1 : Nat) : Int) - 1) = (k : Int) := by have := HLL.out; rw [IntWalk.i64_in _ (by omega)]; omega
          have i0 : (0 : Int) ≤ (k : Int) := Int.natCast_nonneg k
          have i1 : (k : Int) < (O.length : Int) := by omega
          have i2 : (0 : Int) ≤ ((k + 1 : Nat) : Int) := Int.natCast_nonneg _
          have i3 : ((k + 1 : Nat) : Int) < (O.length : Int) := by omega
          have HLT := Lib.hid hlt
          have hk6 : k + 1 ≤ 256 := by have := HLL.out; omega
          clear on on2 hris hb hrow hlt
          generalize hkk : k + 1 = k1 at d1 q1 i2 i3 r0 hk6 ⊢
          have HKK := Lib.hid hkk
          clear hkk
          go_upto_region 14 with fail
          go_quiet (fail)
          go_wp2_with fail
          go_roundw
          case rel => exact ⟨k1, by have := HLT.out; have := HKK.out; omega, by go_num, below_drewN HB4.out _⟩
          case measure => simp [intOf]; have := HLT.out; have := HKK.out; omega
        · have d1 : decide (((k + 1 : Nat) : Int) < (O.length : Int)) = false := dec_f (by omega)
          have Y5 := Lib.hid (Y3.out.trans (HB4.out.mono Y3.out.size))
          have HR5 := Lib.hid (fun W' (hW : Below wr.heap.size wr W') => HR3.out _ (HB4.out.trans (hW.mono HB4.out.size)))
          have RD5 := Lib.hid (fun W' (hW : Below wr.heap.size wr W') => RD3.out _ (HB4.out.trans (hW.mono HB4.out.size)))
          have RE5 := Lib.hid (fun W' (hW : Below wr.heap.size wr W') => RE.out _ (HB4.out.trans (hW.mono HB4.out.size)))
          have T5 := Lib.hid (Below.refl wr.heap.size wr)
          generalize k + 1 = k1 at hlt d1 hk ⊢
          generalize hwr : wr = w5 at Y5 HR5 RD5 RE5 T5 ⊢
          clear hb hwr HB4 RE RD3 HR3 Y3 T3
          go_wp2_with fail
          go_loopw [11, 12, 13, 14, 15] (fun v11 _ _ _ _ w' => ∃ k : Nat, k ≤ 256 ∧ v11 = .int .i64 k ∧ Below w5.heap.size w5 w') (fun v11 _ _ _ _ _ => 256 - (intOf v11).toNat)
          case atStart => exact ⟨0, Nat.zero_le _, rfl, T5.out⟩
          case round =>
            clear hk d1
            obtain ⟨k, hk, rfl, hb⟩ := hrel
            have HB6 := Lib.hid hb
            by_cases hlt : k < 256
            · have d1 : decide ((k : Int) < 256) = true := dec_t (by omega)
              have KI := Lib.hid (show ((I.any fun x => decide (x = (k : Int))) && decide ((k : Int) < m)) = Bs.has lo (k : Int) from by
                rw [HH.out k, decide_eq_true (Int.natCast_nonneg k), Bool.true_and, Bool.and_comm])
              have KO := Lib.hid (HLA.out k)
              have C6 := Lib.hid (fun W' (hW : Below w5.heap.size w5 W') => CH.out D f k hk W' (RD5.out _ hW))
              generalize Bs.has lo (k : Int) = h at KI KO C6
              generalize hp : (fun x : Int => decide (x = (k : Int))) = p at KI KO
              have HP := Lib.hid (fun x : Int => show p x = (x == (k : Int)) from by rw [← hp, Bool.eq_iff_iff, beq_iff_eq, decide_eq_true_eq])
              generalize hz : decide ((k : Int) < m) = z at KI
              have HZ := Lib.hid hz
              have T6 := Lib.hid (show Below w5.heap.size w5 wr from hb)
              have hm2 : (k : Int) < 256 := by omega
              clear hb hp hz
              go_wp2_with fail
              go_loopw [12, 13] (fun v12 v13 w' => ∃ j : Nat, j ≤ I.length ∧ v13 = .int .i64 j ∧ v12 = .bool ((I.take j).any p && z) ∧ Below w5.heap.size w5 w') (fun _ v13 _ => I.length - (intOf v13).toNat)
              case atStart => exact ⟨0, Nat.zero_le _, rfl, rfl, T6.out⟩
              case round =>
                obtain ⟨j, hj, rfl, rfl, hb⟩ := hrel
                have HB7 := Lib.hid hb
                by_cases hjt : j < I.length
                · have hy := List.getElem?_eq_getElem hjt
                  obtain ⟨b1, o1, rfl, g1, on⟩ := (HR5.out _ hb).at hjt
                  have HT := Lib.hid (any_take hy p)
                  generalize I[j] = x at hy on HT
                  have c0 := num_on on
                  rw [show j * LNum.m = j from Nat.mul_one j] at c0
                  have e1 : decide ((j : Int) < (I.length : Int)) = true := dec_t (by omega)
                  have j0 : (0 : Int) ≤ (j : Int) := Int.natCast_nonneg j
                  have j1 : (j : Int) < (I.length : Int) := by omega
                  have hpx := HP.out x
                  have HT2 := Lib.hid (show ((I.take (j + 1)).any p && z) = (((I.take j).any p && z) || (p x && z)) from by rw [HT.out]; cases (I.take j).any p <;> cases p x <;> cases z <;> rfl)
                  have hzz := HZ.out
                  generalize ((I.take j).any p && z) = u at HT2 ⊢
                  generalize p x = v at hpx HT2
                  have hpx2 : (x == (k : Int)) = v := hpx.symm
                  clear hb hy on hpx HT
                  cases u <;> cases v <;> cases z
                  all_goals (have HT3 := Lib.hid HT2.out)
                  all_goals go_wp2_with fail
                  all_goals go_roundw
                  all_goals first
                    | exact ⟨j + 1, by omega, by go_num, by rw [HT3.out] <;> rfl, HB7.out⟩
                    | (simp [intOf]; omega)
                · obtain rfl : j = I.length := by omega
                  have e1 : decide ((I.length : Int) < (I.length : Int)) = false := dec_f (by omega)
                  rw [List.take_length, KI.out]
                  have T7 := Lib.hid (show Below w5.heap.size w5 wr from hb)
                  clear hb
                  go_wp2_with fail
                  go_loopw [14, 15] (fun v14 v15 w' => ∃ j : Nat, j ≤ O.length ∧ v15 = .int .i64 j ∧ v14 = .bool ((O.take j).any p) ∧ Below w5.heap.size w5 w') (fun _ v15 _ => O.length - (intOf v15).toNat)
                  case atStart => exact ⟨0, Nat.zero_le _, rfl, rfl, T7.out⟩
                  case round =>
                    clear e1
                    obtain ⟨j, hj, rfl, rfl, hb⟩ := hrel
                    have HB8 := Lib.hid hb
                    have hO := HLL.out
                    by_cases hjt : j < O.length
                    · have hy := List.getElem?_eq_getElem hjt
                      obtain ⟨b1, o1, rfl, g1, on⟩ := (RE5.out _ hb).at hjt
                      have HT := Lib.hid (any_take hy p)
                      generalize O[j] = x at hy on HT
                      have c0 := num_on on
                      rw [show j * LNum.m = j from Nat.mul_one j] at c0
                      have e1 : decide ((j : Int) < (O.length : Int)) = true := dec_t (by omega)
                      have j0 : (0 : Int) ≤ (j : Int) := Int.natCast_nonneg j
                      have j1 : (j : Int) < (O.length : Int) := by omega
                      have hpx := HP.out x
                      generalize (O.take j).any p = u at HT ⊢
                      generalize p x = v at hpx HT
                      have hpx2 : (x == (k : Int)) = v := hpx.symm
                      clear hb hy on hpx
                      cases u <;> cases v
                      all_goals (have HT3 := Lib.hid HT.out)
                      all_goals go_wp2_with fail
                      all_goals go_roundw
                      all_goals first
                        | exact ⟨j + 1, by omega, by go_num, by rw [HT3.out] <;> rfl, HB8.out⟩
                        | (simp [intOf]; omega)
                    · obtain rfl : j = O.length := by omega
                      have e1 : decide ((O.length : Int) < (O.length : Int)) = false := dec_f (by omega)
                      rw [List.take_length, KO.out]
                      have E : (h != h) = false := bne_self_eq_false h
                      clear hb
                      go_wp2_with fail
                      refine (C6.out _ HB8.out).mono ?_; rintro e w8 ⟨rfl, q, rfl⟩
                      go_wp2_with fail
                      go_roundw
                      case rel => exact ⟨k + 1, by omega, by go_num, below_drewN HB8.out q⟩
                      case measure => simp [intOf]; omega
            · obtain rfl : k = 256 := by omega
              have d1 : decide (((256 : Nat) : Int) < 256) = false := by decide
              have Y6 := Lib.hid (Y5.out.trans (hb.mono Y5.out.size))
              clear hb
              go_wp2_with fail
              refine (AW.out _ Y6.out).mono ?_; rintro e w8 ⟨rfl, hb8⟩
              have Y8 := Lib.hid (Y6.out.trans (hb8.mono Y6.out.size))
              clear hb8
              go_wp2_with fail
              go_ret
              exact ⟨rfl, Y8.out⟩
end Go.Proofs.YtfgoakpdfnhddaaDoor
