/-
  Texts of this claim, merged: ClashTurnsWalk.
-/
import Derived.Test.YtbmmcmdopekccaaMg39
/-
  The walk of the law ClashTurns: it returns true.
-/
namespace Go.Proofs.Ytbmmcmdopekccaa
open Go.RowKit

set_option maxHeartbeats 16000000 in
set_option maxRecDepth 100000 in
theorem clashTurns_walk (s : ByteArray) (W : World) (_ws : s.size ≤ maxLen) :
    Calls Try.prog 5 #[.string s] W fun e w' => e = .returned (.bool true) ∧ Below W.heap.size W w' := by
  --[
  have AW := Lib.hid clAwake_any
  cases hm : routesP s.data.toList with
  | none =>
    have CR := Lib.hid (fun W => routes_none hm W)
    clear hm
    go_enter Try.func5, Try.ntmps5
    go_wp2_with fail
    refine (CR.out _).mono ?_; rintro e w1 ⟨A, n, c, rfl, hb1⟩
    have B1 := Lib.hid hb1
    clear hb1 CR
    go_wp2_with fail
    refine (AW.out _).mono ?_; rintro e w8 ⟨rfl, hb8⟩
    go_wp2
    go_ret
    exact ⟨rfl, B1.out.trans (hb8.mono B1.out.size)⟩
  | some L =>
    obtain ⟨hln, hT⟩ := routesP_few hm
    have CR := Lib.hid (fun W => routes_some hm W)
    have HTY := Lib.hid hT
    clear hm
    go_enter Try.func5, Try.ntmps5
    go_wp2_with fail
    refine (CR.out _).mono ?_; rintro e w1 ⟨A, c, rfl, -, hR1, hb1⟩
    have B1 := Lib.hid hb1
    have R1 := Lib.hid hR1
    obtain ⟨M, hML, hMR, hMP⟩ := hR1
    have HM := Lib.hid (And.intro hML (And.intro hMR hMP))
    have hMl : M.length = L.length := by rw [← hML, List.length_map]
    have HMl := Lib.hid hMl
    have T0 := Lib.hid (Below.refl w1.heap.size w1)
    have O0 := Lib.hid (show w1.ownsRow w1.heap.size 35 LRt.m (.slice none 0 0) (L.length - L.length) (LRt.all (M.drop L.length).reverse) from by
      rw [Nat.sub_self, ← hMl, List.drop_length]
      exact ⟨rfl, .inl ⟨rfl, rfl⟩⟩)
    have q0 : IntKind.i64.wrap ((L.length : Int) - 1) = (L.length : Int) - 1 := IntWalk.i64_in _ (by omega)
    clear hML hMR hMP hMl hb1 CR hT
    go_wp2_with fail
    go_loopw [5, 6] (fun v5 v6 w' => ∃ (r : Nat) (x : Int), r ≤ L.length ∧ x = (r : Int) - 1 ∧ v6 = .int .i64 x ∧ w'.ownsRow w1.heap.size 35 LRt.m v5 (L.length - r) (LRt.all (M.drop r).reverse) ∧ Below w1.heap.size w1 w') (fun _ v6 _ => (intOf v6 + 1).toNat)
    case atStart => exact ⟨L.length, _, Nat.le_refl _, rfl, rfl, O0.out, T0.out⟩
    case round =>
      clear q0
      obtain ⟨r, x, hr, hx, rfl, ho, hb⟩ := hrel
      have HB := Lib.hid hb
      have HO := Lib.hid ho
      cases r with
      | succ r =>
        obtain rfl : x = (r : Int) := by omega
        have hrl : r < L.length := by omega
        have hrm : r < M.length := by rw [HMl.out]; exact hrl
        obtain ⟨b, o, rfl, hbb, on⟩ := (HM.out.2.1.below rfl hb).at hrm
        have hdr := List.drop_eq_getElem_cons hrm
        generalize M[r] = m at on hdr
        have on : LRt.On wr b (o + r * 9) m := on
        obtain ⟨p0, p1, p2, p3, p4, p5, p6, p7, p8⟩ := rt_on on
        have d1 : decide ((0 : Int) ≤ (r : Int)) = true := dec_t (Int.natCast_nonneg r)
        have i0 : (0 : Int) ≤ (r : Int) := Int.natCast_nonneg r
        have i1 : (r : Int) < (L.length : Int) := by omega
        have q1 : IntKind.i64.wrap ((r : Int) - 1) = (r : Int) - 1 := IntWalk.i64_in _ (by omega)
        have HO1 := Lib.hid (ho.alloc (rtO m))
        have HR1 := Lib.hid (show LRt.Row (wr.alloc (rtO m)) (some ⟨wr.heap.size, 0, none⟩) [m] from Lies.Row.fresh (E := LRt) wr [m] 35)
        have HB1 := Lib.hid (hb.alloc hb.size (rtO m))
        have HS := Lib.hid hb.size
        have HD := Lib.hid hdr
        obtain ⟨j0, hi, hz0, hz1, hz2⟩ := info_parts infoRt
        clear hb ho on hdr hx
        go_wp2_with (at_builtin; refine wpList_append_at LRt rfl (.tmp 26) (.tmp 31) 22 rfl w1.heap.size 35 j0 _ 152 Try.underlying22 hi hz0 hz1 hz2 rfl _ (L.length - (r + 1)) (LRt.all (M.drop (r + 1)).reverse) rfl HO1.out (some ⟨wr.heap.size, 0, none⟩) 1 1 [m] rfl rfl HR1.out (by omega) (by omega) (by have := HS.out; simp; omega) ?_; intro v6 w6 hown6 hg6)
        have HB6 := Lib.hid (Below.grown HB1.out hg6 HB1.out.size (fun b hb => (HO1.out.lt b hb).1))
        have HO6 := Lib.hid (show w6.ownsRow w1.heap.size 35 LRt.m v6 (L.length - r) (LRt.all (M.drop r).reverse) from by
          rw [HD.out, List.reverse_cons, LRt.all_append, show L.length - r = L.length - (r + 1) + 1 from by omega]
          exact hown6)
        clear hown6 hg6 p0 p1 p2 p3 p4 p5 p6 p7 p8
        go_wp2_with fail
        go_roundw
        case rel => exact ⟨r, (r : Int) - 1, by omega, rfl, by go_num, HO6.out, HB6.out⟩
        case measure => simp [intOf]
      | zero =>
        obtain rfl : x = -1 := by omega
        have d1 : decide ((0 : Int) ≤ -1) = false := by decide
        obtain ⟨-, A', c', rfl, -, hv⟩ := Lies.Row.of_own (E := LRt) ho
        have hRv : RoutesIn wr A' L.reverse := by
          rw [List.drop_zero] at hv
          refine ⟨M.reverse, by rw [← HM.out.1, List.map_reverse], hv, fun m hm => (HM.out.2.2 m (List.mem_reverse.1 hm)).below hb⟩
        rw [Nat.sub_zero]
        have B2 := Lib.hid (B1.out.trans (hb.mono B1.out.size))
        have C1 := Lib.hid (pcMatrix_any A c L wr (R1.out.below hb) HTY.out (by omega))
        have C2 := Lib.hid (fun W' (hW : Below wr.heap.size wr W') => pcMatrix_any A' c' L.reverse W' (hRv.below hW) (fun r hr => HTY.out r (List.mem_reverse.1 hr)) (by rw [List.length_reverse]; omega))
        rw [List.length_reverse] at C2
        clear hb ho hv hRv HO HM hx
        go_wp2_with fail
        refine C1.out.mono ?_; rintro e w2 ⟨B, d, rfl, hS, hb2⟩
        have S2 := Lib.hid hS
        have B3 := Lib.hid hb2
        clear hS hb2 C1
        go_wp2_with fail
        refine (C2.out _ B3.out).mono ?_; rintro e w3 ⟨D, f, rfl, hS, hb3⟩
        have S3 := Lib.hid hS
        have S4 := Lib.hid (S2.out.below hb3)
        have B4 := Lib.hid (B2.out.trans (B3.out.trans (hb3.mono B3.out.size)  |>.mono B2.out.size))
        have E0 : ((L.length : Int) != (L.length : Int)) = false := by rw [bne_eq_false_iff_eq]
        rw [Cl.rows_len, Cl.rows_len, List.length_reverse]
        have TB := Lib.hid (Below.refl w3.heap.size w3)
        clear hS hb3 C2 S2 B3 B2
        go_wp2_with fail
        go_loopw [9, 10] (fun v9 _ w' => ∃ i : Nat, i ≤ L.length ∧ v9 = .int .i64 i ∧ Below w3.heap.size w3 w') (fun v9 _ _ => L.length - (intOf v9).toNat)
        case atStart => exact ⟨0, Nat.zero_le _, rfl, TB.out⟩
        case round =>
          obtain ⟨i, hi, rfl, hB⟩ := hrel
          have HBi := Lib.hid hB
          clear hB
          by_cases hlt : i < L.length
          · have d2 : decide ((i : Int) < (L.length : Int)) = true := dec_t (by omega)
            have i0 : (0 : Int) ≤ (i : Int) := Int.natCast_nonneg i
            have i1 : (i : Int) < (L.length : Int) := by omega
            go_wp2_with fail
            go_loopw [10] (fun v10 w' => ∃ k : Nat, k ≤ L.length ∧ v10 = .int .i64 k ∧ Below w3.heap.size w3 w') (fun v10 _ => L.length - (intOf v10).toNat)
            case atStart => exact ⟨0, Nat.zero_le _, rfl, HBi.out⟩
            case round =>
              clear HBi
              obtain ⟨k, hk, rfl, hB3⟩ := hrel
              have HBk := Lib.hid hB3
              clear hB3
              by_cases hkl : k < L.length
              · have d3 : decide ((k : Int) < (L.length : Int)) = true := dec_t (by omega)
                have k0 : (0 : Int) ≤ (k : Int) := Int.natCast_nonneg k
                have k1 : (k : Int) < (L.length : Int) := by omega
                have hturn := Cl.hit_turn L hlt hkl
                have hp : L.length - 1 - i < L.reverse.length := by rw [List.length_reverse]; omega
                have hq : L.length - 1 - k < L.reverse.length := by rw [List.length_reverse]; omega
                obtain ⟨bs, os, Si, si, rfl, hbs, x1, W1⟩ := (S4.out.below HBk.out).at (Cl.rows_at L hlt)
                obtain ⟨bt, ot, Sk, sk, rfl, hbt, x2, W2⟩ := (S3.out.below HBk.out).at (Cl.rows_at L.reverse hp)
                have l1 := Cl.row_len L i
                have l2 := Cl.row_len L.reverse (L.length - 1 - i)
                rw [List.length_reverse] at l2
                have H1 := Lib.hid (fun W' (hW : Below wr.heap.size wr W') => Cl.has_nat (W := W') Si si (by omega) (W1.below rfl hW) (Cl.row_w32 L i) (by omega) (Cl.has_row L i hkl))
                have H2 := Lib.hid (fun W' (hW : Below wr.heap.size wr W') => Cl.has_nat (W := W') Sk sk (by omega) (W2.below rfl hW) (Cl.row_w32 L.reverse (L.length - 1 - i)) (by omega) ((Cl.has_row L.reverse (L.length - 1 - i) hq).trans hturn))
                have w1' : IntKind.i64.wrap ((L.length : Int) - 1) = ((L.length - 1 : Nat) : Int) := by rw [IntWalk.i64_in _ (by omega)]; omega
                have w2' : IntKind.i64.wrap (((L.length - 1 : Nat) : Int) - (i : Int)) = ((L.length - 1 - i : Nat) : Int) := by rw [IntWalk.i64_in _ (by omega)]; omega
                have w3' : IntKind.i64.wrap (((L.length - 1 : Nat) : Int) - (k : Int)) = ((L.length - 1 - k : Nat) : Int) := by rw [IntWalk.i64_in _ (by omega)]; omega
                have v1' : (L.length : Int) - 1 = ((L.length - 1 : Nat) : Int) := by omega
                have v2' : ((L.length - 1 : Nat) : Int) - (i : Int) = ((L.length - 1 - i : Nat) : Int) := by omega
                have v3' : ((L.length - 1 : Nat) : Int) - (k : Int) = ((L.length - 1 - k : Nat) : Int) := by omega
                rw [List.length_reverse] at hp hq
                have p0' : (0 : Int) ≤ ((L.length - 1 - i : Nat) : Int) := Int.natCast_nonneg _
                have p1' : ((L.length - 1 - i : Nat) : Int) < (L.length : Int) := by omega
                generalize Cl.row L.reverse (L.length - 1 - i) = rowp at H2 x2
                generalize Cl.row L i = rowi at H1 x1
                generalize L.length - 1 - i = p at w2' v2' p0' p1' x2
                generalize L.length - 1 - k = q at w3' v3' H2
                generalize L.length - 1 = u at w1' w2' w3' v1' v2' v3'
                have E2 : (Cl.hit L i k != Cl.hit L i k) = false := by cases Cl.hit L i k <;> rfl
                generalize Cl.hit L i k = z at H1 H2 E2
                have V0 := Lib.hid (Below.refl wr.heap.size wr)
                clear hturn hp hq W1 W2 l1 l2
                go_upto_region 18 with fail
                go_quiet (first
                  | (go_at_call 9; with_reducible exact Calls.quiet_of_same (H1.out _ (below_drewN V0.out _)))
                  | (go_at_call 9; with_reducible exact Calls.quiet_of_same (H2.out _ (below_drewN V0.out _))))
                go_wp2_with fail
                go_roundw
                case rel => exact ⟨k + 1, by omega, by go_num, below_drewN HBk.out _⟩
                case measure => simp [intOf]; omega
              · obtain rfl : k = L.length := by omega
                have d3 : decide ((L.length : Int) < (L.length : Int)) = false := dec_f (by omega)
                go_wp2_with fail
                go_roundw
                case rel => exact ⟨i + 1, by omega, by go_num, HBk.out⟩
                case measure => simp [intOf]; omega
          · obtain rfl : i = L.length := by omega
            have d2 : decide ((L.length : Int) < (L.length : Int)) = false := dec_f (by omega)
            have BX := Lib.hid (B4.out.trans (HBi.out.mono B4.out.size))
            go_wp2_with fail
            refine (AW.out _).mono ?_; rintro e w8 ⟨rfl, hb8⟩
            go_wp2
            go_ret
            exact ⟨rfl, BX.out.trans (hb8.mono BX.out.size)⟩
  --]
end Go.Proofs.Ytbmmcmdopekccaa
