/-
  Texts of this claim, merged: NrPr, NrPrB.
-/
import Derived.Test.YtgajdfecajleiaaMg20
import Derived.Deep.RegionLaw
import Derived.Laws.Bits64b
import Derived.Laws.CopyOwn
import Derived.Laws.CopyRow
import Derived.Lib.MinMax
/-
  The walks of the program's layer 11: slices.Repeat of a row of three numbers, slices.Min of three.
-/
namespace Go.Proofs.Ytgajdfecajleiaa
open Go.RowKit

section
variable {P : Program}
/-- copy of so many elements of m cells, into a block that is known whole. -/
theorem run_copy_row_m (w : World) (dT sT ty elem : TypeId) (g o dLen dCap : Nat) (a : Addr) (sLen sCap m : Nat) (cur : Array Value) (t : TypeId) (cs : List Value)
    (hu : P.underlying dT = some (.slice elem)) (hs : (P.info? elem).map (·.size) = some m)
    (hg : w.heap[g]? = some (.cells cur t (0, 0))) (hn : cs.length = Nat.min sLen dLen * m)
    (hsrc : ∀ j v, cs[j]? = some v → w.cell? (a.add j) = some v) (hfit : o + cs.length ≤ cur.size) (h1 : ∀ v ∈ cs, v.oneCell' = true) :
    (Builtin.copy_ #[dT, sT] ty #[.slice (some ⟨g, o, none⟩) dLen dCap, .slice (some a) sLen sCap]).run P w =
      .ok (goInt (Nat.min sLen dLen)) (w.setRow g (cur.toList.take o ++ cs ++ cur.toList.drop (o + cs.length)).toArray) := by
  have hl := run_loadCells_list (P := P) w a cs hsrc
  have hst := run_storeCells_at P g o t cs 0 cur w hg (by simpa using hfit) h1
  cases hq : P.info? elem with
  | none => simp [hq] at hs
  | some i =>
    have hi : i.size = m := by simpa [hq] using hs
    simp [Builtin.copy_, run_underlying hu, Builtin.lenOf, Builtin.firstCells, Go.sizeOf, typeInfo, hq, hi, ← hn, hl, hst]
end
theorem pnMask (a : Nat) (ha : a < 18446744073709551616) : bits .and .u64 (a : Int) 4294967295 = ((a % 4294967296 : Nat) : Int) := by
  have h := bits_and_u64_nat a 4294967295 ha (by omega)
  have e : a &&& 4294967295 = a % 4294967296 := Nat.and_two_pow_sub_one_eq_mod a 32
  rw [e] at h
  exact h
set_option maxHeartbeats 4000000 in
set_option maxRecDepth 100000 in
theorem pnMul64_any (n : Nat) (hn : n ≤ 24) (w : World) :
    Calls Try.prog 55 #[.int .u64 1, .int .u64 n] w fun e w' => e = .returned (.tuple #[.int .u64 0, .int .u64 n]) ∧ w' = w := by
  have m1 : bits .and .u64 1 4294967295 = 1 := pnMask 1 (by omega)
  have m2 : bits .and .u64 (n : Int) 4294967295 = (n : Int) := by rw [pnMask n (by omega), Nat.mod_eq_of_lt (by omega)]
  have m3 : bits .and .u64 0 4294967295 = 0 := pnMask 0 (by omega)
  have z0 : IntKind.u64.wrap (IntKind.u64.wrap 0 / 4294967296) = 0 := by decide
  have d1 : (n : Int) / 4294967296 = 0 := by omega
  have w0 : IntKind.u64.wrap (n : Int) = (n : Int) := by rw [IntKind.wrap_u64]; omega
  go_enter Try.func55, Try.ntmps55
  go_wp2_with fail
  refine bodyPost_ret ?_ rfl ⟨rfl, rfl⟩
  simp [results, Try.results55, go_sem]
set_option maxHeartbeats 4000000 in
set_option maxRecDepth 100000 in
theorem pnMul_any (n : Nat) (hn : n ≤ 24) (w : World) :
    Calls Try.prog 43 #[.int .u64 1, .int .u64 n] w fun e w' => e = .returned (.tuple #[.int .u64 0, .int .u64 n]) ∧ w' = w := by
  have CM := Lib.hid (pnMul64_any n hn w)
  go_enter Try.func43, Try.ntmps43
  go_wp2_with fail
  refine CM.out.mono ?_; rintro e w' ⟨rfl, rfl⟩
  go_wp2_with fail
  refine bodyPost_ret ?_ rfl ⟨rfl, rfl⟩
  simp [results, Try.results43, go_sem]
set_option maxHeartbeats 4000000 in
set_option maxRecDepth 100000 in
theorem pnMin_any (g : Nat) (x y z : Int) (w : World) (h : w.heap[g]? = some (.cells #[.int .i64 x, .int .i64 y, .int .i64 z] 63 (0, 0))) :
    Calls Try.prog 18 #[.slice (some ⟨g, 0, none⟩) 3 3] w fun e w' => e = .returned (.int .i64 (min x (min y z))) ∧ w' = w := by
  obtain ⟨⟨k0, k1, k2⟩, -, -⟩ := row3 h
  clear h
  go_enter Try.func18, Try.ntmps18
  go_wp2_with fail
  go_loopw [3, 4] (fun v3 v4 w' => ∃ k : Nat, 1 ≤ k ∧ k ≤ 3 ∧ v4 = .int .i64 k ∧ v3 = .int .i64 (if k = 1 then x else if k = 2 then min x y else min x (min y z)) ∧ w' = w) (fun _ v4 _ => 3 - (intOf v4).toNat)
  case atStart => exact ⟨1, by decide, by decide, rfl, rfl, rfl⟩
  case round =>
    obtain ⟨k, hk1, hk3, rfl, rfl, rfl⟩ := hrel
    obtain rfl | rfl | rfl : k = 1 ∨ k = 2 ∨ k = 3 := by omega
    · go_wp2_with fail
      go_roundw
      case rel => exact ⟨2, by decide, by decide, rfl, rfl, trivial⟩
      case measure => decide
    · go_wp2_with fail
      go_roundw
      case rel => exact ⟨3, by decide, by decide, rfl, rfl, trivial⟩
      case measure => decide
    · go_wp2_with fail
      go_ret
      exact ⟨rfl, rfl⟩
end Go.Proofs.Ytgajdfecajleiaa
/-
  The walk of slices.Repeat of a row of three numbers.
-/
namespace Go.Proofs.Ytgajdfecajleiaa
open Go.RowKit

/-- A row of noughts whose first numbers are x's. -/
def xRow (x : Int) (n k : Nat) : List Value := tabV (List.replicate (3 * k) x ++ List.replicate (3 * n - 3 * k) 0)
theorem xRow_len (x : Int) {n k : Nat} (h : k ≤ n) : (xRow x n k).length = 3 * n := by
  unfold xRow
  rw [tabV_len, List.length_append, List.length_replicate, List.length_replicate]; omega
theorem xRow_all (x : Int) (n : Nat) : xRow x n n = tabV (List.replicate (3 * n) x) := by
  unfold xRow
  rw [Nat.sub_self, List.replicate_zero, List.append_nil]
theorem xRow_none (x : Int) (n : Nat) : xRow x n 0 = tabV (List.replicate (3 * n) 0) := rfl
/-- With so many more behind the first ones. -/
theorem xRow_copy (x : Int) (n k j : Nat) : (xRow x n k).take (3 * k) ++ tabV (List.replicate (3 * j) x) ++ (xRow x n k).drop (3 * k + 3 * j) = xRow x n (k + j) := by
  unfold xRow tabV
  rw [← List.map_take, ← List.map_drop, ← List.map_append, ← List.map_append]
  congr 1
  have l1 : (List.replicate (3 * k) x).length = 3 * k := List.length_replicate
  rw [List.take_append_of_le_length (by omega), List.take_of_length_le (by omega), List.drop_append, List.drop_of_length_le (by omega), List.nil_append, l1,
    show 3 * k + 3 * j - 3 * k = 3 * j by omega, List.drop_replicate, show 3 * (k + j) = 3 * k + 3 * j by omega, ← List.replicate_append_replicate]
  rw [show 3 * n - 3 * k - 3 * j = 3 * n - (3 * k + 3 * j) by omega]
theorem xRow_at (x : Int) {n k i : Nat} (h : i < 3 * k) : (xRow x n k)[i]? = some (.int .i64 x) := by
  unfold xRow tabV
  rw [List.getElem?_map, List.getElem?_append_left (by rw [List.length_replicate]; omega), List.getElem?_replicate, if_pos h]
  rfl
theorem step_copy_m {P : Program} {ops : Array Oper} {o : Oper} {a : Act} {w : World} {K : Act → World → Prop} {Q : Exit → Act → World → Prop} {E : Prop} (hgd : o.guard = none) (d s : Operand) (dT sT : TypeId)
    (ho : o.op = .call { callee := .builtin .copy, args := #[d, s], argTypes := #[dT, sT] }) (elem : TypeId) (m : Nat) (hu : P.underlying dT = some (.slice elem)) (hsz : (P.info? elem).map (·.size) = some m)
    (g off dLen dCap : Nat) (ad : Addr) (sLen sCap : Nat) (hd : a.eval d = .slice (some ⟨g, off, none⟩) dLen dCap) (hs : a.eval s = .slice (some ad) sLen sCap)
    (cur : List Value) (t : TypeId) (hg : w.heap[g]? = some (.cells cur.toArray t (0, 0))) (cs : List Value) (hn : cs.length = Nat.min sLen dLen * m)
    (hsrc : ∀ j v, cs[j]? = some v → w.cell? (ad.add j) = some v) (hfit : off + cs.length ≤ cur.length) (h1 : ∀ v ∈ cs, v.oneCell' = true)
    (h : K (a.put o.dst (goInt (Nat.min sLen dLen))) (w.setRow g (cur.take off ++ (cs ++ cur.drop (off + cs.length))).toArray)) :
    if Region.wanted o (yielded ops a.tmps) = true then Oper.wp P o a w K Q else E := by
  have hw : Region.wanted o (yielded ops a.tmps) = true := by simp [Region.wanted, hgd]
  rw [if_pos hw]
  have hrun := run_copy_row_m (P := P) w dT sT o.type elem g off dLen dCap ad sLen sCap m cur.toArray t cs hu hsz hg hn hsrc (by simpa using hfit) h1
  unfold Oper.wp
  simp [execOp, ho, resolve, invoke, builtin, hd, hs, hrun, Result.andThen]
  exact h
set_option maxHeartbeats 400000 in
set_option maxRecDepth 100000 in
theorem pnRepeat_any (x : Int) (g n : Nat) (hn : 1 ≤ n ∧ n ≤ 24) (w : World) (h : w.heap[g]? = some (.cells #[.int .i64 x, .int .i64 x, .int .i64 x] 63 (0, 0))) :
    Calls Try.prog 27 #[.slice (some ⟨g, 0, none⟩) 1 1, .int .i64 n] w fun e w' => e = .returned (.slice (some ⟨w.heap.size, 0, none⟩) n n) ∧ Below w.heap.size w w' ∧ TabAt w' w.heap.size (List.replicate (3 * n) x) := by
  have hgl := (Array.getElem?_eq_some_iff.1 h).1
  have CM := Lib.hid (pnMul_any n hn.2 w)
  have D1 : decide ((n : Int) < 0) = false := dec_f (by omega)
  have D2 : decide (9223372036854775807 < (n : Int)) = false := dec_f (by omega)
  have w0 : IntKind.u64.wrap (n : Int) = (n : Int) := by rw [IntKind.wrap_u64]; omega
  have w1 : IntKind.i64.wrap (n : Int) = (n : Int) := by rw [IntWalk.i64_in _ (by omega)]
  have hmk := run_make_k LTri (P := Try.prog) () 61 63 (.agg #[.int .i64 0, .int .i64 0, .int .i64 0]) 24 Try.underlying61 infoTri rfl .i64 .i64 n (by omega) (by omega)
  rw [tri_all] at hmk
  have XA := Lib.hid ((Below.refl w.heap.size w).alloc (Nat.le_refl _) (tabO (List.replicate (3 * n) 0)))
  have RA := Lib.hid (heap_alloc_new w (tabO (List.replicate (3 * n) 0)))
  have RG := Lib.hid ((XA.out.block g hgl).trans h)
  clear h
  go_enter Try.func27, Try.ntmps27
  go_wp2_with fail
  refine CM.out.mono ?_; rintro e w' ⟨rfl, rfl⟩
  go_upto_region 7 with fail
  have hc0 : ∀ W : World, W.heap[w'.heap.size]? = some (tabO (List.replicate (3 * n) 0)) → W.heap[g]? = some (.cells #[.int .i64 x, .int .i64 x, .int .i64 x] 63 (0, 0)) → (Builtin.copy_ #[61, 61] 3 #[.slice (some ⟨w'.heap.size, 0, none⟩) n n, .slice (some ⟨g, 0, none⟩) 1 1]).run Try.prog W = .ok (goInt 1) (W.setRow w'.heap.size (xRow x n 1).toArray) := by
    intro W hW hG
    have hr := run_copy_row_m (P := Try.prog) W 61 61 3 63 w'.heap.size 0 n n ⟨g, 0, none⟩ 1 1 3 (tabV (List.replicate (3 * n) 0)).toArray 63 [.int .i64 x, .int .i64 x, .int .i64 x]
      Try.underlying61 (by rw [show (Try.prog.info? 63).map (·.size) = some 3 by kernel_rfl]) hW (by rw [show Nat.min 1 n = 1 from Nat.min_eq_left hn.1]; rfl)
      (fun j v hj => by
        obtain ⟨⟨k0, k1, k2⟩, -, -⟩ := row3 hG
        match j, hj with
        | 0, hj => cases hj; exact k0
        | 1, hj => cases hj; exact k1
        | 2, hj => cases hj; exact k2)
      (by simp [tabV]; omega) (fun v hv => by
        simp only [List.mem_cons, List.not_mem_nil, or_false, or_self] at hv
        rw [hv]; rfl)
    rw [hr, show Nat.min 1 n = 1 from Nat.min_eq_left hn.1]
    have e := xRow_copy x n 0 1
    rw [xRow_none, Nat.zero_add] at e
    rw [← e]
    rfl
  have hc1 := hc0 _ RA.out RG.out
  clear hc0
  generalize hw1 : w'.alloc (tabO (List.replicate (3 * n) 0)) = w1 at XA RA RG hc1 ⊢
  clear hw1 hmk
  have HB := Lib.hid (show Below w'.heap.size w' (w1.setRow w'.heap.size (xRow x n 1).toArray) from below_setRow XA.out (Nat.le_refl _) _)
  have HR := Lib.hid (show (w1.setRow w'.heap.size (xRow x n 1).toArray).heap[w'.heap.size]? = some (.cells (xRow x n 1).toArray 63 (0, 0)) from setRow_heap w1 w'.heap.size _ _ _ _ RA.out)
  go_upto_region 8 with fail
  generalize w1.setRow w'.heap.size (xRow x n 1).toArray = w2 at HB HR ⊢
  generalize hbs : w'.heap.size = b at HB HR ⊢
  clear hc1 XA RA RG
  go_loopw [8] (fun v8 w3 => ∃ k : Nat, 1 ≤ k ∧ k ≤ n ∧ v8 = .int .i64 k ∧ Below b w' w3 ∧ w3.heap[b]? = some (.cells (xRow x n k).toArray 63 (0, 0))) (fun v8 _ => n - (intOf v8).toNat)
  case atStart => exact ⟨1, Nat.le_refl _, hn.1, rfl, HB.out, HR.out⟩
  case round =>
    obtain ⟨k, hk1, hkn, rfl, hb, hr⟩ := hrel
    have HB3 := Lib.hid hb
    have HR3 := Lib.hid hr
    clear hb hr
    by_cases hlt : k < n
    · have d1 : decide ((k : Int) < (n : Int)) = true := dec_t (by omega)
      have hkc : ¬ n = k := by omega
      go_upto_region 9 with fail
      obtain ⟨m, hm, hm1, hm2⟩ : ∃ m, Nat.min k (n - k) = m ∧ 1 ≤ m ∧ k + m ≤ n := ⟨_, rfl, by show 1 ≤ min k (n - k); omega, by show k + min k (n - k) ≤ n; omega⟩
      have hm3 : m ≤ k := by rw [← hm]; exact Nat.min_le_left _ _
      have hcs : (tabV (List.replicate (3 * m) x)).length = 3 * m := by rw [tabV_len, List.length_replicate]
      have HX := Lib.hid (show (xRow x n k).take (k * 3) ++ (tabV (List.replicate (3 * m) x) ++ (xRow x n k).drop (k * 3 + (tabV (List.replicate (3 * m) x)).length)) = xRow x n (k + m) from by
        rw [hcs, Nat.mul_comm k 3, ← List.append_assoc]; exact xRow_copy x n k m)
      have w2 : IntKind.i64.wrap ((k : Int) + (m : Int)) = ((k + m : Nat) : Int) := by rw [IntWalk.i64_in _ (by omega)]; omega
      have i0 : (0 : Int) ≤ (k : Int) := Int.natCast_nonneg k
      have i1 : (k : Int) ≤ (n : Int) := by omega
      have hsz : (Try.prog.info? 63).map (·.size) = some 3 := by kernel_rfl
      have hsrc : ∀ j v, (tabV (List.replicate (3 * m) x))[j]? = some v → wr.drew.cell? ((⟨b, 0, none⟩ : Addr).add j) = some v := fun j v hj => by
        have hjl : j < 3 * m := by have := (List.getElem?_eq_some_iff.1 hj).1; omega
        unfold tabV at hj
        rw [List.getElem?_map, List.getElem?_replicate, if_pos hjl] at hj
        cases hj
        rw [show ((⟨b, 0, none⟩ : Addr).add j) = ⟨b, j, none⟩ by unfold Addr.add; split <;> simp_all, cell_of_row wr.drew b j _ _ _ HR3.out, List.getElem?_toArray]
        exact xRow_at x (by have := hm3; omega)
      have hone : ∀ v ∈ tabV (List.replicate (3 * m) x), v.oneCell' = true := fun v hv => by
        obtain ⟨z, -, rfl⟩ := List.mem_map.1 hv
        rfl
      have HS := Lib.hid hsz
      have HSR := Lib.hid hsrc
      have HON := Lib.hid hone
      have HC1 := Lib.hid (show (tabV (List.replicate (3 * m) x)).length = Nat.min k (n - k) * 3 from by rw [hcs, hm, Nat.mul_comm])
      have HFI := Lib.hid (show k * 3 + (tabV (List.replicate (3 * m) x)).length ≤ (xRow x n k).length from by rw [hcs, xRow_len x hkn]; omega)
      have HRD := Lib.hid (show wr.drew.heap[b]? = some (.cells (xRow x n k).toArray 63 (0, 0)) from HR3.out)
      have HM := Lib.hid hm
      clear hsz hsrc hone hcs hm
      go_region_law (with_reducible refine step_copy_m (by rfl) (.tmp 41) (.tmp 44) 61 61 (by rfl) 63 3 Try.underlying61 HS.out b (k * 3) (n - k) (n - k) ⟨b, 0, none⟩ k n (by simp [go_sem]; done) (by simp [go_sem]; done) (xRow x n k) 63 HRD.out (tabV (List.replicate (3 * m) x)) HC1.out HSR.out HFI.out HON.out ?_)
      rw [HX.out, HM.out]
      have HB4 := Lib.hid (show Below b w' (wr.drew.setRow b (xRow x n (k + m)).toArray) from below_setRow HB3.out.drew (Nat.le_refl _) _)
      have HR4 := Lib.hid (show (wr.drew.setRow b (xRow x n (k + m)).toArray).heap[b]? = some (.cells (xRow x n (k + m)).toArray 63 (0, 0)) from setRow_heap wr.drew b _ _ _ _ HRD.out)
      generalize wr.drew.setRow b (xRow x n (k + m)).toArray = w4 at HB4 HR4 ⊢
      clear HX HSR HON HC1 HFI HRD
      go_wp2_with fail
      dsimp [Act.put]
      go_roundw
      case rel =>
        (repeat apply Exists.intro)
        exact ⟨⟨k + m, by omega, hm2, by rw [w2], HB4.out, HR4.out⟩, rfl⟩
      case measure => simp [intOf]; omega
    · obtain rfl : k = n := by omega
      have d1 : decide ((k : Int) < (k : Int)) = false := dec_f (by omega)
      rw [xRow_all] at HR3
      go_wp2_with fail
      go_ret
      exact ⟨by rw [hbs] <;> rfl, by rw [hbs]; exact HB3.out, by rw [hbs]; exact HR3.out⟩
end Go.Proofs.Ytgajdfecajleiaa
