/-
  Texts of this claim, merged: BitsetAddsWalk.
-/
import Derived.Test.YtfgoakpdfnhddaaDoorMg08
/-
  The walk of the law BitsetAdds: it returns true.
-/
namespace Go.Proofs.YtfgoakpdfnhddaaDoor
open Go.RowKit

set_option maxHeartbeats 16000000 in
set_option maxRecDepth 100000 in
theorem bitsetAdds_walk (A : Option Addr) (c m : Nat) (L : List Nat) (n k : Int) (W : World)
    (hm : L.length = m) (hL : LWd.Row W A L) (_hc : m ≤ c) (_hl : m ≤ maxLen) (hw : Bs.W32 L) (hn : (Lit.int .u8 n).wf = true) (hk : (Lit.int .u8 k).wf = true)
    (htab : Lib.TabIs Tryd.prog W "math/bits.deBruijn32tab" .u8 bitTabL) :
    Calls Tryd.prog 6 #[.slice A m c, .int .u8 n, .int .u8 k] W fun e w' => e = .returned (.bool true) ∧ Below W.heap.size W w' := by
  subst hm
  have bn := wf_u8 hn
  have bk := wf_u8 hk
  have T0 := Lib.hid (BitTab.of htab)
  have HL := Lib.hid hL
  have AW := Lib.hid (fun W' (hW : Below W.heap.size W W') => bsAwake_any W' (T0.out.below rfl hW))
  have X0 := Lib.hid (Below.refl W.heap.size W)
  clear htab hL hn hk
  by_cases g1 : 8 < L.length
  · have D1 : decide (8 < (L.length : Int)) = true := dec_t (by omega)
    go_enter Tryd.func6, Tryd.ntmps6
    go_wp2_with fail
    refine (AW.out _ X0.out).mono ?_; rintro e w8 ⟨rfl, hb8⟩
    go_wp2_with fail
    go_ret
    exact ⟨rfl, hb8⟩
  have D1 : decide (8 < (L.length : Int)) = false := dec_f (by omega)
  have w1 : IntKind.i64.wrap n = n := IntWalk.i64_in _ (by omega)
  have w2 : IntKind.i64.wrap k = k := IntWalk.i64_in _ (by omega)
  have q0 : IntKind.i64.wrap (32 * (L.length : Int)) = 32 * (L.length : Int) := IntWalk.i64_in _ (by omega)
  have hF : decide (n < 32 * (L.length : Int)) = Bs.fits L n := by rw [Bs.fits_lt, decide_eq_decide]; omega
  have hb1 : Bs.has (Bs.put L n) n = Bs.fits L n := by
    rw [Bs.has_put, decide_eq_true rfl, Bool.true_and]
    cases e : Bs.has L n
    · rfl
    · rw [Bs.has_fits e]; rfl
  have hb2 := Bs.has_put L n k
  have hpl := Bs.put_len L n
  have hll := Bs.list_put_len L n
  have hpp := Bs.put_put L n
  have hlb : (Bs.list L).length ≤ 1000 := Nat.le_trans (Bs.list_len L) (by omega)
  have hWp : Bs.W32 (Bs.put L n) := hw.put n
  have PW := Lib.hid (bpWith_any A c L n W (by omega) HL.out hw (by omega))
  have P1 := Lib.hid (fun B d W h => bpHas_any B d (Bs.put L n) n W (by omega) h hWp (by omega))
  have P2 := Lib.hid (fun B d W h => bpHas_any B d (Bs.put L n) k W (by omega) h hWp (by omega))
  have P3 := Lib.hid (fun W' (hW : Below W.heap.size W W') => bpHas_any A c L k W' (by omega) (HL.out.below rfl hW) hw (by omega))
  have P4 := Lib.hid (fun W' (hW : Below W.heap.size W W') => bpHas_any A c L n W' (by omega) (HL.out.below rfl hW) hw (by omega))
  have P5 := Lib.hid (fun B d W h => bpWith_any B d (Bs.put L n) n W (by omega) h hWp (by omega))
  rw [hpp] at P5
  have P6 := Lib.hid (fun B d W h h' => bpList_any B d (Bs.put L n) W h hWp (by omega) h')
  have P7 := Lib.hid (fun W' (hW : Below W.heap.size W W') => bpList_any A c L W' (HL.out.below rfl hW) hw (by omega) (T0.out.below rfl hW))
  rw [hb1] at P1
  rw [hb2] at P2
  have hNK : (n == k) = decide (k = n) := by rw [Bool.eq_iff_iff, beq_iff_eq, decide_eq_true_eq]; exact eq_comm
  have hl1 : (Bs.put L n).length ≤ 1000000 := by omega
  have E0 : (((Bs.put L n).length : Int) != (L.length : Int)) = false := by rw [bne_eq_false_iff_eq]; omega
  generalize Bs.put L n = lp at PW P1 P2 P5 P6 hll hl1 E0
  generalize Bs.list lp = lA at P6 hll
  generalize Bs.list L = lB at P7 hll hlb
  generalize hf : Bs.fits L n = F at P1 P2 hF hll
  generalize Bs.has L k = a at P2 P3
  generalize decide (k = n) = b at P2 hNK
  generalize hhn : Bs.has L n = h at P4 hll
  have HF := Lib.hid hF
  have HNK := Lib.hid hNK
  have HLL := Lib.hid hll
  have HLB := Lib.hid hlb
  have HL1 := Lib.hid hl1
  have S1 := Lib.hid (fun B d (E : Option Addr) e W (h : LWd.Row W B lp) (h' : LWd.Row W E lp) => OneIs.to (v := .bool true) (congrArg Value.bool (decide_eq_true rfl)) (rbSame_any B d lp.length lp E e lp.length lp W rfl h hl1 rfl h'))
  clear hF hNK hb1 hb2 hpl hll hpp hlb hf hhn hWp hl1 g1
  go_enter Tryd.func6, Tryd.ntmps6
  go_wp2_with fail
  refine PW.out.mono ?_; rintro e w3 he
  obtain ⟨B, d, rfl, hR, -, hb⟩ := he.yes
  have Y3 := Lib.hid hb
  have R3 := Lib.hid hR
  clear hb hR he PW
  go_wp2_with fail
  refine (P1.out _ _ _ R3.out).mono ?_; rintro e w4 ⟨rfl, q, rfl⟩
  have Y4 := Lib.hid (below_drewN Y3.out q)
  have R4 := Lib.hid (R3.out.below rfl (below_drewN (Below.refl w3.heap.size w3) q))
  generalize w3.drewN q = w4 at Y4 R4 ⊢
  clear Y3 R3
  have hF := HF.out
  have EF : (F != F) = false := bne_self_eq_false F
  go_wp2_with fail
  refine (P2.out _ _ _ R4.out).mono ?_; rintro e w5 ⟨rfl, q, rfl⟩
  have Y5 := Lib.hid (below_drewN Y4.out q)
  have R5 := Lib.hid (R4.out.below rfl (below_drewN (Below.refl w4.heap.size w4) q))
  generalize w4.drewN q = w5 at Y5 R5 ⊢
  clear Y4 R4
  go_wp2_with fail
  refine (P3.out _ Y5.out).mono ?_; rintro e w6 ⟨rfl, q, rfl⟩
  have Y6 := Lib.hid (below_drewN Y5.out q)
  have R6 := Lib.hid (R5.out.below rfl (below_drewN (Below.refl w5.heap.size w5) q))
  generalize w5.drewN q = w6 at Y6 R6 ⊢
  clear Y5 R5
  have hNK := HNK.out
  cases F
  case false =>
    have hle := HLL.out
    rw [if_neg (fun e => by cases e.1)] at hle
    have E1 : ((lA.length : Int) == (lB.length : Int)) = true := by rw [beq_iff_eq]; omega
    have E2 : IntKind.i64.wrap (lB.length : Int) = (lB.length : Int) := IntWalk.i64_in _ (by have := HLB.out; omega)
    clear hle
    cases a <;> cases b
    all_goals go_wp2_with fail
    all_goals (
      refine (AW.out _ Y6.out).mono ?_; rintro e w8 ⟨rfl, hb⟩
      have Y8 := Lib.hid (Y6.out.trans (hb.mono Y6.out.size))
      have R8 := Lib.hid (R6.out.below rfl hb)
      clear hb Y6 R6
      go_wp2_with fail
      refine (P5.out _ _ _ R8.out).mono ?_; rintro e w9 he
      obtain ⟨B9, d9, rfl, hR9, -, hb⟩ := he.yes
      have Y9 := Lib.hid (Y8.out.trans (hb.mono Y8.out.size))
      have R9 := Lib.hid (R8.out.below rfl hb)
      have CS := Lib.hid (S1.out B9 d9 B d w9 hR9 R9.out)
      clear hb hR9 he Y8 R8
      go_wp2_with fail
      refine CS.out.mono ?_; rintro e wA ⟨rfl, hb⟩
      have YA := Lib.hid (Y9.out.trans (hb.mono Y9.out.size))
      have RA := Lib.hid (R9.out.below rfl hb)
      clear hb CS Y9 R9
      go_wp2_with fail
      refine (P6.out _ _ _ RA.out (T0.out.below rfl YA.out)).mono ?_; rintro e wB ⟨B1, d1, rfl, -, -, hb⟩
      have YB := Lib.hid (YA.out.trans (hb.mono YA.out.size))
      clear hb YA RA
      go_wp2_with fail
      refine (P7.out _ YB.out).mono ?_; rintro e wC ⟨B2, d2, rfl, -, -, hb⟩
      have YC := Lib.hid (YB.out.trans (hb.mono YB.out.size))
      clear hb YB
      go_wp2_with fail
      go_ret
      exact ⟨by first | rfl | trivial, YC.out⟩)
  case true =>
    cases a <;> cases b
    all_goals go_wp2_with fail
    all_goals (
      refine (P4.out _ Y6.out).mono ?_; rintro e w7 ⟨rfl, q, rfl⟩
      have Y7 := Lib.hid (below_drewN Y6.out q)
      have R7 := Lib.hid (R6.out.below rfl (below_drewN (Below.refl w6.heap.size w6) q))
      generalize w6.drewN q = w7 at Y7 R7 ⊢
      clear Y6 R6
      cases h)
    all_goals first
      | (have hle := HLL.out
         rw [if_pos (by first | decide | exact ⟨rfl, rfl⟩)] at hle
         have E1 : ((lA.length : Int) == (lA.length : Int)) = true := beq_self_eq_true _
         have E2 : IntKind.i64.wrap ((lB.length : Int) + 1) = (lA.length : Int) := by rw [IntWalk.i64_in _ (by have := HLB.out; omega)]; omega
         clear hle
         go_wp2_with fail
         refine (AW.out _ Y7.out).mono ?_; rintro e w8 ⟨rfl, hb⟩
         have Y8 := Lib.hid (Y7.out.trans (hb.mono Y7.out.size))
         have R8 := Lib.hid (R7.out.below rfl hb)
         clear hb Y7 R7
         go_wp2_with fail
         refine (P5.out _ _ _ R8.out).mono ?_; rintro e w9 he
         obtain ⟨B9, d9, rfl, hR9, -, hb⟩ := he.yes
         have Y9 := Lib.hid (Y8.out.trans (hb.mono Y8.out.size))
         have R9 := Lib.hid (R8.out.below rfl hb)
         have CS := Lib.hid (S1.out B9 d9 B d w9 hR9 R9.out)
         clear hb hR9 he Y8 R8
         go_wp2_with fail
         refine CS.out.mono ?_; rintro e wA ⟨rfl, hb⟩
         have YA := Lib.hid (Y9.out.trans (hb.mono Y9.out.size))
         have RA := Lib.hid (R9.out.below rfl hb)
         clear hb CS Y9 R9
         go_wp2_with fail
         refine (P6.out _ _ _ RA.out (T0.out.below rfl YA.out)).mono ?_; rintro e wB ⟨B1, d1, rfl, -, -, hb⟩
         have YB := Lib.hid (YA.out.trans (hb.mono YA.out.size))
         clear hb YA RA
         go_wp2_with fail
         refine (P7.out _ YB.out).mono ?_; rintro e wC ⟨B2, d2, rfl, -, -, hb⟩
         have YC := Lib.hid (YB.out.trans (hb.mono YB.out.size))
         clear hb YB
         go_wp2_with fail
         go_ret
         exact ⟨by first | rfl | trivial, YC.out⟩)
      | (have hle := HLL.out
         rw [if_neg (by first | decide | (intro e; cases e.2))] at hle
         have E1 : ((lA.length : Int) == (lB.length : Int)) = true := by rw [beq_iff_eq]; omega
         have E2 : IntKind.i64.wrap (lB.length : Int) = (lB.length : Int) := IntWalk.i64_in _ (by have := HLB.out; omega)
         clear hle
         go_wp2_with fail
         refine (AW.out _ Y7.out).mono ?_; rintro e w8 ⟨rfl, hb⟩
         have Y8 := Lib.hid (Y7.out.trans (hb.mono Y7.out.size))
         have R8 := Lib.hid (R7.out.below rfl hb)
         clear hb Y7 R7
         go_wp2_with fail
         refine (P5.out _ _ _ R8.out).mono ?_; rintro e w9 he
         obtain ⟨B9, d9, rfl, hR9, -, hb⟩ := he.yes
         have Y9 := Lib.hid (Y8.out.trans (hb.mono Y8.out.size))
         have R9 := Lib.hid (R8.out.below rfl hb)
         have CS := Lib.hid (S1.out B9 d9 B d w9 hR9 R9.out)
         clear hb hR9 he Y8 R8
         go_wp2_with fail
         refine CS.out.mono ?_; rintro e wA ⟨rfl, hb⟩
         have YA := Lib.hid (Y9.out.trans (hb.mono Y9.out.size))
         have RA := Lib.hid (R9.out.below rfl hb)
         clear hb CS Y9 R9
         go_wp2_with fail
         refine (P6.out _ _ _ RA.out (T0.out.below rfl YA.out)).mono ?_; rintro e wB ⟨B1, d1, rfl, -, -, hb⟩
         have YB := Lib.hid (YA.out.trans (hb.mono YA.out.size))
         clear hb YA RA
         go_wp2_with fail
         refine (P7.out _ YB.out).mono ?_; rintro e wC ⟨B2, d2, rfl, -, -, hb⟩
         have YC := Lib.hid (YB.out.trans (hb.mono YB.out.size))
         clear hb YB
         go_wp2_with fail
         go_ret
         exact ⟨by first | rfl | trivial, YC.out⟩)
end Go.Proofs.YtfgoakpdfnhddaaDoor
