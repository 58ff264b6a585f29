/-
  Texts of this claim, merged: BitsetTellsWalk.
-/
import Derived.Test.YtfgoakpdfnhddaaDoorMg08
/-
  The walk of the law BitsetTells: it returns true.
-/
namespace Go.Proofs.YtfgoakpdfnhddaaDoor
open Go.RowKit

/-- Two sets that are the same. -/
theorem bs_same {A : Option Addr} {c n : Nat} {L : List Nat} {B : Option Addr} {d : Nat} {w : World} (hn : L.length = n) (h : LWd.Row w A L) (hl : n ≤ 1000000) (h' : LWd.Row w B L) :
    Calls Tryd.prog 9 #[.slice A n c, .slice B n d] w (OneIs (.bool true) w) :=
  OneIs.to (congrArg Value.bool (decide_eq_true rfl)) (rbSame_any A c n L B d n L w hn h hl hn h')
theorem list_bd {L : List Nat} (hl : L.length ≤ 1000000) : ∀ x ∈ Bs.list L, -9223372036854775808 ≤ x ∧ x ≤ 9223372036854775807 := fun x hx => by
  obtain ⟨h0, h1⟩ := Bs.fits_iff.1 (Bs.has_fits (Bs.mem_list.1 hx))
  omega
set_option maxHeartbeats 16000000 in
set_option maxRecDepth 100000 in
theorem bitsetTells_walk (A : Option Addr) (c n : Nat) (L : List Nat) (B : Option Addr) (d m : Nat) (M : List Nat) (x y : Int) (W : World)
    (hn : L.length = n) (hL : LWd.Row W A L) (_hc : n ≤ c) (_hl : n ≤ maxLen) (hw : Bs.W32 L) (hm : M.length = m) (hM : LWd.Row W B M) (_hd : m ≤ d) (_hk : m ≤ maxLen) (hw' : Bs.W32 M) (hx : -9223372036854775808 ≤ x ∧ x ≤ 9223372036854775807) (hy : -9223372036854775808 ≤ y ∧ y ≤ 9223372036854775807)
    (htab : Lib.TabIs Tryd.prog W "math/bits.deBruijn32tab" .u8 bitTabL) :
    Calls Tryd.prog 3 #[.slice A n c, .slice B m d, .agg #[.int .i64 x, .int .i64 y]] W fun e w' => e = .returned (.bool true) ∧ Below W.heap.size W w' := by
  subst hn hm
  have HT := Lib.hid (BitTab.of htab)
  have XA := (Below.refl W.heap.size W).alloc (Nat.le_refl _) (.cells #[.int .i64 x, .int .i64 y] 23)
  have X0 := Lib.hid XA
  have RX := Lib.hid (heap_alloc_new W (.cells #[.int .i64 x, .int .i64 y] 23))
  have HL := Lib.hid (hL.below rfl XA)
  have HM := Lib.hid (hM.below rfl XA)
  have T1 := Lib.hid (HT.out.below rfl XA)
  clear htab hL hM XA HT
  go_enter Tryd.func3, Tryd.ntmps3
  go_upto_region 1 with fail
  generalize W.alloc (.cells #[.int .i64 x, .int .i64 y] 23) = w1 at X0 RX HL HM T1 ⊢
  generalize hgx : W.heap.size = gx at RX ⊢
  have r0 := cell_of_row w1 gx 0 _ _ _ RX.out
  have r1 := cell_of_row w1 gx 1 _ _ _ RX.out
  clear hgx
  go_quiet (fail)
  clear r0 r1 RX
  have X1 := Lib.hid (below_drewN X0.out nq)
  have HL1 := Lib.hid (HL.out.below rfl (below_drewN (Below.refl _ w1) nq))
  have HM1 := Lib.hid (HM.out.below rfl (below_drewN (Below.refl _ w1) nq))
  have T2 := Lib.hid (T1.out.below rfl (below_drewN (Below.refl _ w1) nq))
  generalize w1.drewN nq = w2 at X1 HL1 HM1 T2 ⊢
  clear X0 HL HM T1
  have AW := Lib.hid (bsAwake_any w2 T2.out)
  by_cases h1 : 10 < L.length ∨ 10 < M.length ∨ 1000 < x
  · by_cases g1 : 10 < L.length
    · have D1 : decide (10 < (L.length : Int)) = true := dec_t (by omega)
      clear h1
      go_wp2_with fail
      refine AW.out.mono ?_; rintro e w8 ⟨rfl, hb8⟩
      have Y := Lib.hid (X1.out.trans (hb8.mono X1.out.size))
      clear hb8
      go_wp2_with fail
      go_ret
      exact ⟨rfl, Y.out⟩
    have D1 : decide (10 < (L.length : Int)) = false := dec_f (by omega)
    by_cases g2 : 10 < M.length
    · have D2 : decide (10 < (M.length : Int)) = true := dec_t (by omega)
      clear h1
      go_wp2_with fail
      refine AW.out.mono ?_; rintro e w8 ⟨rfl, hb8⟩
      have Y := Lib.hid (X1.out.trans (hb8.mono X1.out.size))
      clear hb8
      go_wp2_with fail
      go_ret
      exact ⟨rfl, Y.out⟩
    have D2 : decide (10 < (M.length : Int)) = false := dec_f (by omega)
    have D3 : decide (1000 < x) = true := dec_t (by omega)
    clear h1
    go_wp2_with fail
    refine AW.out.mono ?_; rintro e w8 ⟨rfl, hb8⟩
    have Y := Lib.hid (X1.out.trans (hb8.mono X1.out.size))
    clear hb8
    go_wp2_with fail
    go_ret
    exact ⟨rfl, Y.out⟩
  have g1 : ¬ 10 < L.length := fun h => h1 (.inl h)
  have g2 : ¬ 10 < M.length := fun h => h1 (.inr (.inl h))
  have g3 : ¬ 1000 < x := fun h => h1 (.inr (.inr h))
  have D1 : decide (10 < (L.length : Int)) = false := dec_f (by omega)
  have D2 : decide (10 < (M.length : Int)) = false := dec_f (by omega)
  have D3 : decide (1000 < x) = false := dec_f g3
  have C1 := Lib.hid (rbList_any B d M w2 HM1.out hw' (by omega))
  have HX := Lib.hid (list_bd (L := M) (by omega))
  have HNX := Lib.hid (Bs.new_len x)
  have hLX : (Bs.new x).length ≤ 1000 := by rw [HNX.out]; split <;> omega
  have hLO : (Bs.ofL x (Bs.list M)).length ≤ 1000 := by rw [Bs.ofL_len]; exact hLX
  have hLL : (Bs.list M).length ≤ 1000 := Nat.le_trans (Bs.list_len M) (by omega)
  have hLP : (Bs.put L y).length = L.length := Bs.put_len L y
  have P0 := Lib.hid (fun W => bpNew_any x W (by omega))
  have P1 := Lib.hid (fun W => rbNew_any x W (by omega))
  have P2 := Lib.hid (fun W h => bpWith_any A c L y W hy h hw (by omega))
  have P3 := Lib.hid (fun W h => rbWith_any A c L y W hy h hw (by omega))
  have P4 := Lib.hid (fun W h => bpHas_any A c L y W hy h hw (by omega))
  have P5 := Lib.hid (fun W h => rbHas_any A c L y W hy h hw (by omega))
  have P6 := Lib.hid (fun W h h' => bpMeet_any A c L B d M W h hw (by omega) h' hw' (by omega))
  have P7 := Lib.hid (fun W h h' => rbMeet_any A c L B d M W h hw (by omega) h' hw' (by omega))
  have P8 := Lib.hid (fun W D e h => bpOf_any x D e (Bs.list M) W (by omega) h (by omega) HX.out)
  have P9 := Lib.hid (fun W D e h => rbOf_any x D e (Bs.list M) W (by omega) h (by omega) HX.out)
  have PA := Lib.hid (fun W h h' => bpList_any B d M W h hw' (by omega) h')
  have PB := Lib.hid (fun W D e E f h h' => OneIs.to (v := .bool true) (congrArg Value.bool (decide_eq_true rfl)) (rtInts_any D e (Bs.list M).length (Bs.list M) E f (Bs.list M).length (Bs.list M) W rfl h (by omega) rfl h'))
  have hpl : (Bs.put L y).length ≤ 1000 := by omega
  generalize Bs.list M = l at C1 hLO hLL P8 P9 PA PB
  generalize Bs.ofL x l = lo at hLO P8 P9
  generalize Bs.put L y = lp at hpl P2 P3
  generalize Bs.new x = ln at hLX P0 P1
  generalize Bs.has L y = z1 at P4 P5
  generalize Bs.meet L M = z2 at P6 P7
  have E1 : (z1 == z1) = true := beq_self_eq_true _
  have E2 : (z2 == z2) = true := beq_self_eq_true _
  clear h1 g1 g2 g3 hx hy hw hw' HX HNX hLP AW
  go_wp2_with fail
  refine C1.out.mono ?_; rintro e w3 ⟨D, f, rfl, hR, -, hb⟩
  have Y3 := Lib.hid (X1.out.trans (hb.mono X1.out.size))
  have HL3 := Lib.hid (HL1.out.below rfl hb)
  have HM3 := Lib.hid (HM1.out.below rfl hb)
  have T3 := Lib.hid (T2.out.below rfl hb)
  have R3 := Lib.hid hR
  have AW := Lib.hid (bsAwake_any w3 T3.out)
  clear hb hR C1 HL1 HM1 T2 X1
  go_wp2_with fail
  refine AW.out.mono ?_; rintro e w4 ⟨rfl, hb⟩
  have Y4 := Lib.hid (Y3.out.trans (hb.mono Y3.out.size))
  have HL4 := Lib.hid (HL3.out.below rfl hb)
  have HM4 := Lib.hid (HM3.out.below rfl hb)
  have T4 := Lib.hid (T3.out.below rfl hb)
  have R4 := Lib.hid (R3.out.below rfl hb)
  clear hb HL3 HM3 T3 R3 Y3 AW
  go_wp2_with fail
  refine (P0.out _).mono ?_; rintro e w5 he
  obtain ⟨S1, s1, rfl, hR1, -, hb⟩ := he.yes
  have Y5 := Lib.hid (Y4.out.trans (hb.mono Y4.out.size))
  have HL5 := Lib.hid (HL4.out.below rfl hb)
  have HM5 := Lib.hid (HM4.out.below rfl hb)
  have T5 := Lib.hid (T4.out.below rfl hb)
  have R5 := Lib.hid (R4.out.below rfl hb)
  have S5 := Lib.hid hR1
  clear hb hR1 he HL4 HM4 T4 R4 Y4
  go_wp2_with fail
  refine (P1.out _).mono ?_; rintro e w6 he
  obtain ⟨S2, s2, rfl, hR1, -, hb⟩ := he.yes
  have Y6 := Lib.hid (Y5.out.trans (hb.mono Y5.out.size))
  have HL6 := Lib.hid (HL5.out.below rfl hb)
  have HM6 := Lib.hid (HM5.out.below rfl hb)
  have T6 := Lib.hid (T5.out.below rfl hb)
  have R6 := Lib.hid (R5.out.below rfl hb)
  have CS := Lib.hid (bs_same (c := s1) (d := s2) rfl (S5.out.below rfl hb) (by omega) hR1)
  clear hb hR1 he HL5 HM5 T5 R5 Y5 S5
  go_wp2_with fail
  refine CS.out.mono ?_; rintro e w7 ⟨rfl, hb⟩
  have Y7 := Lib.hid (Y6.out.trans (hb.mono Y6.out.size))
  have HL7 := Lib.hid (HL6.out.below rfl hb)
  have HM7 := Lib.hid (HM6.out.below rfl hb)
  have T7 := Lib.hid (T6.out.below rfl hb)
  have R7 := Lib.hid (R6.out.below rfl hb)
  clear hb HL6 HM6 T6 R6 Y6 CS
  go_wp2_with fail
  refine (P2.out _ HL7.out).mono ?_; rintro e w8 he
  obtain ⟨S1, s1, rfl, hR1, -, hb⟩ := he.yes
  have Y8 := Lib.hid (Y7.out.trans (hb.mono Y7.out.size))
  have HL8 := Lib.hid (HL7.out.below rfl hb)
  have HM8 := Lib.hid (HM7.out.below rfl hb)
  have T8 := Lib.hid (T7.out.below rfl hb)
  have R8 := Lib.hid (R7.out.below rfl hb)
  have S8 := Lib.hid hR1
  clear hb hR1 he HL7 HM7 T7 R7 Y7
  go_wp2_with fail
  refine (P3.out _ HL8.out).mono ?_; rintro e w9 he
  obtain ⟨S2, s2, rfl, hR1, -, hb⟩ := he.yes
  have Y9 := Lib.hid (Y8.out.trans (hb.mono Y8.out.size))
  have HL9 := Lib.hid (HL8.out.below rfl hb)
  have HM9 := Lib.hid (HM8.out.below rfl hb)
  have T9 := Lib.hid (T8.out.below rfl hb)
  have R9 := Lib.hid (R8.out.below rfl hb)
  have CS := Lib.hid (bs_same (c := s1) (d := s2) rfl (S8.out.below rfl hb) (by omega) hR1)
  clear hb hR1 he HL8 HM8 T8 R8 Y8 S8
  go_wp2_with fail
  refine CS.out.mono ?_; rintro e wA ⟨rfl, hb⟩
  have YA := Lib.hid (Y9.out.trans (hb.mono Y9.out.size))
  have HLA := Lib.hid (HL9.out.below rfl hb)
  have HMA := Lib.hid (HM9.out.below rfl hb)
  have TA := Lib.hid (T9.out.below rfl hb)
  have RA := Lib.hid (R9.out.below rfl hb)
  clear hb HL9 HM9 T9 R9 Y9 CS
  go_wp2_with fail
  refine (P4.out _ HLA.out).mono ?_; rintro e wB ⟨rfl, q, rfl⟩
  have hb := below_drewN (Below.refl wA.heap.size wA) q
  have YB := Lib.hid (below_drewN YA.out q)
  have HLB := Lib.hid (HLA.out.below rfl hb)
  have HMB := Lib.hid (HMA.out.below rfl hb)
  have TB := Lib.hid (TA.out.below rfl hb)
  have RB := Lib.hid (RA.out.below rfl hb)
  generalize wA.drewN q = wB at YB HLB HMB TB RB ⊢
  clear hb HLA HMA TA RA YA
  go_wp2_with fail
  refine (P5.out _ HLB.out).mono ?_; rintro e wC ⟨rfl, rfl⟩
  go_wp2_with fail
  refine (P6.out _ HLB.out HMB.out).mono ?_; rintro e wC ⟨rfl, hb⟩
  have YC := Lib.hid (YB.out.trans (hb.mono YB.out.size))
  have HLC := Lib.hid (HLB.out.below rfl hb)
  have HMC := Lib.hid (HMB.out.below rfl hb)
  have TC := Lib.hid (TB.out.below rfl hb)
  have RC := Lib.hid (RB.out.below rfl hb)
  clear hb HLB HMB TB RB YB
  go_wp2_with fail
  refine (P7.out _ HLC.out HMC.out).mono ?_; rintro e wD ⟨rfl, hb⟩
  have YD := Lib.hid (YC.out.trans (hb.mono YC.out.size))
  have HMD := Lib.hid (HMC.out.below rfl hb)
  have TD := Lib.hid (TC.out.below rfl hb)
  have RD := Lib.hid (RC.out.below rfl hb)
  clear hb HLC HMC TC RC YC
  go_wp2_with fail
  refine (P8.out _ D f RD.out).mono ?_; rintro e wE he
  obtain ⟨S1, s1, rfl, hR1, -, hb⟩ := he.yes
  have YE := Lib.hid (YD.out.trans (hb.mono YD.out.size))
  have HME := Lib.hid (HMD.out.below rfl hb)
  have TE := Lib.hid (TD.out.below rfl hb)
  have RE := Lib.hid (RD.out.below rfl hb)
  have SE := Lib.hid hR1
  clear hb hR1 he HMD TD RD YD
  go_wp2_with fail
  refine (P9.out _ D f RE.out).mono ?_; rintro e wF ⟨S2, s2, rfl, hR1, -, hb⟩
  have YF := Lib.hid (YE.out.trans (hb.mono YE.out.size))
  have HMF := Lib.hid (HME.out.below rfl hb)
  have TF := Lib.hid (TE.out.below rfl hb)
  have RF := Lib.hid (RE.out.below rfl hb)
  have CS := Lib.hid (bs_same (c := s1) (d := s2) rfl (SE.out.below rfl hb) (by omega) hR1)
  clear hb hR1 HME TE RE YE SE
  go_wp2_with fail
  refine CS.out.mono ?_; rintro e wG ⟨rfl, hb⟩
  have YG := Lib.hid (YF.out.trans (hb.mono YF.out.size))
  have HMG := Lib.hid (HMF.out.below rfl hb)
  have TG := Lib.hid (TF.out.below rfl hb)
  have RG := Lib.hid (RF.out.below rfl hb)
  clear hb HMF TF RF YF CS
  go_wp2_with fail
  refine (PA.out _ HMG.out TG.out).mono ?_; rintro e wH ⟨S1, s1, rfl, hR1, -, hb⟩
  have YH := Lib.hid (YG.out.trans (hb.mono YG.out.size))
  have CS := Lib.hid (PB.out wH S1 s1 D f hR1 (RG.out.below rfl hb))
  clear hb hR1 HMG TG RG YG
  go_wp2_with fail
  refine CS.out.mono ?_; rintro e wI ⟨rfl, hb⟩
  have YI := Lib.hid (YH.out.trans (hb.mono YH.out.size))
  clear hb CS YH
  go_wp2_with fail
  go_ret
  exact ⟨rfl, YI.out⟩
end Go.Proofs.YtfgoakpdfnhddaaDoor
