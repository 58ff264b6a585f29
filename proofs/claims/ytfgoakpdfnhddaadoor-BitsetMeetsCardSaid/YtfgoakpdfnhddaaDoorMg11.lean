/-
  Texts of this claim, merged: BitsetMeetsWalk.
-/
import Derived.Test.YtfgoakpdfnhddaaDoorMg08
/-
  The walk of the law BitsetMeets: it returns true.
-/
namespace Go.Proofs.YtfgoakpdfnhddaaDoor
open Go.RowKit

set_option maxHeartbeats 16000000 in
set_option maxRecDepth 100000 in
theorem bitsetMeets_walk (A : Option Addr) (c n : Nat) (L : List Nat) (B : Option Addr) (d m : Nat) (M : List Nat) (W : World)
    (hn : L.length = n) (hL : LWd.Row W A L) (_hc : n ≤ c) (_hl : n ≤ maxLen) (hw : Bs.W32 L) (hm : M.length = m) (hM : LWd.Row W B M) (_hd : m ≤ d) (_hk : m ≤ maxLen) (hw' : Bs.W32 M)
    (htab : Lib.TabIs Tryd.prog W "math/bits.deBruijn32tab" .u8 bitTabL) :
    Calls Tryd.prog 5 #[.slice A n c, .slice B m d] W fun e w' => e = .returned (.bool true) ∧ Below W.heap.size W w' := by
  subst hn hm
  have T0 := Lib.hid (BitTab.of htab)
  have HL := Lib.hid hL
  have HM := Lib.hid hM
  have AW := Lib.hid (bsAwake_any W T0.out)
  have X0 := Lib.hid (Below.refl W.heap.size W)
  clear htab hL hM
  by_cases g1 : 8 < L.length
  · have D1 : decide (8 < (L.length : Int)) = true := dec_t (by omega)
    go_enter Tryd.func5, Tryd.ntmps5
    go_wp2_with fail
    refine AW.out.mono ?_; rintro e w8 ⟨rfl, hb8⟩
    go_wp2_with fail
    go_ret
    exact ⟨rfl, hb8⟩
  have D1 : decide (8 < (L.length : Int)) = false := dec_f (by omega)
  by_cases g2 : 8 < M.length
  · have D2 : decide (8 < (M.length : Int)) = true := dec_t (by omega)
    go_enter Tryd.func5, Tryd.ntmps5
    go_wp2_with fail
    refine AW.out.mono ?_; rintro e w8 ⟨rfl, hb8⟩
    go_wp2_with fail
    go_ret
    exact ⟨rfl, hb8⟩
  have D2 : decide (8 < (M.length : Int)) = false := dec_f (by omega)
  have P4 := Lib.hid (fun (k : Nat) (hk : k ≤ 256) W h => bpHas_any A c L (k : Int) W (by omega) h hw (by omega))
  have P5 := Lib.hid (fun (k : Nat) (hk : k ≤ 256) W h => bpHas_any B d M (k : Int) W (by omega) h hw' (by omega))
  have P6 := Lib.hid (fun W h h' => bpMeet_any A c L B d M W h hw (by omega) h' hw' (by omega))
  have P7 := Lib.hid (fun W h h' => bpMeet_any B d M A c L W h hw' (by omega) h' hw (by omega))
  rw [Bs.meet_comm M L] at P7
  have HB := Lib.hid (Bs.both_all (a := L) (b := M) hw (by omega))
  clear hw hw' AW g1 g2
  go_enter Tryd.func5, Tryd.ntmps5
  go_wp2_with fail
  go_loopw [5, 6] (fun v1 v2 w' => ∃ k : Nat, k ≤ 256 ∧ v2 = .int .i64 k ∧ v1 = .bool (Bs.both L M k) ∧ Below W.heap.size W w') (fun _ v2 _ => 256 - (intOf v2).toNat)
  case atStart => exact ⟨0, Nat.zero_le _, rfl, rfl, X0.out⟩
  case round =>
    obtain ⟨k, hk, rfl, rfl, hb⟩ := hrel
    have HB2 := Lib.hid hb
    by_cases hlt : k < 256
    · have d1 : decide ((k : Int) < 256) = true := dec_t (by omega)
      have C4 := Lib.hid (fun W' (hW : Below W.heap.size W W') => P4.out k hk W' (HL.out.below rfl hW))
      have C5 := Lib.hid (fun W' (hW : Below W.heap.size W W') => P5.out k hk W' (HM.out.below rfl hW))
      have HS := Lib.hid (Bs.both_succ L M k)
      generalize Bs.both L M k = z at HS ⊢
      generalize Bs.has L (k : Int) = a at C4 HS
      generalize Bs.has M (k : Int) = b at C5 HS
      clear hb
      cases z
      case true =>
        have HS2 := Lib.hid (show Bs.both L M (k + 1) = true from by rw [HS.out]; rfl)
        go_wp2_with fail
        go_roundw
        case rel => exact ⟨k + 1, by omega, by go_num, by rw [HS2.out], HB2.out⟩
        case measure => simp [intOf]; omega
      case false =>
        cases a
        case false =>
          have HS2 := Lib.hid (show Bs.both L M (k + 1) = false from by rw [HS.out]; rfl)
          go_wp2_with fail
          refine (C4.out _ HB2.out).mono ?_; rintro e w3 ⟨rfl, q, rfl⟩
          go_wp2_with fail
          go_roundw
          case rel => exact ⟨k + 1, by omega, by go_num, by rw [HS2.out], below_drewN HB2.out q⟩
          case measure => simp [intOf]; omega
        case true =>
          have HS2 := Lib.hid (show Bs.both L M (k + 1) = b from by rw [HS.out]; cases b <;> rfl)
          go_wp2_with fail
          refine (C4.out _ HB2.out).mono ?_; rintro e w3 ⟨rfl, q, rfl⟩
          go_wp2_with fail
          refine (C5.out _ (below_drewN HB2.out q)).mono ?_; rintro e w3 ⟨rfl, q', rfl⟩
          have HB3 := Lib.hid (below_drewN (below_drewN HB2.out q) q')
          generalize (wr.drewN q).drewN q' = w4 at HB3 ⊢
          cases b
          · go_wp2_with fail
            go_roundw
            case rel => exact ⟨k + 1, by omega, by go_num, by rw [HS2.out], HB3.out⟩
            case measure => simp [intOf]; omega
          · go_wp2_with fail
            go_roundw
            case rel => exact ⟨k + 1, by omega, by go_num, by rw [HS2.out], HB3.out⟩
            case measure => simp [intOf]; omega
    · obtain rfl : k = 256 := by omega
      have d1 : decide (((256 : Nat) : Int) < 256) = false := by decide
      rw [HB.out]
      generalize Bs.meet L M = z at P6 P7 ⊢
      have E : (z == z) = true := beq_self_eq_true _
      have AW := Lib.hid (bsAwake_any wr (T0.out.below rfl hb))
      clear hb HB
      go_wp2_with fail
      refine AW.out.mono ?_; rintro e w3 ⟨rfl, hb⟩
      have Y3 := Lib.hid (HB2.out.trans (hb.mono HB2.out.size))
      clear hb AW
      go_wp2_with fail
      refine (P6.out _ (HL.out.below rfl Y3.out) (HM.out.below rfl Y3.out)).mono ?_; rintro e w4 ⟨rfl, hb⟩
      have Y4 := Lib.hid (Y3.out.trans (hb.mono Y3.out.size))
      clear hb
      go_wp2_with fail
      refine (P7.out _ (HM.out.below rfl Y4.out) (HL.out.below rfl Y4.out)).mono ?_; rintro e w5 ⟨rfl, hb⟩
      have Y5 := Lib.hid (Y4.out.trans (hb.mono Y4.out.size))
      clear hb
      go_wp2_with fail
      go_ret
      exact ⟨rfl, Y5.out⟩
end Go.Proofs.YtfgoakpdfnhddaaDoor
