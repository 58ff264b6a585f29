/-
  The walk of the law ItemTells, where the item's number is from 0 on.
-/
import Derived.Test.YtmddabemnjlniaaDoorItemBackWalk
import Derived.Deep.RegionHeld3
namespace Go.Proofs.YtmddabemnjlniaaDoor
open Go.RowKit

set_option maxHeartbeats 8000000 in
set_option maxRecDepth 100000 in
theorem it_long (k : Int) (nm : ByteArray) (n : Int) (a : ByteArray) (ac : UInt8) (b : ByteArray) (bc : UInt8) (s : ByteArray) (W : World) (hm : nm.size ≤ maxLen) (ha : a.size ≤ maxLen) (hb : b.size ≤ maxLen) (ws : s.size ≤ maxLen) (hE : Env W) (h : shortB nm a b = false ∨ (shortB nm a b = true ∧ 200 < s.size)) :
    Calls Tryd.prog 3 #[.agg #[.int .i64 k, .string nm, .int .i64 n, .string a, .int .u8 ac.toNat, .string b, .int .u8 bc.toNat], .string s] W fun e w' => e = .returned (.bool true) ∧ Below W.heap.size W w' := by
  unfold maxLen at ws
  have SH := Lib.hid (ishort_any k nm n a ac b bc (W.alloc (.cells #[.int .i64 k, .string nm, .int .i64 n, .string a, .int .u8 ac.toNat, .string b, .int .u8 bc.toNat] 26)) hm ha hb)
  have B0 := Lib.hid ((Below.refl W.heap.size W).alloc (Nat.le_refl _) (.cells #[.int .i64 k, .string nm, .int .i64 n, .string a, .int .u8 ac.toNat, .string b, .int .u8 bc.toNat] 26))
  have H0 := Lib.hid (hE.below rfl B0.out)
  have AW := Lib.hid awake_any
  rcases h with h | ⟨h, hl⟩
  · rw [h] at SH
    clear h hm ha hb hE
    go_enter Tryd.func3, Tryd.ntmps3
    go_wp2_with fail
    refine SH.out.mono ?_; rintro e w1 ⟨rfl, hb1⟩
    have H1 := Lib.hid (H0.out.below rfl hb1)
    have B1 := Lib.hid (B0.out.trans (hb1.mono (by simp)))
    clear hb1 H0 B0 SH
    go_wp2_with fail
    refine (AW.out _ H1.out).mono ?_; rintro e w2 ⟨rfl, hb⟩
    have hBF := Lib.hid (B1.out.trans (hb.mono B1.out.size))
    clear hb
    go_wp2_with fail
    go_ret
    exact ⟨rfl, hBF.out⟩
  · have h1 : decide (200 < (s.size : Int)) = true := dec_t (by omega)
    rw [h] at SH
    clear h hm ha hb hE hl
    go_enter Tryd.func3, Tryd.ntmps3
    go_wp2_with fail
    refine SH.out.mono ?_; rintro e w1 ⟨rfl, hb1⟩
    have H1 := Lib.hid (H0.out.below rfl hb1)
    have B1 := Lib.hid (B0.out.trans (hb1.mono (by simp)))
    clear hb1 H0 B0 SH
    go_wp2_with fail
    refine (AW.out _ H1.out).mono ?_; rintro e w2 ⟨rfl, hb⟩
    have hBF := Lib.hid (B1.out.trans (hb.mono B1.out.size))
    clear hb
    go_wp2_with fail
    go_ret
    exact ⟨rfl, hBF.out⟩
/-- Env, and what has become of the world since w. -/
def EnvB (w W : World) : Prop := Env W ∧ Below w.heap.size w W
/-- What a call leaves that makes memory, with the library's tables as they were. -/
def MadeE (w : World) (v : Value) (W : World) (e : Ending) (w' : World) : Prop := e = .returned v ∧ Below W.heap.size W w' ∧ EnvB w w' ∧ W.heap.size ≤ w'.heap.size
theorem MadeE.of {w W : World} {v : Value} {f : FuncId} {xs : Array Value} (h : EnvB w W) (hc : Env W → Calls Tryd.prog f xs W fun e w' => e = .returned v ∧ Below W.heap.size W w') :
    Calls Tryd.prog f xs W (MadeE w v W) := (hc h.1).mono fun _ _ ⟨h1, h2⟩ => ⟨h1, h2, ⟨h.1.below rfl h2, h.2.trans (h2.mono h.2.size)⟩, h2.size⟩

theorem tip_s (s : ByteArray) (T : It.Tp) (b : Bool) (hT : It.tip s.data.toList = T) (hb : It.tipOk s.data.toList = b) (hs : s.size ≤ 1000) (w : World) :
    Calls Tryd.prog 9 #[.string s] w fun e w' => e = .returned (.tuple #[.agg #[.string (txt T.n), .int .u8 T.c.toNat], .bool b]) ∧ Below w.heap.size w w' := by
  subst hT hb; exact tip_any s w (by unfold maxLen; omega)
theorem rtip_s (s : ByteArray) (T : It.Tp) (b : Bool) (hT : It.tip s.data.toList = T) (hb : It.tipOk s.data.toList = b) (hs : s.size ≤ 1000) (w : World) :
    Calls Tryd.prog 10 #[.string s] w fun e w' => e = .returned (.tuple #[.agg #[.string (txt T.n), .int .u8 T.c.toNat], .bool b]) ∧ Below w.heap.size w w' := by
  subst hT hb; exact rtip_any s w (by unfold maxLen; omega)
theorem eq_tip2 (W : World) (a : ByteArray) (i : Int) :
    Sem.run Tryd.prog (binOp .eql 23 (.agg #[.string a, .int .u8 i]) (.agg #[.string a, .int .u8 i])) W = .ok (.bool true) W := by
  have := eq_tip_in W 9998 a a i i
  simp only [beq_self_eq_true, Bool.and_self] at this
  rw [run_eql_struct]
  exact congrArg (fun r => r.andThen fun b w' => Result.ok (Value.bool b) w') this
set_option maxHeartbeats 64000000 in
set_option maxRecDepth 100000 in
theorem it_pos (k : Int) (nm : ByteArray) (n : Int) (a : ByteArray) (ac : UInt8) (b : ByteArray) (bc : UInt8) (s : ByteArray) (W : World) (hn : n ≤ 9223372036854775807) (hm : nm.size ≤ maxLen) (ha : a.size ≤ maxLen) (hb : b.size ≤ maxLen) (ws : s.size ≤ maxLen) (hE : Env W)
    (h : shortB nm a b = true) (hl : ¬ 200 < s.size) (hneg : ¬ n < 0) :
    Calls Tryd.prog 3 #[.agg #[.int .i64 k, .string nm, .int .i64 n, .string a, .int .u8 ac.toNat, .string b, .int .u8 bc.toNat], .string s] W fun e w' => e = .returned (.bool true) ∧ Below W.heap.size W w' := by
  unfold maxLen at ws
  have SH := Lib.hid (ishort_any k nm n a ac b bc (W.alloc (.cells #[.int .i64 k, .string nm, .int .i64 n, .string a, .int .u8 ac.toNat, .string b, .int .u8 bc.toNat] 26)) hm ha hb)
  have B0 := Lib.hid ((Below.refl W.heap.size W).alloc (Nat.le_refl _) (.cells #[.int .i64 k, .string nm, .int .i64 n, .string a, .int .u8 ac.toNat, .string b, .int .u8 bc.toNat] 26))
  have H0 := Lib.hid (hE.below rfl B0.out)
  obtain ⟨l1, l2, l3⟩ := short_of h
  rw [h] at SH
  have h1 : decide (200 < (s.size : Int)) = false := dec_f (by omega)
  have hd : decide (n < 0) = false := dec_f hneg
  obtain ⟨T, hT⟩ : ∃ T, It.tip s.data.toList = T := ⟨_, rfl⟩
  obtain ⟨tb, htb⟩ : ∃ tb, It.tipOk s.data.toList = tb := ⟨_, rfl⟩
  have T1 := Lib.hid (fun w => tip_s s T tb hT htb (by omega) w)
  have T2 := Lib.hid (fun w => rtip_s s T tb hT htb (by omega) w)
  clear hT htb
  have AW := Lib.hid (fun W' (h : EnvB W W') => MadeE.of h (fun h => awake_any W' h))
  have W1 := Lib.hid (fun w => word_any k w)
  have W2 := Lib.hid (fun w => rword_any k w)
  have K1 := Lib.hid (fun w => kind_any s w (by unfold maxLen; omega))
  have K2 := Lib.hid (fun w => rkind_any s w (by unfold maxLen; omega))
  have P1 := Lib.hid (fun W' (h : EnvB W W') => MadeE.of h (fun h => iprint_any k nm n a ac b bc W' (by omega) hn (by omega) (by omega) (by omega) h))
  have P2 := Lib.hid (fun W' (h : EnvB W W') => MadeE.of h (fun _ => riprint_any k nm n a ac b bc W' (by omega) hn (by omega) (by omega) (by omega)))
  have Q1 := Lib.hid (fun W' (h : EnvB W W') => MadeE.of h (fun h => iright_any k nm n a ac b bc W' h hn (by omega) (by omega) (by omega)))
  have Q2 := Lib.hid (fun W' (h : EnvB W W') => MadeE.of h (fun _ => riright_any k nm n a ac b bc W' hn (by omega) (by omega) (by omega)))
  clear h hl hneg hn hm ha hb hE l1 l2 l3 ws
  go_enter Tryd.func3, Tryd.ntmps3
  go_wp2_with fail
  refine SH.out.mono ?_; rintro e w1 ⟨rfl, hb⟩
  have H1 := Lib.hid (H0.out.below rfl hb)
  have R1 := Lib.hid (fresh_row hb)
  have B1 := Lib.hid (B0.out.trans (hb.mono (by simp)))
  clear hb H0 B0 SH
  go_wp2_with fail
  refine (T1.out _).mono ?_; rintro e w2 ⟨rfl, hb⟩
  have H2 := Lib.hid (H1.out.below rfl hb)
  have R2 := Lib.hid (stay_row R1.out hb)
  have B2 := Lib.hid (B1.out.trans (hb.mono B1.out.size))
  clear hb H1 R1 B1
  go_wp2_with fail
  refine (T2.out _).mono ?_; rintro e w3 ⟨rfl, hb⟩
  have H3 := Lib.hid ((H2.out.below rfl ((Below.refl _ _).alloc (Nat.le_refl _) _)).below rfl hb)
  have R3 := Lib.hid (keep_row R2.out hb)
  have S3 := Lib.hid (fresh_row hb)
  have B3 := Lib.hid (B2.out.trans ((((Below.refl w2.heap.size w2).alloc (Nat.le_refl _) _).trans (hb.mono (by simp))).mono B2.out.size))
  clear hb H2 R2 B2
  obtain ⟨⟨x0, x1, x2, x3, x4, x5, x6⟩, _, hxx⟩ := row7 R3.out
  obtain ⟨⟨y0, y1⟩, hyy⟩ := row2 S3.out
  have nx := World.new_ne _ _ x0
  have ny := World.new_ne _ _ y0
  go_wp2_with fail
  have E0 : EnvB W (w3.alloc (.cells #[.string (txt T.n), .int .u8 T.c.toNat] 23)).drew := ⟨(H3.out.below rfl ((Below.refl _ _).alloc (Nat.le_refl _) _)).below rfl (Below.refl _ _).drew, (B3.out.alloc B3.out.size _).drew⟩
  have hx : W.heap.size < (w3.alloc (.cells #[.string (txt T.n), .int .u8 T.c.toNat] 23)).drew.heap.size := by simp; omega
  have hy : w2.heap.size < (w3.alloc (.cells #[.string (txt T.n), .int .u8 T.c.toNat] 23)).drew.heap.size := by simp; omega
  have hv : w3.heap.size < (w3.alloc (.cells #[.string (txt T.n), .int .u8 T.c.toNat] 23)).drew.heap.size := by simp
  have E0 := Lib.hid E0
  have Q := fun w => eq_tip2 w (txt T.n) T.c.toNat
  go_region_held3 (fun w' => w'.cell? ⟨W.heap.size, 0, none⟩ = some (.int .i64 k) ∧ w'.cell? ⟨W.heap.size, 1, none⟩ = some (.string nm) ∧ w'.cell? ⟨W.heap.size, 2, none⟩ = some (.int .i64 n) ∧ w'.cell? ⟨W.heap.size, 3, none⟩ = some (.string a) ∧ w'.cell? ⟨W.heap.size, 4, none⟩ = some (.int .u8 ac.toNat) ∧ w'.cell? ⟨W.heap.size, 5, none⟩ = some (.string b) ∧ w'.cell? ⟨W.heap.size, 6, none⟩ = some (.int .u8 bc.toNat) ∧ w'.cell? ⟨w2.heap.size, 0, none⟩ = some (.string (txt T.n)) ∧ w'.cell? ⟨w2.heap.size, 1, none⟩ = some (.int .u8 T.c.toNat) ∧ w'.cell? ⟨w3.heap.size, 0, none⟩ = some (.string (txt T.n)) ∧ w'.cell? ⟨w3.heap.size, 1, none⟩ = some (.int .u8 T.c.toNat))
    (refine ⟨?_, ?_, ?_, ?_, ?_, ?_, ?_, ?_, ?_, ?_, ?_⟩ <;> (go_keep; done))
    (first
      | (go_at_call 8; (with_reducible refine (AW.out _ E0.out).mono ?_); rintro e w' ⟨rfl, hb, hacc, hz⟩; have hc1 := fun o => hb.cell (p := ⟨W.heap.size, o, none⟩) hx; have hc2 := fun o => hb.cell (p := ⟨w2.heap.size, o, none⟩) hy; have hc3 := fun o => hb.cell (p := ⟨w3.heap.size, o, none⟩) hv; have hx := Nat.lt_of_lt_of_le hx hz; have hy := Nat.lt_of_lt_of_le hy hz; have hv := Nat.lt_of_lt_of_le hv hz)
      | (go_at_call 11; (with_reducible refine (W1.out _).mono ?_); rintro e w' ⟨rfl, rfl⟩)
      | (go_at_call 12; (with_reducible refine (W2.out _).mono ?_); rintro e w' ⟨rfl, rfl⟩)
      | (go_at_call 13; (with_reducible refine (K1.out _).mono ?_); rintro e w' ⟨rfl, rfl⟩)
      | (go_at_call 14; (with_reducible refine (K2.out _).mono ?_); rintro e w' ⟨rfl, rfl⟩)
      | (go_at_call 15; (with_reducible refine (P1.out _ hacc).mono ?_); rintro e w' ⟨rfl, hb, hacc, hz⟩; have hc1 := fun o => hb.cell (p := ⟨W.heap.size, o, none⟩) hx; have hc2 := fun o => hb.cell (p := ⟨w2.heap.size, o, none⟩) hy; have hc3 := fun o => hb.cell (p := ⟨w3.heap.size, o, none⟩) hv; have hx := Nat.lt_of_lt_of_le hx hz; have hy := Nat.lt_of_lt_of_le hy hz; have hv := Nat.lt_of_lt_of_le hv hz)
      | (go_at_call 16; (with_reducible refine (P2.out _ hacc).mono ?_); rintro e w' ⟨rfl, hb, hacc, hz⟩; have hc1 := fun o => hb.cell (p := ⟨W.heap.size, o, none⟩) hx; have hc2 := fun o => hb.cell (p := ⟨w2.heap.size, o, none⟩) hy; have hc3 := fun o => hb.cell (p := ⟨w3.heap.size, o, none⟩) hv; have hx := Nat.lt_of_lt_of_le hx hz; have hy := Nat.lt_of_lt_of_le hy hz; have hv := Nat.lt_of_lt_of_le hv hz)
      | (go_at_call 17; (with_reducible refine (Q1.out _ hacc).mono ?_); rintro e w' ⟨rfl, hb, hacc, hz⟩; have hc1 := fun o => hb.cell (p := ⟨W.heap.size, o, none⟩) hx; have hc2 := fun o => hb.cell (p := ⟨w2.heap.size, o, none⟩) hy; have hc3 := fun o => hb.cell (p := ⟨w3.heap.size, o, none⟩) hv; have hx := Nat.lt_of_lt_of_le hx hz; have hy := Nat.lt_of_lt_of_le hy hz; have hv := Nat.lt_of_lt_of_le hv hz)
      | (go_at_call 18; (with_reducible refine (Q2.out _ hacc).mono ?_); rintro e w' ⟨rfl, hb, hacc, hz⟩; have hc1 := fun o => hb.cell (p := ⟨W.heap.size, o, none⟩) hx; have hc2 := fun o => hb.cell (p := ⟨w2.heap.size, o, none⟩) hy; have hc3 := fun o => hb.cell (p := ⟨w3.heap.size, o, none⟩) hv; have hx := Nat.lt_of_lt_of_le hx hz; have hy := Nat.lt_of_lt_of_le hy hz; have hv := Nat.lt_of_lt_of_le hv hz))
  all_goals go_wp2_with fail
  all_goals go_ret
  all_goals exact ⟨rfl, hacc.2⟩
end Go.Proofs.YtmddabemnjlniaaDoor

