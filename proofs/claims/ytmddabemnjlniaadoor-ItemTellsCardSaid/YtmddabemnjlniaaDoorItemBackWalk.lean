/-
  The walk of the law ItemBack: it returns true.
-/
import Derived.Test.YtmddabemnjlniaaDoorItKit
namespace Go.Proofs.YtmddabemnjlniaaDoor
open Go.RowKit

/-- The item that a text was: it may be, and is written just so. -/
theorem right_y {l : List UInt8} {y : It.Itm} (h : It.parse l = some y) (hl : l.length ≤ 1000) (w : World) (hE : Env w) :
    Calls Tryd.prog 17 #[.agg #[.int .i64 y.k, .string (txt y.name), .int .i64 y.n, .string (txt y.e0.n), .int .u8 y.e0.c.toNat, .string (txt y.e1.n), .int .u8 y.e1.c.toNat]] w fun e w' => e = .returned (.bool true) ∧ Below w.heap.size w w' := by
  obtain ⟨h1, h2, h3, h4⟩ := parse_le h
  have := iright_any y.k (txt y.name) y.n (txt y.e0.n) y.e0.c (txt y.e1.n) y.e1.c w hE (by omega) (by rw [txt_size]; omega) (by rw [txt_size]; omega) (by rw [txt_size]; omega)
  rwa [ofV_txt, It.right_parse num_back l y h] at this
theorem print_y {s : ByteArray} {y : It.Itm} (h : It.parse s.data.toList = some y) (hl : s.data.toList.length ≤ 1000) (w : World) (hE : Env w) :
    Calls Tryd.prog 15 #[.agg #[.int .i64 y.k, .string (txt y.name), .int .i64 y.n, .string (txt y.e0.n), .int .u8 y.e0.c.toNat, .string (txt y.e1.n), .int .u8 y.e1.c.toNat]] w fun e w' => e = .returned (.string s) ∧ Below w.heap.size w w' := by
  obtain ⟨h1, h2, h3, h4⟩ := parse_le h
  obtain ⟨p1, p2⟩ := It.print_parse num_back _ y h
  have := iprint_any y.k (txt y.name) y.n (txt y.e0.n) y.e0.c (txt y.e1.n) y.e1.c w p2 (by omega) (by rw [txt_size]; omega) (by rw [txt_size]; omega) (by rw [txt_size]; omega) hE
  rwa [ofV_txt, p1, txt_of] at this
theorem short_of {nm a b : ByteArray} (h : shortB nm a b = true) : nm.size ≤ 50 ∧ a.size ≤ 50 ∧ b.size ≤ 50 := by
  simp only [shortB, Bool.and_eq_true, decide_eq_true_eq] at h
  exact ⟨h.1, h.2.1, h.2.2⟩
theorem right_x {k : Int} {nm : ByteArray} {n : Int} {a : ByteArray} {ac : UInt8} {b : ByteArray} {bc : UInt8} {r : Bool} (h : It.right (ofV k nm n a ac b bc) = r) (w : World) (hE : Env w) (h1 : n ≤ 9223372036854775807) (hn : nm.size ≤ 50) (ha : a.size ≤ 50) (hb : b.size ≤ 50) :
    Calls Tryd.prog 17 #[.agg #[.int .i64 k, .string nm, .int .i64 n, .string a, .int .u8 ac.toNat, .string b, .int .u8 bc.toNat]] w fun e w' => e = .returned (.bool r) ∧ Below w.heap.size w w' := by
  subst h; exact iright_any k nm n a ac b bc w hE h1 (by omega) (by omega) (by omega)
theorem right_neg {k : Int} {nm : ByteArray} {n : Int} {a : ByteArray} {ac : UInt8} {b : ByteArray} {bc : UInt8} (h : n < 0) : It.right (ofV k nm n a ac b bc) = false := by
  rw [It.right, dec_f (show ¬ 0 ≤ (ofV k nm n a ac b bc).n by show ¬ 0 ≤ n; omega)]; rfl
theorem right_none {k : Int} {nm : ByteArray} {n : Int} {a : ByteArray} {ac : UInt8} {b : ByteArray} {bc : UInt8} (h : It.parse (It.print (ofV k nm n a ac b bc)) = none) : It.right (ofV k nm n a ac b bc) = false := by
  rw [It.right, h]; simp
theorem right_some {k : Int} {nm : ByteArray} {n : Int} {a : ByteArray} {ac : UInt8} {b : ByteArray} {bc : UInt8} {z : It.Itm} {r : Bool} (h0 : 0 ≤ n) (h : It.parse (It.print (ofV k nm n a ac b bc)) = some z) (hr : decide (z = (ofV k nm n a ac b bc)) = r) : It.right (ofV k nm n a ac b bc) = r := by
  rw [It.right, h, dec_t (show 0 ≤ (ofV k nm n a ac b bc).n from h0), ← hr, Bool.true_and]; simp

set_option maxHeartbeats 8000000 in
set_option maxRecDepth 100000 in
theorem ib_long (k : Int) (nm : ByteArray) (n : Int) (a : ByteArray) (ac : UInt8) (b : ByteArray) (bc : UInt8) (s : ByteArray) (W : World) (_hn : n ≤ 9223372036854775807) (hm : nm.size ≤ maxLen) (ha : a.size ≤ maxLen) (hb : b.size ≤ maxLen) (ws : s.size ≤ maxLen) (hE : Env W) (h : shortB nm a b = false ∨ (shortB nm a b = true ∧ 200 < s.size)) :
    Calls Tryd.prog 5 #[.agg #[.int .i64 k, .string nm, .int .i64 n, .string a, .int .u8 ac.toNat, .string b, .int .u8 bc.toNat], .string s] W fun e w' => e = .returned (.bool true) ∧ Below W.heap.size W w' := by
  unfold maxLen at ws
  have SH := Lib.hid (ishort_any k nm n a ac b bc (W.alloc (.cells #[.int .i64 k, .string nm, .int .i64 n, .string a, .int .u8 ac.toNat, .string b, .int .u8 bc.toNat] 26)) hm ha hb)
  have B0 := Lib.hid ((Below.refl W.heap.size W).alloc (Nat.le_refl _) (.cells #[.int .i64 k, .string nm, .int .i64 n, .string a, .int .u8 ac.toNat, .string b, .int .u8 bc.toNat] 26))
  have H0 := Lib.hid (hE.below rfl B0.out)
  have AW := Lib.hid awake_any
  rcases h with h | ⟨h, hl⟩
  · rw [h] at SH
    clear h hm ha hb hE
    go_enter Tryd.func5, Tryd.ntmps5
    go_wp2_with fail
    refine SH.out.mono ?_; rintro e w1 ⟨rfl, hb1⟩
    have H1 := Lib.hid (H0.out.below rfl hb1)
    have R1 := Lib.hid (fresh_row hb1)
    have B1 := Lib.hid (B0.out.trans (hb1.mono (by simp)))
    clear hb1 H0 B0 SH
    go_wp2_with fail
    refine (AW.out _ H1.out).mono ?_; rintro e w2 ⟨rfl, hb⟩
    have hBF := Lib.hid (B1.out.trans (hb.mono B1.out.size))
    clear hb
    go_wp2_with fail
    go_ret
    exact ⟨rfl, hBF.out⟩
  · have h1 : decide (200 < (s.size : Int)) = true := dec_t (by omega)
    rw [h] at SH
    clear h hm ha hb hE hl
    go_enter Tryd.func5, Tryd.ntmps5
    go_wp2_with fail
    refine SH.out.mono ?_; rintro e w1 ⟨rfl, hb1⟩
    have H1 := Lib.hid (H0.out.below rfl hb1)
    have R1 := Lib.hid (fresh_row hb1)
    have B1 := Lib.hid (B0.out.trans (hb1.mono (by simp)))
    clear hb1 H0 B0 SH
    go_wp2_with fail
    refine (AW.out _ H1.out).mono ?_; rintro e w2 ⟨rfl, hb⟩
    have hBF := Lib.hid (B1.out.trans (hb.mono B1.out.size))
    clear hb
    go_wp2_with fail
    go_ret
    exact ⟨rfl, hBF.out⟩
set_option maxHeartbeats 8000000 in
set_option maxRecDepth 100000 in
theorem ib_none_neg (k : Int) (nm : ByteArray) (n : Int) (a : ByteArray) (ac : UInt8) (b : ByteArray) (bc : UInt8) (s : ByteArray) (W : World) (hn : n ≤ 9223372036854775807) (hm : nm.size ≤ maxLen) (ha : a.size ≤ maxLen) (hb : b.size ≤ maxLen) (ws : s.size ≤ maxLen) (hE : Env W) (h : shortB nm a b = true) (hl : ¬ 200 < s.size) (hp : It.parse s.data.toList = none) (hneg : n < 0) :
    Calls Tryd.prog 5 #[.agg #[.int .i64 k, .string nm, .int .i64 n, .string a, .int .u8 ac.toNat, .string b, .int .u8 bc.toNat], .string s] W fun e w' => e = .returned (.bool true) ∧ Below W.heap.size W w' := by
  unfold maxLen at ws
  have SH := Lib.hid (ishort_any k nm n a ac b bc (W.alloc (.cells #[.int .i64 k, .string nm, .int .i64 n, .string a, .int .u8 ac.toNat, .string b, .int .u8 bc.toNat] 26)) hm ha hb)
  have B0 := Lib.hid ((Below.refl W.heap.size W).alloc (Nat.le_refl _) (.cells #[.int .i64 k, .string nm, .int .i64 n, .string a, .int .u8 ac.toNat, .string b, .int .u8 bc.toNat] 26))
  have H0 := Lib.hid (hE.below rfl B0.out)
  have AW := Lib.hid awake_any
  have P := Lib.hid (fun w hE => by have := iparse_any s w hE (by omega); rw [hp] at this; exact this)
  have h1 : decide (200 < (s.size : Int)) = false := dec_f (by omega)
  obtain ⟨l1, l2, l3⟩ := short_of h
  rw [h] at SH
  have RX := Lib.hid (fun w hE => right_x (right_neg (k := k) (nm := nm) (a := a) (ac := ac) (b := b) (bc := bc) hneg) w hE hn l1 l2 l3)
  have hd : decide (n < 0) = true := dec_t hneg
  clear h hl hp hneg hn hm ha hb hE l1 l2 l3 ws
  go_enter Tryd.func5, Tryd.ntmps5
  go_wp2_with fail
  refine SH.out.mono ?_; rintro e w1 ⟨rfl, hb1⟩
  have H1 := Lib.hid (H0.out.below rfl hb1)
  have R1 := Lib.hid (fresh_row hb1)
  have B1 := Lib.hid (B0.out.trans (hb1.mono (by simp)))
  clear hb1 H0 B0 SH
  go_wp2_with fail
  refine (P.out _ H1.out).mono ?_; rintro e w4 ⟨y, rfl, hy, hb⟩
  obtain rfl : y = It.Itm.zero := hy
  have H4 := Lib.hid (H1.out.below rfl hb)
  have R4 := Lib.hid (stay_row R1.out hb)
  have B4 := Lib.hid (B1.out.trans (hb.mono B1.out.size))
  clear hb H1 R1 B1
  rw [Option.isSome_none]
  obtain ⟨⟨x0, x1, x2, x3, x4, x5, x6⟩, _, hxx⟩ := row7 R4.out
  have nx := World.new_ne _ _ x0
  go_wp2_with fail
  refine (AW.out _ (H4.out.below rfl ((Below.refl _ _).alloc (Nat.le_refl _) (.cells #[.int .i64 It.Itm.zero.k, .string (txt It.Itm.zero.name), .int .i64 It.Itm.zero.n, .string (txt It.Itm.zero.e0.n), .int .u8 It.Itm.zero.e0.c.toNat, .string (txt It.Itm.zero.e1.n), .int .u8 It.Itm.zero.e1.c.toNat] 26)))).mono ?_; rintro e w5 ⟨rfl, hb⟩
  have H5 := Lib.hid ((H4.out.below rfl ((Below.refl _ _).alloc (Nat.le_refl _) (.cells #[.int .i64 It.Itm.zero.k, .string (txt It.Itm.zero.name), .int .i64 It.Itm.zero.n, .string (txt It.Itm.zero.e0.n), .int .u8 It.Itm.zero.e0.c.toNat, .string (txt It.Itm.zero.e1.n), .int .u8 It.Itm.zero.e1.c.toNat] 26))).below rfl hb)
  have R5 := Lib.hid (keep_row R4.out hb)
  have B5 := Lib.hid (B4.out.trans ((((Below.refl w4.heap.size w4).alloc (Nat.le_refl _) (.cells #[.int .i64 It.Itm.zero.k, .string (txt It.Itm.zero.name), .int .i64 It.Itm.zero.n, .string (txt It.Itm.zero.e0.n), .int .u8 It.Itm.zero.e0.c.toNat, .string (txt It.Itm.zero.e1.n), .int .u8 It.Itm.zero.e1.c.toNat] 26)).trans (hb.mono (by simp))).mono B4.out.size))
  clear hb H4 R4 B4 x0 x1 x2 x3 x4 x5 x6 nx hxx
  obtain ⟨⟨x0, x1, x2, x3, x4, x5, x6⟩, _, hxx⟩ := row7 R5.out
  have nx := World.new_ne _ _ x0
  go_wp2_with fail
  refine (RX.out _ H5.out).mono ?_; rintro e w6 ⟨rfl, hb⟩
  have hBF := Lib.hid (B5.out.trans (hb.mono B5.out.size))
  clear hb
  go_wp2_with fail
  go_ret
  exact ⟨rfl, hBF.out⟩
set_option maxHeartbeats 8000000 in
set_option maxRecDepth 100000 in
theorem ib_none_none (k : Int) (nm : ByteArray) (n : Int) (a : ByteArray) (ac : UInt8) (b : ByteArray) (bc : UInt8) (s : ByteArray) (W : World) (hn : n ≤ 9223372036854775807) (hm : nm.size ≤ maxLen) (ha : a.size ≤ maxLen) (hb : b.size ≤ maxLen) (ws : s.size ≤ maxLen) (hE : Env W) (h : shortB nm a b = true) (hl : ¬ 200 < s.size) (hp : It.parse s.data.toList = none) (hneg : ¬ n < 0) (hq : It.parse (It.print (ofV k nm n a ac b bc)) = none) :
    Calls Tryd.prog 5 #[.agg #[.int .i64 k, .string nm, .int .i64 n, .string a, .int .u8 ac.toNat, .string b, .int .u8 bc.toNat], .string s] W fun e w' => e = .returned (.bool true) ∧ Below W.heap.size W w' := by
  unfold maxLen at ws
  have SH := Lib.hid (ishort_any k nm n a ac b bc (W.alloc (.cells #[.int .i64 k, .string nm, .int .i64 n, .string a, .int .u8 ac.toNat, .string b, .int .u8 bc.toNat] 26)) hm ha hb)
  have B0 := Lib.hid ((Below.refl W.heap.size W).alloc (Nat.le_refl _) (.cells #[.int .i64 k, .string nm, .int .i64 n, .string a, .int .u8 ac.toNat, .string b, .int .u8 bc.toNat] 26))
  have H0 := Lib.hid (hE.below rfl B0.out)
  have AW := Lib.hid awake_any
  have P := Lib.hid (fun w hE => by have := iparse_any s w hE (by omega); rw [hp] at this; exact this)
  have h1 : decide (200 < (s.size : Int)) = false := dec_f (by omega)
  obtain ⟨l1, l2, l3⟩ := short_of h
  rw [h] at SH
  have hle := print_le k nm n a ac b bc (by omega) hn (by omega) (by omega) (by omega)
  have PX := Lib.hid (fun w hE => iprint_any k nm n a ac b bc w (by omega) hn (by omega) (by omega) (by omega) hE)
  have hd : decide (n < 0) = false := dec_f hneg
  have PP := Lib.hid (fun w hE => by have := iparse_any (txt (It.print (ofV k nm n a ac b bc))) w hE (by rw [txt_size]; exact hle); rw [txt_toList, hq] at this; exact this)
  have RX := Lib.hid (fun w hE => right_x (right_none hq) w hE hn l1 l2 l3)
  clear h hl hp hneg hn hm ha hb hE l1 l2 l3 ws hq hle
  go_enter Tryd.func5, Tryd.ntmps5
  go_wp2_with fail
  refine SH.out.mono ?_; rintro e w1 ⟨rfl, hb1⟩
  have H1 := Lib.hid (H0.out.below rfl hb1)
  have R1 := Lib.hid (fresh_row hb1)
  have B1 := Lib.hid (B0.out.trans (hb1.mono (by simp)))
  clear hb1 H0 B0 SH
  go_wp2_with fail
  refine (P.out _ H1.out).mono ?_; rintro e w4 ⟨y, rfl, hy, hb⟩
  obtain rfl : y = It.Itm.zero := hy
  have H4 := Lib.hid (H1.out.below rfl hb)
  have R4 := Lib.hid (stay_row R1.out hb)
  have B4 := Lib.hid (B1.out.trans (hb.mono B1.out.size))
  clear hb H1 R1 B1
  rw [Option.isSome_none]
  obtain ⟨⟨x0, x1, x2, x3, x4, x5, x6⟩, _, hxx⟩ := row7 R4.out
  have nx := World.new_ne _ _ x0
  go_wp2_with fail
  refine (PX.out _ (H4.out.below rfl ((Below.refl _ _).alloc (Nat.le_refl _) (.cells #[.int .i64 It.Itm.zero.k, .string (txt It.Itm.zero.name), .int .i64 It.Itm.zero.n, .string (txt It.Itm.zero.e0.n), .int .u8 It.Itm.zero.e0.c.toNat, .string (txt It.Itm.zero.e1.n), .int .u8 It.Itm.zero.e1.c.toNat] 26)))).mono ?_; rintro e w5 ⟨rfl, hb⟩
  have H5 := Lib.hid ((H4.out.below rfl ((Below.refl _ _).alloc (Nat.le_refl _) (.cells #[.int .i64 It.Itm.zero.k, .string (txt It.Itm.zero.name), .int .i64 It.Itm.zero.n, .string (txt It.Itm.zero.e0.n), .int .u8 It.Itm.zero.e0.c.toNat, .string (txt It.Itm.zero.e1.n), .int .u8 It.Itm.zero.e1.c.toNat] 26))).below rfl hb)
  have R5 := Lib.hid (keep_row R4.out hb)
  have B5 := Lib.hid (B4.out.trans ((((Below.refl w4.heap.size w4).alloc (Nat.le_refl _) (.cells #[.int .i64 It.Itm.zero.k, .string (txt It.Itm.zero.name), .int .i64 It.Itm.zero.n, .string (txt It.Itm.zero.e0.n), .int .u8 It.Itm.zero.e0.c.toNat, .string (txt It.Itm.zero.e1.n), .int .u8 It.Itm.zero.e1.c.toNat] 26)).trans (hb.mono (by simp))).mono B4.out.size))
  clear hb H4 R4 B4 x0 x1 x2 x3 x4 x5 x6 nx hxx
  go_wp2_with fail
  refine (PP.out _ H5.out).mono ?_; rintro e w6 ⟨z1, rfl, hz, hb⟩
  obtain rfl : z1 = It.Itm.zero := hz
  have H6 := Lib.hid (H5.out.below rfl hb)
  have R6 := Lib.hid (stay_row R5.out hb)
  have B6 := Lib.hid (B5.out.trans (hb.mono B5.out.size))
  clear hb H5 R5 B5
  rw [Option.isSome_none]
  go_wp2_with fail
  refine (AW.out _ (H6.out.below rfl ((Below.refl _ _).alloc (Nat.le_refl _) (.cells #[.int .i64 It.Itm.zero.k, .string (txt It.Itm.zero.name), .int .i64 It.Itm.zero.n, .string (txt It.Itm.zero.e0.n), .int .u8 It.Itm.zero.e0.c.toNat, .string (txt It.Itm.zero.e1.n), .int .u8 It.Itm.zero.e1.c.toNat] 26)))).mono ?_; rintro e w7 ⟨rfl, hb⟩
  have H7 := Lib.hid ((H6.out.below rfl ((Below.refl _ _).alloc (Nat.le_refl _) (.cells #[.int .i64 It.Itm.zero.k, .string (txt It.Itm.zero.name), .int .i64 It.Itm.zero.n, .string (txt It.Itm.zero.e0.n), .int .u8 It.Itm.zero.e0.c.toNat, .string (txt It.Itm.zero.e1.n), .int .u8 It.Itm.zero.e1.c.toNat] 26))).below rfl hb)
  have R7 := Lib.hid (keep_row R6.out hb)
  have B7 := Lib.hid (B6.out.trans ((((Below.refl w6.heap.size w6).alloc (Nat.le_refl _) (.cells #[.int .i64 It.Itm.zero.k, .string (txt It.Itm.zero.name), .int .i64 It.Itm.zero.n, .string (txt It.Itm.zero.e0.n), .int .u8 It.Itm.zero.e0.c.toNat, .string (txt It.Itm.zero.e1.n), .int .u8 It.Itm.zero.e1.c.toNat] 26)).trans (hb.mono (by simp))).mono B6.out.size))
  have Z7 := Lib.hid (fresh_row hb)
  clear hb H6 R6 B6 
  obtain ⟨⟨x0, x1, x2, x3, x4, x5, x6⟩, _, hxx⟩ := row7 R7.out
  have nx := World.new_ne _ _ x0
  go_wp2_with fail
  refine (RX.out _ H7.out).mono ?_; rintro e w8 ⟨rfl, hb⟩
  have R8 := Lib.hid (stay_row R7.out hb)
  have Z8 := Lib.hid (stay_row Z7.out hb)
  have hBF := Lib.hid (B7.out.trans (hb.mono B7.out.size))
  clear hb R7 Z7 B7 x0 x1 x2 x3 x4 x5 x6 nx hxx
  obtain ⟨⟨x0, x1, x2, x3, x4, x5, x6⟩, _, hxx⟩ := row7 R8.out
  obtain ⟨⟨z0, zz1, z2, z3, z4, z5, z6⟩, _, hzz⟩ := row7 Z8.out
  go_wp2_with fail
  go_ret
  exact ⟨rfl, hBF.out⟩
set_option maxHeartbeats 8000000 in
set_option maxRecDepth 100000 in
theorem ib_none_some (k : Int) (nm : ByteArray) (n : Int) (a : ByteArray) (ac : UInt8) (b : ByteArray) (bc : UInt8) (s : ByteArray) (W : World) (hn : n ≤ 9223372036854775807) (hm : nm.size ≤ maxLen) (ha : a.size ≤ maxLen) (hb : b.size ≤ maxLen) (ws : s.size ≤ maxLen) (hE : Env W) (h : shortB nm a b = true) (hl : ¬ 200 < s.size) (hp : It.parse s.data.toList = none) (hneg : ¬ n < 0) (z : It.Itm) (hq : It.parse (It.print (ofV k nm n a ac b bc)) = some z) (r : Bool) (hr : decide (z = (ofV k nm n a ac b bc)) = r) :
    Calls Tryd.prog 5 #[.agg #[.int .i64 k, .string nm, .int .i64 n, .string a, .int .u8 ac.toNat, .string b, .int .u8 bc.toNat], .string s] W fun e w' => e = .returned (.bool true) ∧ Below W.heap.size W w' := by
  unfold maxLen at ws
  have SH := Lib.hid (ishort_any k nm n a ac b bc (W.alloc (.cells #[.int .i64 k, .string nm, .int .i64 n, .string a, .int .u8 ac.toNat, .string b, .int .u8 bc.toNat] 26)) hm ha hb)
  have B0 := Lib.hid ((Below.refl W.heap.size W).alloc (Nat.le_refl _) (.cells #[.int .i64 k, .string nm, .int .i64 n, .string a, .int .u8 ac.toNat, .string b, .int .u8 bc.toNat] 26))
  have H0 := Lib.hid (hE.below rfl B0.out)
  have AW := Lib.hid awake_any
  have P := Lib.hid (fun w hE => by have := iparse_any s w hE (by omega); rw [hp] at this; exact this)
  have h1 : decide (200 < (s.size : Int)) = false := dec_f (by omega)
  obtain ⟨l1, l2, l3⟩ := short_of h
  rw [h] at SH
  have hle := print_le k nm n a ac b bc (by omega) hn (by omega) (by omega) (by omega)
  have PX := Lib.hid (fun w hE => iprint_any k nm n a ac b bc w (by omega) hn (by omega) (by omega) (by omega) hE)
  have hd : decide (n < 0) = false := dec_f hneg
  have PP := Lib.hid (fun w hE => by have := iparse_any (txt (It.print (ofV k nm n a ac b bc))) w hE (by rw [txt_size]; exact hle); rw [txt_toList, hq] at this; exact this)
  have RX := Lib.hid (fun w hE => right_x (right_some (by omega) hq hr) w hE hn l1 l2 l3)
  have QQ := Lib.hid (fun W => by have := bin_item W z k nm n a ac b bc; rw [hr] at this; exact this)
  clear h hl hp hneg hn hm ha hb hE l1 l2 l3 ws hq hle hr
  cases r
  all_goals
    go_enter Tryd.func5, Tryd.ntmps5
    go_wp2_with fail
    refine SH.out.mono ?_; rintro e w1 ⟨rfl, hb1⟩
    have H1 := Lib.hid (H0.out.below rfl hb1)
    have R1 := Lib.hid (fresh_row hb1)
    have B1 := Lib.hid (B0.out.trans (hb1.mono (by simp)))
    clear hb1 H0 B0 SH
    go_wp2_with fail
    refine (P.out _ H1.out).mono ?_; rintro e w4 ⟨y, rfl, hy, hb⟩
    obtain rfl : y = It.Itm.zero := hy
    have H4 := Lib.hid (H1.out.below rfl hb)
    have R4 := Lib.hid (stay_row R1.out hb)
    have B4 := Lib.hid (B1.out.trans (hb.mono B1.out.size))
    clear hb H1 R1 B1
    rw [Option.isSome_none]
    obtain ⟨⟨x0, x1, x2, x3, x4, x5, x6⟩, _, hxx⟩ := row7 R4.out
    have nx := World.new_ne _ _ x0
    go_wp2_with fail
    refine (PX.out _ (H4.out.below rfl ((Below.refl _ _).alloc (Nat.le_refl _) (.cells #[.int .i64 It.Itm.zero.k, .string (txt It.Itm.zero.name), .int .i64 It.Itm.zero.n, .string (txt It.Itm.zero.e0.n), .int .u8 It.Itm.zero.e0.c.toNat, .string (txt It.Itm.zero.e1.n), .int .u8 It.Itm.zero.e1.c.toNat] 26)))).mono ?_; rintro e w5 ⟨rfl, hb⟩
    have H5 := Lib.hid ((H4.out.below rfl ((Below.refl _ _).alloc (Nat.le_refl _) (.cells #[.int .i64 It.Itm.zero.k, .string (txt It.Itm.zero.name), .int .i64 It.Itm.zero.n, .string (txt It.Itm.zero.e0.n), .int .u8 It.Itm.zero.e0.c.toNat, .string (txt It.Itm.zero.e1.n), .int .u8 It.Itm.zero.e1.c.toNat] 26))).below rfl hb)
    have R5 := Lib.hid (keep_row R4.out hb)
    have B5 := Lib.hid (B4.out.trans ((((Below.refl w4.heap.size w4).alloc (Nat.le_refl _) (.cells #[.int .i64 It.Itm.zero.k, .string (txt It.Itm.zero.name), .int .i64 It.Itm.zero.n, .string (txt It.Itm.zero.e0.n), .int .u8 It.Itm.zero.e0.c.toNat, .string (txt It.Itm.zero.e1.n), .int .u8 It.Itm.zero.e1.c.toNat] 26)).trans (hb.mono (by simp))).mono B4.out.size))
    clear hb H4 R4 B4 x0 x1 x2 x3 x4 x5 x6 nx hxx
    go_wp2_with fail
    refine (PP.out _ H5.out).mono ?_; rintro e w6 ⟨z1, rfl, hz, hb⟩
    have hz2 : z = z1 := hz.symm
    clear hz
    subst hz2
    have H6 := Lib.hid (H5.out.below rfl hb)
    have R6 := Lib.hid (stay_row R5.out hb)
    have B6 := Lib.hid (B5.out.trans (hb.mono B5.out.size))
    clear hb H5 R5 B5
    rw [Option.isSome_some]
    go_wp2_with fail
    refine (AW.out _ (H6.out.below rfl ((Below.refl _ _).alloc (Nat.le_refl _) (.cells #[.int .i64 z.k, .string (txt z.name), .int .i64 z.n, .string (txt z.e0.n), .int .u8 z.e0.c.toNat, .string (txt z.e1.n), .int .u8 z.e1.c.toNat] 26)))).mono ?_; rintro e w7 ⟨rfl, hb⟩
    have H7 := Lib.hid ((H6.out.below rfl ((Below.refl _ _).alloc (Nat.le_refl _) (.cells #[.int .i64 z.k, .string (txt z.name), .int .i64 z.n, .string (txt z.e0.n), .int .u8 z.e0.c.toNat, .string (txt z.e1.n), .int .u8 z.e1.c.toNat] 26))).below rfl hb)
    have R7 := Lib.hid (keep_row R6.out hb)
    have B7 := Lib.hid (B6.out.trans ((((Below.refl w6.heap.size w6).alloc (Nat.le_refl _) (.cells #[.int .i64 z.k, .string (txt z.name), .int .i64 z.n, .string (txt z.e0.n), .int .u8 z.e0.c.toNat, .string (txt z.e1.n), .int .u8 z.e1.c.toNat] 26)).trans (hb.mono (by simp))).mono B6.out.size))
    have Z7 := Lib.hid (fresh_row hb)
    clear hb H6 R6 B6 
    obtain ⟨⟨x0, x1, x2, x3, x4, x5, x6⟩, _, hxx⟩ := row7 R7.out
    have nx := World.new_ne _ _ x0
    go_wp2_with fail
    refine (RX.out _ H7.out).mono ?_; rintro e w8 ⟨rfl, hb⟩
    have R8 := Lib.hid (stay_row R7.out hb)
    have Z8 := Lib.hid (stay_row Z7.out hb)
    have hBF := Lib.hid (B7.out.trans (hb.mono B7.out.size))
    clear hb R7 Z7 B7 x0 x1 x2 x3 x4 x5 x6 nx hxx
    obtain ⟨⟨x0, x1, x2, x3, x4, x5, x6⟩, _, hxx⟩ := row7 R8.out
    obtain ⟨⟨z0, zz1, z2, z3, z4, z5, z6⟩, _, hzz⟩ := row7 Z8.out
    have Q := QQ.out
    go_wp2_with fail
    go_ret
    exact ⟨rfl, hBF.out⟩
set_option maxHeartbeats 8000000 in
set_option maxRecDepth 100000 in
theorem ib_some_neg (k : Int) (nm : ByteArray) (n : Int) (a : ByteArray) (ac : UInt8) (b : ByteArray) (bc : UInt8) (s : ByteArray) (W : World) (hn : n ≤ 9223372036854775807) (hm : nm.size ≤ maxLen) (ha : a.size ≤ maxLen) (hb : b.size ≤ maxLen) (ws : s.size ≤ maxLen) (hE : Env W) (y : It.Itm) (h : shortB nm a b = true) (hl : ¬ 200 < s.size) (hp : It.parse s.data.toList = some y) (hneg : n < 0) :
    Calls Tryd.prog 5 #[.agg #[.int .i64 k, .string nm, .int .i64 n, .string a, .int .u8 ac.toNat, .string b, .int .u8 bc.toNat], .string s] W fun e w' => e = .returned (.bool true) ∧ Below W.heap.size W w' := by
  unfold maxLen at ws
  have SH := Lib.hid (ishort_any k nm n a ac b bc (W.alloc (.cells #[.int .i64 k, .string nm, .int .i64 n, .string a, .int .u8 ac.toNat, .string b, .int .u8 bc.toNat] 26)) hm ha hb)
  have B0 := Lib.hid ((Below.refl W.heap.size W).alloc (Nat.le_refl _) (.cells #[.int .i64 k, .string nm, .int .i64 n, .string a, .int .u8 ac.toNat, .string b, .int .u8 bc.toNat] 26))
  have H0 := Lib.hid (hE.below rfl B0.out)
  have AW := Lib.hid awake_any
  have P := Lib.hid (fun w hE => by have := iparse_any s w hE (by omega); rw [hp] at this; exact this)
  have h1 : decide (200 < (s.size : Int)) = false := dec_f (by omega)
  have hsl : s.data.toList.length ≤ 1000 := by simp; omega
  have RY := Lib.hid (fun w hE => right_y hp hsl w hE)
  have PY := Lib.hid (fun w hE => print_y hp hsl w hE)
  clear hsl
  obtain ⟨l1, l2, l3⟩ := short_of h
  rw [h] at SH
  have RX := Lib.hid (fun w hE => right_x (right_neg (k := k) (nm := nm) (a := a) (ac := ac) (b := b) (bc := bc) hneg) w hE hn l1 l2 l3)
  have hd : decide (n < 0) = true := dec_t hneg
  clear h hl hp hneg hn hm ha hb hE l1 l2 l3 ws
  go_enter Tryd.func5, Tryd.ntmps5
  go_wp2_with fail
  refine SH.out.mono ?_; rintro e w1 ⟨rfl, hb1⟩
  have H1 := Lib.hid (H0.out.below rfl hb1)
  have R1 := Lib.hid (fresh_row hb1)
  have B1 := Lib.hid (B0.out.trans (hb1.mono (by simp)))
  clear hb1 H0 B0 SH
  go_wp2_with fail
  refine (P.out _ H1.out).mono ?_; rintro e w2 ⟨y1, rfl, hy, hb⟩
  have hy2 : y = y1 := hy.symm
  clear hy
  subst hy2
  have H2 := Lib.hid (H1.out.below rfl hb)
  have R2 := Lib.hid (stay_row R1.out hb)
  have B2 := Lib.hid (B1.out.trans (hb.mono B1.out.size))
  clear hb H1 R1 B1
  rw [Option.isSome_some]
  go_wp2_with fail
  refine (RY.out _ (H2.out.below rfl ((Below.refl _ _).alloc (Nat.le_refl _) (.cells #[.int .i64 y.k, .string (txt y.name), .int .i64 y.n, .string (txt y.e0.n), .int .u8 y.e0.c.toNat, .string (txt y.e1.n), .int .u8 y.e1.c.toNat] 26)))).mono ?_; rintro e w3 ⟨rfl, hb⟩
  have H3 := Lib.hid ((H2.out.below rfl ((Below.refl _ _).alloc (Nat.le_refl _) (.cells #[.int .i64 y.k, .string (txt y.name), .int .i64 y.n, .string (txt y.e0.n), .int .u8 y.e0.c.toNat, .string (txt y.e1.n), .int .u8 y.e1.c.toNat] 26))).below rfl hb)
  have R3 := Lib.hid (keep_row R2.out hb)
  have B3 := Lib.hid (B2.out.trans ((((Below.refl w2.heap.size w2).alloc (Nat.le_refl _) (.cells #[.int .i64 y.k, .string (txt y.name), .int .i64 y.n, .string (txt y.e0.n), .int .u8 y.e0.c.toNat, .string (txt y.e1.n), .int .u8 y.e1.c.toNat] 26)).trans (hb.mono (by simp))).mono B2.out.size))
  have Y3 := Lib.hid (fresh_row hb)
  clear hb H2 R2 B2 
  obtain ⟨⟨y0, yy1, y2, y3, y4, y5, y6⟩, _, hyy⟩ := row7 Y3.out
  go_wp2_with fail
  refine (PY.out _ H3.out).mono ?_; rintro e w4 ⟨rfl, hb⟩
  have H4 := Lib.hid (H3.out.below rfl hb)
  have R4 := Lib.hid (stay_row R3.out hb)
  have B4 := Lib.hid (B3.out.trans (hb.mono B3.out.size))
  clear hb H3 R3 B3 y0 yy1 y2 y3 y4 y5 y6 hyy Y3
  obtain ⟨⟨x0, x1, x2, x3, x4, x5, x6⟩, _, hxx⟩ := row7 R4.out
  have nx := World.new_ne _ _ x0
  go_wp2_with fail
  refine (AW.out _ H4.out).mono ?_; rintro e w5 ⟨rfl, hb⟩
  have H5 := Lib.hid (H4.out.below rfl hb)
  have R5 := Lib.hid (stay_row R4.out hb)
  have B5 := Lib.hid (B4.out.trans (hb.mono B4.out.size))
  clear hb H4 R4 B4 x0 x1 x2 x3 x4 x5 x6 nx hxx
  obtain ⟨⟨x0, x1, x2, x3, x4, x5, x6⟩, _, hxx⟩ := row7 R5.out
  have nx := World.new_ne _ _ x0
  go_wp2_with fail
  refine (RX.out _ H5.out).mono ?_; rintro e w6 ⟨rfl, hb⟩
  have hBF := Lib.hid (B5.out.trans (hb.mono B5.out.size))
  clear hb
  go_wp2_with fail
  go_ret
  exact ⟨rfl, hBF.out⟩
set_option maxHeartbeats 8000000 in
set_option maxRecDepth 100000 in
theorem ib_some_none (k : Int) (nm : ByteArray) (n : Int) (a : ByteArray) (ac : UInt8) (b : ByteArray) (bc : UInt8) (s : ByteArray) (W : World) (hn : n ≤ 9223372036854775807) (hm : nm.size ≤ maxLen) (ha : a.size ≤ maxLen) (hb : b.size ≤ maxLen) (ws : s.size ≤ maxLen) (hE : Env W) (y : It.Itm) (h : shortB nm a b = true) (hl : ¬ 200 < s.size) (hp : It.parse s.data.toList = some y) (hneg : ¬ n < 0) (hq : It.parse (It.print (ofV k nm n a ac b bc)) = none) :
    Calls Tryd.prog 5 #[.agg #[.int .i64 k, .string nm, .int .i64 n, .string a, .int .u8 ac.toNat, .string b, .int .u8 bc.toNat], .string s] W fun e w' => e = .returned (.bool true) ∧ Below W.heap.size W w' := by
  unfold maxLen at ws
  have SH := Lib.hid (ishort_any k nm n a ac b bc (W.alloc (.cells #[.int .i64 k, .string nm, .int .i64 n, .string a, .int .u8 ac.toNat, .string b, .int .u8 bc.toNat] 26)) hm ha hb)
  have B0 := Lib.hid ((Below.refl W.heap.size W).alloc (Nat.le_refl _) (.cells #[.int .i64 k, .string nm, .int .i64 n, .string a, .int .u8 ac.toNat, .string b, .int .u8 bc.toNat] 26))
  have H0 := Lib.hid (hE.below rfl B0.out)
  have AW := Lib.hid awake_any
  have P := Lib.hid (fun w hE => by have := iparse_any s w hE (by omega); rw [hp] at this; exact this)
  have h1 : decide (200 < (s.size : Int)) = false := dec_f (by omega)
  have hsl : s.data.toList.length ≤ 1000 := by simp; omega
  have RY := Lib.hid (fun w hE => right_y hp hsl w hE)
  have PY := Lib.hid (fun w hE => print_y hp hsl w hE)
  clear hsl
  obtain ⟨l1, l2, l3⟩ := short_of h
  rw [h] at SH
  have hle := print_le k nm n a ac b bc (by omega) hn (by omega) (by omega) (by omega)
  have PX := Lib.hid (fun w hE => iprint_any k nm n a ac b bc w (by omega) hn (by omega) (by omega) (by omega) hE)
  have hd : decide (n < 0) = false := dec_f hneg
  have PP := Lib.hid (fun w hE => by have := iparse_any (txt (It.print (ofV k nm n a ac b bc))) w hE (by rw [txt_size]; exact hle); rw [txt_toList, hq] at this; exact this)
  have RX := Lib.hid (fun w hE => right_x (right_none hq) w hE hn l1 l2 l3)
  clear h hl hp hneg hn hm ha hb hE l1 l2 l3 ws hq hle
  go_enter Tryd.func5, Tryd.ntmps5
  go_wp2_with fail
  refine SH.out.mono ?_; rintro e w1 ⟨rfl, hb1⟩
  have H1 := Lib.hid (H0.out.below rfl hb1)
  have R1 := Lib.hid (fresh_row hb1)
  have B1 := Lib.hid (B0.out.trans (hb1.mono (by simp)))
  clear hb1 H0 B0 SH
  go_wp2_with fail
  refine (P.out _ H1.out).mono ?_; rintro e w2 ⟨y1, rfl, hy, hb⟩
  have hy2 : y = y1 := hy.symm
  clear hy
  subst hy2
  have H2 := Lib.hid (H1.out.below rfl hb)
  have R2 := Lib.hid (stay_row R1.out hb)
  have B2 := Lib.hid (B1.out.trans (hb.mono B1.out.size))
  clear hb H1 R1 B1
  rw [Option.isSome_some]
  go_wp2_with fail
  refine (RY.out _ (H2.out.below rfl ((Below.refl _ _).alloc (Nat.le_refl _) (.cells #[.int .i64 y.k, .string (txt y.name), .int .i64 y.n, .string (txt y.e0.n), .int .u8 y.e0.c.toNat, .string (txt y.e1.n), .int .u8 y.e1.c.toNat] 26)))).mono ?_; rintro e w3 ⟨rfl, hb⟩
  have H3 := Lib.hid ((H2.out.below rfl ((Below.refl _ _).alloc (Nat.le_refl _) (.cells #[.int .i64 y.k, .string (txt y.name), .int .i64 y.n, .string (txt y.e0.n), .int .u8 y.e0.c.toNat, .string (txt y.e1.n), .int .u8 y.e1.c.toNat] 26))).below rfl hb)
  have R3 := Lib.hid (keep_row R2.out hb)
  have B3 := Lib.hid (B2.out.trans ((((Below.refl w2.heap.size w2).alloc (Nat.le_refl _) (.cells #[.int .i64 y.k, .string (txt y.name), .int .i64 y.n, .string (txt y.e0.n), .int .u8 y.e0.c.toNat, .string (txt y.e1.n), .int .u8 y.e1.c.toNat] 26)).trans (hb.mono (by simp))).mono B2.out.size))
  have Y3 := Lib.hid (fresh_row hb)
  clear hb H2 R2 B2 
  obtain ⟨⟨y0, yy1, y2, y3, y4, y5, y6⟩, _, hyy⟩ := row7 Y3.out
  go_wp2_with fail
  refine (PY.out _ H3.out).mono ?_; rintro e w4 ⟨rfl, hb⟩
  have H4 := Lib.hid (H3.out.below rfl hb)
  have R4 := Lib.hid (stay_row R3.out hb)
  have B4 := Lib.hid (B3.out.trans (hb.mono B3.out.size))
  clear hb H3 R3 B3 y0 yy1 y2 y3 y4 y5 y6 hyy Y3
  obtain ⟨⟨x0, x1, x2, x3, x4, x5, x6⟩, _, hxx⟩ := row7 R4.out
  have nx := World.new_ne _ _ x0
  go_wp2_with fail
  refine (PX.out _ H4.out).mono ?_; rintro e w5 ⟨rfl, hb⟩
  have H5 := Lib.hid (H4.out.below rfl hb)
  have R5 := Lib.hid (stay_row R4.out hb)
  have B5 := Lib.hid (B4.out.trans (hb.mono B4.out.size))
  clear hb H4 R4 B4 x0 x1 x2 x3 x4 x5 x6 nx hxx
  go_wp2_with fail
  refine (PP.out _ H5.out).mono ?_; rintro e w6 ⟨z1, rfl, hz, hb⟩
  obtain rfl : z1 = It.Itm.zero := hz
  have H6 := Lib.hid (H5.out.below rfl hb)
  have R6 := Lib.hid (stay_row R5.out hb)
  have B6 := Lib.hid (B5.out.trans (hb.mono B5.out.size))
  clear hb H5 R5 B5
  rw [Option.isSome_none]
  go_wp2_with fail
  refine (AW.out _ (H6.out.below rfl ((Below.refl _ _).alloc (Nat.le_refl _) (.cells #[.int .i64 It.Itm.zero.k, .string (txt It.Itm.zero.name), .int .i64 It.Itm.zero.n, .string (txt It.Itm.zero.e0.n), .int .u8 It.Itm.zero.e0.c.toNat, .string (txt It.Itm.zero.e1.n), .int .u8 It.Itm.zero.e1.c.toNat] 26)))).mono ?_; rintro e w7 ⟨rfl, hb⟩
  have H7 := Lib.hid ((H6.out.below rfl ((Below.refl _ _).alloc (Nat.le_refl _) (.cells #[.int .i64 It.Itm.zero.k, .string (txt It.Itm.zero.name), .int .i64 It.Itm.zero.n, .string (txt It.Itm.zero.e0.n), .int .u8 It.Itm.zero.e0.c.toNat, .string (txt It.Itm.zero.e1.n), .int .u8 It.Itm.zero.e1.c.toNat] 26))).below rfl hb)
  have R7 := Lib.hid (keep_row R6.out hb)
  have B7 := Lib.hid (B6.out.trans ((((Below.refl w6.heap.size w6).alloc (Nat.le_refl _) (.cells #[.int .i64 It.Itm.zero.k, .string (txt It.Itm.zero.name), .int .i64 It.Itm.zero.n, .string (txt It.Itm.zero.e0.n), .int .u8 It.Itm.zero.e0.c.toNat, .string (txt It.Itm.zero.e1.n), .int .u8 It.Itm.zero.e1.c.toNat] 26)).trans (hb.mono (by simp))).mono B6.out.size))
  have Z7 := Lib.hid (fresh_row hb)
  clear hb H6 R6 B6 
  obtain ⟨⟨x0, x1, x2, x3, x4, x5, x6⟩, _, hxx⟩ := row7 R7.out
  have nx := World.new_ne _ _ x0
  go_wp2_with fail
  refine (RX.out _ H7.out).mono ?_; rintro e w8 ⟨rfl, hb⟩
  have R8 := Lib.hid (stay_row R7.out hb)
  have Z8 := Lib.hid (stay_row Z7.out hb)
  have hBF := Lib.hid (B7.out.trans (hb.mono B7.out.size))
  clear hb R7 Z7 B7 x0 x1 x2 x3 x4 x5 x6 nx hxx
  obtain ⟨⟨x0, x1, x2, x3, x4, x5, x6⟩, _, hxx⟩ := row7 R8.out
  obtain ⟨⟨z0, zz1, z2, z3, z4, z5, z6⟩, _, hzz⟩ := row7 Z8.out
  go_wp2_with fail
  go_ret
  exact ⟨rfl, hBF.out⟩
set_option maxHeartbeats 8000000 in
set_option maxRecDepth 100000 in
theorem ib_some_some (k : Int) (nm : ByteArray) (n : Int) (a : ByteArray) (ac : UInt8) (b : ByteArray) (bc : UInt8) (s : ByteArray) (W : World) (hn : n ≤ 9223372036854775807) (hm : nm.size ≤ maxLen) (ha : a.size ≤ maxLen) (hb : b.size ≤ maxLen) (ws : s.size ≤ maxLen) (hE : Env W) (y : It.Itm) (h : shortB nm a b = true) (hl : ¬ 200 < s.size) (hp : It.parse s.data.toList = some y) (hneg : ¬ n < 0) (z : It.Itm) (hq : It.parse (It.print (ofV k nm n a ac b bc)) = some z) (r : Bool) (hr : decide (z = (ofV k nm n a ac b bc)) = r) :
    Calls Tryd.prog 5 #[.agg #[.int .i64 k, .string nm, .int .i64 n, .string a, .int .u8 ac.toNat, .string b, .int .u8 bc.toNat], .string s] W fun e w' => e = .returned (.bool true) ∧ Below W.heap.size W w' := by
  unfold maxLen at ws
  have SH := Lib.hid (ishort_any k nm n a ac b bc (W.alloc (.cells #[.int .i64 k, .string nm, .int .i64 n, .string a, .int .u8 ac.toNat, .string b, .int .u8 bc.toNat] 26)) hm ha hb)
  have B0 := Lib.hid ((Below.refl W.heap.size W).alloc (Nat.le_refl _) (.cells #[.int .i64 k, .string nm, .int .i64 n, .string a, .int .u8 ac.toNat, .string b, .int .u8 bc.toNat] 26))
  have H0 := Lib.hid (hE.below rfl B0.out)
  have AW := Lib.hid awake_any
  have P := Lib.hid (fun w hE => by have := iparse_any s w hE (by omega); rw [hp] at this; exact this)
  have h1 : decide (200 < (s.size : Int)) = false := dec_f (by omega)
  have hsl : s.data.toList.length ≤ 1000 := by simp; omega
  have RY := Lib.hid (fun w hE => right_y hp hsl w hE)
  have PY := Lib.hid (fun w hE => print_y hp hsl w hE)
  clear hsl
  obtain ⟨l1, l2, l3⟩ := short_of h
  rw [h] at SH
  have hle := print_le k nm n a ac b bc (by omega) hn (by omega) (by omega) (by omega)
  have PX := Lib.hid (fun w hE => iprint_any k nm n a ac b bc w (by omega) hn (by omega) (by omega) (by omega) hE)
  have hd : decide (n < 0) = false := dec_f hneg
  have PP := Lib.hid (fun w hE => by have := iparse_any (txt (It.print (ofV k nm n a ac b bc))) w hE (by rw [txt_size]; exact hle); rw [txt_toList, hq] at this; exact this)
  have RX := Lib.hid (fun w hE => right_x (right_some (by omega) hq hr) w hE hn l1 l2 l3)
  have QQ := Lib.hid (fun W => by have := bin_item W z k nm n a ac b bc; rw [hr] at this; exact this)
  clear h hl hp hneg hn hm ha hb hE l1 l2 l3 ws hq hle hr
  cases r
  all_goals
    go_enter Tryd.func5, Tryd.ntmps5
    go_wp2_with fail
    refine SH.out.mono ?_; rintro e w1 ⟨rfl, hb1⟩
    have H1 := Lib.hid (H0.out.below rfl hb1)
    have R1 := Lib.hid (fresh_row hb1)
    have B1 := Lib.hid (B0.out.trans (hb1.mono (by simp)))
    clear hb1 H0 B0 SH
    go_wp2_with fail
    refine (P.out _ H1.out).mono ?_; rintro e w2 ⟨y1, rfl, hy, hb⟩
    have hy2 : y = y1 := hy.symm
    clear hy
    subst hy2
    have H2 := Lib.hid (H1.out.below rfl hb)
    have R2 := Lib.hid (stay_row R1.out hb)
    have B2 := Lib.hid (B1.out.trans (hb.mono B1.out.size))
    clear hb H1 R1 B1
    rw [Option.isSome_some]
    go_wp2_with fail
    refine (RY.out _ (H2.out.below rfl ((Below.refl _ _).alloc (Nat.le_refl _) (.cells #[.int .i64 y.k, .string (txt y.name), .int .i64 y.n, .string (txt y.e0.n), .int .u8 y.e0.c.toNat, .string (txt y.e1.n), .int .u8 y.e1.c.toNat] 26)))).mono ?_; rintro e w3 ⟨rfl, hb⟩
    have H3 := Lib.hid ((H2.out.below rfl ((Below.refl _ _).alloc (Nat.le_refl _) (.cells #[.int .i64 y.k, .string (txt y.name), .int .i64 y.n, .string (txt y.e0.n), .int .u8 y.e0.c.toNat, .string (txt y.e1.n), .int .u8 y.e1.c.toNat] 26))).below rfl hb)
    have R3 := Lib.hid (keep_row R2.out hb)
    have B3 := Lib.hid (B2.out.trans ((((Below.refl w2.heap.size w2).alloc (Nat.le_refl _) (.cells #[.int .i64 y.k, .string (txt y.name), .int .i64 y.n, .string (txt y.e0.n), .int .u8 y.e0.c.toNat, .string (txt y.e1.n), .int .u8 y.e1.c.toNat] 26)).trans (hb.mono (by simp))).mono B2.out.size))
    have Y3 := Lib.hid (fresh_row hb)
    clear hb H2 R2 B2 
    obtain ⟨⟨y0, yy1, y2, y3, y4, y5, y6⟩, _, hyy⟩ := row7 Y3.out
    go_wp2_with fail
    refine (PY.out _ H3.out).mono ?_; rintro e w4 ⟨rfl, hb⟩
    have H4 := Lib.hid (H3.out.below rfl hb)
    have R4 := Lib.hid (stay_row R3.out hb)
    have B4 := Lib.hid (B3.out.trans (hb.mono B3.out.size))
    clear hb H3 R3 B3 y0 yy1 y2 y3 y4 y5 y6 hyy Y3
    obtain ⟨⟨x0, x1, x2, x3, x4, x5, x6⟩, _, hxx⟩ := row7 R4.out
    have nx := World.new_ne _ _ x0
    go_wp2_with fail
    refine (PX.out _ H4.out).mono ?_; rintro e w5 ⟨rfl, hb⟩
    have H5 := Lib.hid (H4.out.below rfl hb)
    have R5 := Lib.hid (stay_row R4.out hb)
    have B5 := Lib.hid (B4.out.trans (hb.mono B4.out.size))
    clear hb H4 R4 B4 x0 x1 x2 x3 x4 x5 x6 nx hxx
    go_wp2_with fail
    refine (PP.out _ H5.out).mono ?_; rintro e w6 ⟨z1, rfl, hz, hb⟩
    have hz2 : z = z1 := hz.symm
    clear hz
    subst hz2
    have H6 := Lib.hid (H5.out.below rfl hb)
    have R6 := Lib.hid (stay_row R5.out hb)
    have B6 := Lib.hid (B5.out.trans (hb.mono B5.out.size))
    clear hb H5 R5 B5
    rw [Option.isSome_some]
    go_wp2_with fail
    refine (AW.out _ (H6.out.below rfl ((Below.refl _ _).alloc (Nat.le_refl _) (.cells #[.int .i64 z.k, .string (txt z.name), .int .i64 z.n, .string (txt z.e0.n), .int .u8 z.e0.c.toNat, .string (txt z.e1.n), .int .u8 z.e1.c.toNat] 26)))).mono ?_; rintro e w7 ⟨rfl, hb⟩
    have H7 := Lib.hid ((H6.out.below rfl ((Below.refl _ _).alloc (Nat.le_refl _) (.cells #[.int .i64 z.k, .string (txt z.name), .int .i64 z.n, .string (txt z.e0.n), .int .u8 z.e0.c.toNat, .string (txt z.e1.n), .int .u8 z.e1.c.toNat] 26))).below rfl hb)
    have R7 := Lib.hid (keep_row R6.out hb)
    have B7 := Lib.hid (B6.out.trans ((((Below.refl w6.heap.size w6).alloc (Nat.le_refl _) (.cells #[.int .i64 z.k, .string (txt z.name), .int .i64 z.n, .string (txt z.e0.n), .int .u8 z.e0.c.toNat, .string (txt z.e1.n), .int .u8 z.e1.c.toNat] 26)).trans (hb.mono (by simp))).mono B6.out.size))
    have Z7 := Lib.hid (fresh_row hb)
    clear hb H6 R6 B6 
    obtain ⟨⟨x0, x1, x2, x3, x4, x5, x6⟩, _, hxx⟩ := row7 R7.out
    have nx := World.new_ne _ _ x0
    go_wp2_with fail
    refine (RX.out _ H7.out).mono ?_; rintro e w8 ⟨rfl, hb⟩
    have R8 := Lib.hid (stay_row R7.out hb)
    have Z8 := Lib.hid (stay_row Z7.out hb)
    have hBF := Lib.hid (B7.out.trans (hb.mono B7.out.size))
    clear hb R7 Z7 B7 x0 x1 x2 x3 x4 x5 x6 nx hxx
    obtain ⟨⟨x0, x1, x2, x3, x4, x5, x6⟩, _, hxx⟩ := row7 R8.out
    obtain ⟨⟨z0, zz1, z2, z3, z4, z5, z6⟩, _, hzz⟩ := row7 Z8.out
    have Q := QQ.out
    go_wp2_with fail
    go_ret
    exact ⟨rfl, hBF.out⟩
theorem itemBack_walk (k : Int) (nm : ByteArray) (n : Int) (a : ByteArray) (ac : UInt8) (b : ByteArray) (bc : UInt8) (s : ByteArray) (W : World) (hn : n ≤ 9223372036854775807) (hm : nm.size ≤ maxLen) (ha : a.size ≤ maxLen) (hb : b.size ≤ maxLen) (ws : s.size ≤ maxLen) (hE : Env W) :
    Calls Tryd.prog 5 #[.agg #[.int .i64 k, .string nm, .int .i64 n, .string a, .int .u8 ac.toNat, .string b, .int .u8 bc.toNat], .string s] W fun e w' => e = .returned (.bool true) ∧ Below W.heap.size W w' := by
  by_cases h : shortB nm a b = true
  · by_cases hl : 200 < s.size
    · exact ib_long k nm n a ac b bc s W hn hm ha hb ws hE (Or.inr ⟨h, hl⟩)
    · cases hp : It.parse s.data.toList with
      | none =>
        by_cases hneg : n < 0
        · exact ib_none_neg k nm n a ac b bc s W hn hm ha hb ws hE h hl hp hneg
        · cases hq : It.parse (It.print (ofV k nm n a ac b bc)) with
          | none => exact ib_none_none k nm n a ac b bc s W hn hm ha hb ws hE h hl hp hneg hq
          | some z => exact ib_none_some k nm n a ac b bc s W hn hm ha hb ws hE h hl hp hneg z hq _ rfl
      | some y =>
        by_cases hneg : n < 0
        · exact ib_some_neg k nm n a ac b bc s W hn hm ha hb ws hE y h hl hp hneg
        · cases hq : It.parse (It.print (ofV k nm n a ac b bc)) with
          | none => exact ib_some_none k nm n a ac b bc s W hn hm ha hb ws hE y h hl hp hneg hq
          | some z => exact ib_some_some k nm n a ac b bc s W hn hm ha hb ws hE y h hl hp hneg z hq _ rfl
  · exact ib_long k nm n a ac b bc s W hn hm ha hb ws hE (Or.inl (by simpa using h))
end Go.Proofs.YtmddabemnjlniaaDoor

