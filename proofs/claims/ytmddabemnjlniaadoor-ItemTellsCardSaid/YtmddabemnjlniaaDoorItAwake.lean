/-
  The walk of layer 3's awake: the document's examples come out as they should.
-/
import Derived.Test.YtmddabemnjlniaaDoorItRight
namespace Go.Proofs.YtmddabemnjlniaaDoor
open Go.RowKit

theorem keep_row {w w' : World} {o : Obj} {b : Nat} {r : Obj} (h : w.heap[b]? = some r) (hb : Below (w.alloc o).heap.size (w.alloc o) w') : w'.heap[b]? = some r := by
  have hl : b < w.heap.size := (Array.getElem?_eq_some_iff.1 h).1
  rw [hb.block b (by simp; omega), row_alloc hl, h]
theorem fresh_row {w w' : World} {o : Obj} (hb : Below (w.alloc o).heap.size (w.alloc o) w') : w'.heap[w.heap.size]? = some o := by
  rw [hb.block _ (by simp)]; exact heap_alloc_new _ _
theorem stay_row {w w' : World} {b : Nat} {r : Obj} (h : w.heap[b]? = some r) (hb : Below w.heap.size w w') : w'.heap[b]? = some r := by
  rw [hb.block b (Array.getElem?_eq_some_iff.1 h).1, h]
theorem row2 {w : World} {g : Nat} {a b : Value} {t : TypeId} (h : w.heap[g]? = some (.cells #[a, b] t (0, 0))) : (w.cell? ⟨g, 0, none⟩ = some a ∧ w.cell? ⟨g, 1, none⟩ = some b) ∧ g < w.heap.size :=
  ⟨⟨cell_of_row w g 0 _ t _ h, cell_of_row w g 1 _ t _ h⟩, (Array.getElem?_eq_some_iff.1 h).1⟩
theorem parse_c {s : ByteArray} (y : It.Itm) (hs : s.size ≤ 1000000) (h : It.parse s.data.toList = some y) (w : World) (hE : Env w) :
    Calls Tryd.prog 19 #[.string s] w fun e w' => e = .returned (.tuple #[.agg #[.int .i64 y.k, .string (txt y.name), .int .i64 y.n, .string (txt y.e0.n), .int .u8 y.e0.c.toNat, .string (txt y.e1.n), .int .u8 y.e1.c.toNat], .bool true]) ∧ Below w.heap.size w w' :=
  (iparse_any s w hE hs).mono fun e w' ⟨z, he, hz, hb⟩ => by
    rw [h] at hz he
    obtain rfl : z = y := hz
    exact ⟨he, hb⟩
theorem parse_cn {s : ByteArray} (hs : s.size ≤ 1000000) (h : It.parse s.data.toList = none) (w : World) (hE : Env w) :
    Calls Tryd.prog 19 #[.string s] w fun e w' => e = .returned (.tuple #[.agg #[.int .i64 0, .string ⟨#[]⟩, .int .i64 0, .string ⟨#[]⟩, .int .u8 0, .string ⟨#[]⟩, .int .u8 0], .bool false]) ∧ Below w.heap.size w w' :=
  (iparse_any s w hE hs).mono fun e w' ⟨z, he, hz, hb⟩ => by
    rw [h] at hz he
    obtain rfl : z = It.Itm.zero := hz
    exact ⟨he, hb⟩
theorem aw1 (w : World) (hE : Env w) :
    Calls Tryd.prog 19 #[.string ⟨#[112, 111, 105, 110, 116, 32, 80, 49, 32, 56, 48, 48, 48]⟩] w fun e w' => e = .returned (.tuple #[.agg #[.int .i64 6, .string ⟨#[80, 49]⟩, .int .i64 8000, .string ⟨#[]⟩, .int .u8 0, .string ⟨#[]⟩, .int .u8 0], .bool true]) ∧ Below w.heap.size w w' :=
  parse_c ⟨6, [80, 49], 8000, ⟨[], 0⟩, ⟨[], 0⟩⟩ (by decide) (by decide +kernel) w hE
theorem aw2 (w : World) (hE : Env w) :
    Calls Tryd.prog 19 #[.string ⟨#[106, 111, 105, 110, 32, 87, 46, 98, 32, 80, 49, 46, 116]⟩] w fun e w' => e = .returned (.tuple #[.agg #[.int .i64 7, .string ⟨#[]⟩, .int .i64 0, .string ⟨#[87]⟩, .int .u8 98, .string ⟨#[80, 49]⟩, .int .u8 116], .bool true]) ∧ Below w.heap.size w w' :=
  parse_c ⟨7, [], 0, ⟨[87], 98⟩, ⟨[80, 49], 116⟩⟩ (by decide) (by decide +kernel) w hE
theorem aw3 (w : World) (hE : Env w) :
    Calls Tryd.prog 19 #[.string ⟨#[115, 101, 99, 116, 105, 111, 110, 32, 87, 32, 48]⟩] w fun e w' => e = .returned (.tuple #[.agg #[.int .i64 0, .string ⟨#[]⟩, .int .i64 0, .string ⟨#[]⟩, .int .u8 0, .string ⟨#[]⟩, .int .u8 0], .bool false]) ∧ Below w.heap.size w w' :=
  parse_cn (by decide) (by decide +kernel) w hE
theorem aw4 (w : World) (hE : Env w) :
    Calls Tryd.prog 19 #[.string ⟨#[106, 111, 105, 110, 32, 87, 46, 98]⟩] w fun e w' => e = .returned (.tuple #[.agg #[.int .i64 0, .string ⟨#[]⟩, .int .i64 0, .string ⟨#[]⟩, .int .u8 0, .string ⟨#[]⟩, .int .u8 0], .bool false]) ∧ Below w.heap.size w w' :=
  parse_cn (by decide) (by decide +kernel) w hE
theorem aw5 (w : World) (hE : Env w) :
    Calls Tryd.prog 19 #[.string ⟨#[115, 105, 103, 110, 97, 108, 32, 65, 32, 87, 46, 120]⟩] w fun e w' => e = .returned (.tuple #[.agg #[.int .i64 0, .string ⟨#[]⟩, .int .i64 0, .string ⟨#[]⟩, .int .u8 0, .string ⟨#[]⟩, .int .u8 0], .bool false]) ∧ Below w.heap.size w w' :=
  parse_cn (by decide) (by decide +kernel) w hE
theorem aw6 (w : World) (hE : Env w) :
    Calls Tryd.prog 19 #[.string ⟨#[115, 101, 116, 116, 108, 101, 32, 53]⟩] w fun e w' => e = .returned (.tuple #[.agg #[.int .i64 3, .string ⟨#[]⟩, .int .i64 5, .string ⟨#[]⟩, .int .u8 0, .string ⟨#[]⟩, .int .u8 0], .bool true]) ∧ Below w.heap.size w w' :=
  parse_c ⟨3, [], 5, ⟨[], 0⟩, ⟨[], 0⟩⟩ (by decide) (by decide +kernel) w hE
theorem aw7 (w : World) : Calls Tryd.prog 9 #[.string ⟨#[80, 49, 46, 110]⟩] w fun e w' => e = .returned (.tuple #[.agg #[.string ⟨#[80, 49]⟩, .int .u8 110], .bool true]) ∧ Below w.heap.size w w' := by
  have := tip_any ⟨#[80, 49, 46, 110]⟩ w (by decide)
  exact this
theorem aw8 (w : World) (hE : Env w) : Calls Tryd.prog 15 #[.agg #[.int .i64 7, .string ⟨#[]⟩, .int .i64 0, .string ⟨#[87]⟩, .int .u8 98, .string ⟨#[80, 49]⟩, .int .u8 116]] w fun e w' => e = .returned (.string ⟨#[106, 111, 105, 110, 32, 87, 46, 98, 32, 80, 49, 46, 116]⟩) ∧ Below w.heap.size w w' :=
  iprint_any 7 ⟨#[]⟩ 0 ⟨#[87]⟩ 98 ⟨#[80, 49]⟩ 116 w (by decide) (by decide) (by decide) (by decide) (by decide) hE
theorem aw9 (w : World) : Calls Tryd.prog 11 #[.int .i64 4] w fun e w' => e = .returned (.string ⟨#[104, 111, 108, 100]⟩) ∧ w = w' := word_any 4 w
theorem aw10 (w : World) : Calls Tryd.prog 11 #[.int .i64 0] w fun e w' => e = .returned (.string ⟨#[]⟩) ∧ w = w' := word_any 0 w
theorem aw11 (w : World) : Calls Tryd.prog 13 #[.string ⟨#[115, 105, 103, 110, 97, 108]⟩] w fun e w' => e = .returned (.int .i64 9) ∧ w = w' := kind_any ⟨#[115, 105, 103, 110, 97, 108]⟩ w (by decide)
theorem aw12 (w : World) : Calls Tryd.prog 13 #[.string ⟨#[]⟩] w fun e w' => e = .returned (.int .i64 0) ∧ w = w' := kind_any ⟨#[]⟩ w (by decide)
theorem aw13 (w : World) (hE : Env w) : Calls Tryd.prog 17 #[.agg #[.int .i64 6, .string ⟨#[80, 49]⟩, .int .i64 8000, .string ⟨#[]⟩, .int .u8 0, .string ⟨#[]⟩, .int .u8 0]] w fun e w' => e = .returned (.bool true) ∧ Below w.heap.size w w' := by
  have := iright_any 6 ⟨#[80, 49]⟩ 8000 ⟨#[]⟩ 0 ⟨#[]⟩ 0 w hE (by decide) (by decide) (by decide) (by decide)
  rwa [show It.right (ofV 6 ⟨#[80, 49]⟩ 8000 ⟨#[]⟩ 0 ⟨#[]⟩ 0) = true by decide +kernel] at this
theorem aw14 (w : World) (hE : Env w) : Calls Tryd.prog 17 #[.agg #[.int .i64 0, .string ⟨#[]⟩, .int .i64 0, .string ⟨#[]⟩, .int .u8 0, .string ⟨#[]⟩, .int .u8 0]] w fun e w' => e = .returned (.bool false) ∧ Below w.heap.size w w' := by
  have := iright_any 0 ⟨#[]⟩ 0 ⟨#[]⟩ 0 ⟨#[]⟩ 0 w hE (by decide) (by decide) (by decide) (by decide)
  rwa [show It.right (ofV 0 ⟨#[]⟩ 0 ⟨#[]⟩ 0 ⟨#[]⟩ 0) = false by decide +kernel] at this
theorem aw_eq (W : World) : Sem.run Tryd.prog (binOp .eql 26 (.agg #[.int .i64 6, .string ⟨#[80, 49]⟩, .int .i64 8000, .string ⟨#[]⟩, .int .u8 0, .string ⟨#[]⟩, .int .u8 0]) (.agg #[.int .i64 6, .string ⟨#[80, 49]⟩, .int .i64 8000, .string ⟨#[]⟩, .int .u8 0, .string ⟨#[]⟩, .int .u8 0])) W = .ok (.bool true) W := by
  have := bin_item W ⟨6, [80, 49], 8000, ⟨[], 0⟩, ⟨[], 0⟩⟩ 6 ⟨#[80, 49]⟩ 8000 ⟨#[]⟩ 0 ⟨#[]⟩ 0
  rwa [show decide ((⟨6, [80, 49], 8000, ⟨[], 0⟩, ⟨[], 0⟩⟩ : It.Itm) = ofV 6 ⟨#[80, 49]⟩ 8000 ⟨#[]⟩ 0 ⟨#[]⟩ 0) = true by decide +kernel] at this
set_option maxHeartbeats 8000000 in
set_option maxRecDepth 100000 in
theorem awake_any (w : World) (hE : Env w) :
    Calls Tryd.prog 8 #[] w fun e w' => e = .returned (.bool true) ∧ Below w.heap.size w w' := by
  have C1 := Lib.hid aw1
  have C2 := Lib.hid aw2
  have C3 := Lib.hid aw3
  have C4 := Lib.hid aw4
  have C5 := Lib.hid aw5
  have C6 := Lib.hid aw6
  have C7 := Lib.hid aw7
  have C8 := Lib.hid aw8
  have C9 := Lib.hid aw9
  have C10 := Lib.hid aw10
  have C11 := Lib.hid aw11
  have C12 := Lib.hid aw12
  have C13 := Lib.hid aw13
  have C14 := Lib.hid aw14
  have H0 := Lib.hid hE
  clear hE
  go_enter Tryd.func8, Tryd.ntmps8
  go_wp2_with fail
  refine (C1.out _ H0.out).mono ?_; rintro e w1 ⟨rfl, hb⟩
  have H := Lib.hid (H0.out.below rfl hb)
  have hB1 := Lib.hid hb
  clear hb
  go_wp2_with fail
  refine (C2.out _ (H.out.below rfl ((Below.refl _ _).alloc (Nat.le_refl _) _))).mono ?_; rintro e w2 ⟨rfl, hb⟩
  have H2 := Lib.hid ((H.out.below rfl ((Below.refl _ _).alloc (Nat.le_refl _) (.cells #[.int .i64 6, .string ⟨#[80, 49]⟩, .int .i64 8000, .string ⟨#[]⟩, .int .u8 0, .string ⟨#[]⟩, .int .u8 0] 26))).below rfl hb)
  clear H
  have H := Lib.hid H2.out
  clear H2
  have hB2 := Lib.hid (hB1.out.trans (((Below.refl w1.heap.size w1).alloc (Nat.le_refl _) (.cells #[.int .i64 6, .string ⟨#[80, 49]⟩, .int .i64 8000, .string ⟨#[]⟩, .int .u8 0, .string ⟨#[]⟩, .int .u8 0] 26)).mono hB1.out.size |>.trans (hb.mono (Nat.le_trans hB1.out.size (by simp)))))
  have R12 := Lib.hid (fresh_row hb)
  clear hb hB1
  go_wp2_with fail
  refine (C3.out _ (H.out.below rfl ((Below.refl _ _).alloc (Nat.le_refl _) _))).mono ?_; rintro e w3 ⟨rfl, hb⟩
  have H3 := Lib.hid ((H.out.below rfl ((Below.refl _ _).alloc (Nat.le_refl _) (.cells #[.int .i64 7, .string ⟨#[]⟩, .int .i64 0, .string ⟨#[87]⟩, .int .u8 98, .string ⟨#[80, 49]⟩, .int .u8 116] 26))).below rfl hb)
  clear H
  have H := Lib.hid H3.out
  clear H3
  have hB3 := Lib.hid (hB2.out.trans (((Below.refl w2.heap.size w2).alloc (Nat.le_refl _) (.cells #[.int .i64 7, .string ⟨#[]⟩, .int .i64 0, .string ⟨#[87]⟩, .int .u8 98, .string ⟨#[80, 49]⟩, .int .u8 116] 26)).mono hB2.out.size |>.trans (hb.mono (Nat.le_trans hB2.out.size (by simp)))))
  have R13 := Lib.hid (keep_row R12.out hb)
  have R23 := Lib.hid (fresh_row hb)
  clear hb R12 hB2
  go_wp2_with fail
  refine (C4.out _ (H.out.below rfl ((Below.refl _ _).alloc (Nat.le_refl _) _))).mono ?_; rintro e w4 ⟨rfl, hb⟩
  have H4 := Lib.hid ((H.out.below rfl ((Below.refl _ _).alloc (Nat.le_refl _) (.cells #[.int .i64 0, .string ⟨#[]⟩, .int .i64 0, .string ⟨#[]⟩, .int .u8 0, .string ⟨#[]⟩, .int .u8 0] 26))).below rfl hb)
  clear H
  have H := Lib.hid H4.out
  clear H4
  have hB4 := Lib.hid (hB3.out.trans (((Below.refl w3.heap.size w3).alloc (Nat.le_refl _) (.cells #[.int .i64 0, .string ⟨#[]⟩, .int .i64 0, .string ⟨#[]⟩, .int .u8 0, .string ⟨#[]⟩, .int .u8 0] 26)).mono hB3.out.size |>.trans (hb.mono (Nat.le_trans hB3.out.size (by simp)))))
  have R14 := Lib.hid (keep_row R13.out hb)
  have R24 := Lib.hid (keep_row R23.out hb)
  clear hb R13 R23 hB3
  go_wp2_with fail
  refine (C5.out _ (H.out.below rfl ((Below.refl _ _).alloc (Nat.le_refl _) _))).mono ?_; rintro e w5 ⟨rfl, hb⟩
  have H5 := Lib.hid ((H.out.below rfl ((Below.refl _ _).alloc (Nat.le_refl _) (.cells #[.int .i64 0, .string ⟨#[]⟩, .int .i64 0, .string ⟨#[]⟩, .int .u8 0, .string ⟨#[]⟩, .int .u8 0] 26))).below rfl hb)
  clear H
  have H := Lib.hid H5.out
  clear H5
  have hB5 := Lib.hid (hB4.out.trans (((Below.refl w4.heap.size w4).alloc (Nat.le_refl _) (.cells #[.int .i64 0, .string ⟨#[]⟩, .int .i64 0, .string ⟨#[]⟩, .int .u8 0, .string ⟨#[]⟩, .int .u8 0] 26)).mono hB4.out.size |>.trans (hb.mono (Nat.le_trans hB4.out.size (by simp)))))
  have R15 := Lib.hid (keep_row R14.out hb)
  have R25 := Lib.hid (keep_row R24.out hb)
  clear hb R14 R24 hB4
  go_wp2_with fail
  refine (C6.out _ (H.out.below rfl ((Below.refl _ _).alloc (Nat.le_refl _) _))).mono ?_; rintro e w6 ⟨rfl, hb⟩
  have H6 := Lib.hid ((H.out.below rfl ((Below.refl _ _).alloc (Nat.le_refl _) (.cells #[.int .i64 0, .string ⟨#[]⟩, .int .i64 0, .string ⟨#[]⟩, .int .u8 0, .string ⟨#[]⟩, .int .u8 0] 26))).below rfl hb)
  clear H
  have H := Lib.hid H6.out
  clear H6
  have hB6 := Lib.hid (hB5.out.trans (((Below.refl w5.heap.size w5).alloc (Nat.le_refl _) (.cells #[.int .i64 0, .string ⟨#[]⟩, .int .i64 0, .string ⟨#[]⟩, .int .u8 0, .string ⟨#[]⟩, .int .u8 0] 26)).mono hB5.out.size |>.trans (hb.mono (Nat.le_trans hB5.out.size (by simp)))))
  have R16 := Lib.hid (keep_row R15.out hb)
  have R26 := Lib.hid (keep_row R25.out hb)
  clear hb R15 R25 hB5
  go_wp2_with fail
  refine (C7.out _).mono ?_; rintro e w7 ⟨rfl, hb⟩
  have H7 := Lib.hid ((H.out.below rfl ((Below.refl _ _).alloc (Nat.le_refl _) (.cells #[.int .i64 3, .string ⟨#[]⟩, .int .i64 5, .string ⟨#[]⟩, .int .u8 0, .string ⟨#[]⟩, .int .u8 0] 26))).below rfl hb)
  clear H
  have H := Lib.hid H7.out
  clear H7
  have hB7 := Lib.hid (hB6.out.trans (((Below.refl w6.heap.size w6).alloc (Nat.le_refl _) (.cells #[.int .i64 3, .string ⟨#[]⟩, .int .i64 5, .string ⟨#[]⟩, .int .u8 0, .string ⟨#[]⟩, .int .u8 0] 26)).mono hB6.out.size |>.trans (hb.mono (Nat.le_trans hB6.out.size (by simp)))))
  have R17 := Lib.hid (keep_row R16.out hb)
  have R27 := Lib.hid (keep_row R26.out hb)
  have R67 := Lib.hid (fresh_row hb)
  clear hb R16 R26 hB6
  obtain ⟨⟨p0, p1, p2, p3, p4, p5, p6⟩, _, hp⟩ := row7 R17.out
  obtain ⟨⟨q0, q1, q2, q3, q4, q5, q6⟩, _, hq⟩ := row7 R27.out
  obtain ⟨⟨r0, r1, r2, r3, r4, r5, r6⟩, _, hr⟩ := row7 R67.out
  have n1 := World.new_ne _ _ p0
  have n2 := World.new_ne _ _ q0
  have n3 := World.new_ne _ _ r0
  have Q := aw_eq
  go_wp2_with fail
  refine (C8.out _ (H.out.below rfl ((Below.refl _ _).alloc (Nat.le_refl _) _))).mono ?_; rintro e w8 ⟨rfl, hb⟩
  have H8 := Lib.hid ((H.out.below rfl ((Below.refl _ _).alloc (Nat.le_refl _) (.cells #[.string ⟨#[80, 49]⟩, .int .u8 110] 23))).below rfl hb)
  have R18 := Lib.hid (keep_row R17.out hb)
  have hB8 := Lib.hid (hB7.out.trans (((Below.refl w7.heap.size w7).alloc (Nat.le_refl _) (.cells #[.string ⟨#[80, 49]⟩, .int .u8 110] 23)).mono hB7.out.size |>.trans (hb.mono (Nat.le_trans hB7.out.size (by simp)))))
  clear hb p0 p1 p2 p3 p4 p5 p6 q0 q1 q2 q3 q4 q5 q6 r0 r1 r2 r3 r4 r5 r6 n1 n2 n3 hp hq hr R17 R27 R67 H hB7 Q
  go_wp2_with fail
  refine (C9.out _).mono ?_; rintro e w' ⟨rfl, rfl⟩
  go_wp2_with fail
  refine (C10.out _).mono ?_; rintro e w' ⟨rfl, rfl⟩
  go_wp2_with fail
  refine (C11.out _).mono ?_; rintro e w' ⟨rfl, rfl⟩
  go_wp2_with fail
  refine (C12.out _).mono ?_; rintro e w' ⟨rfl, rfl⟩
  obtain ⟨⟨p0, p1, p2, p3, p4, p5, p6⟩, _, hp⟩ := row7 R18.out
  go_wp2_with fail
  refine (C13.out _ H8.out).mono ?_; rintro e w9 ⟨rfl, hb⟩
  have H9 := Lib.hid (H8.out.below rfl hb)
  have hB9 := Lib.hid (hB8.out.trans (hb.mono hB8.out.size))
  clear hb p0 p1 p2 p3 p4 p5 p6 hp
  go_wp2_with fail
  refine (C14.out _ H9.out).mono ?_; rintro e w10 ⟨rfl, hb⟩
  have hB10 := Lib.hid (hB9.out.trans (hb.mono hB9.out.size))
  clear hb
  go_wp2_with fail
  go_ret
  exact ⟨rfl, hB10.out⟩
end Go.Proofs.YtmddabemnjlniaaDoor

