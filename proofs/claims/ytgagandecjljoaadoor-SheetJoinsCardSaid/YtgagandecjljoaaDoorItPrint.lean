/-
  The walks of layer 3's Print, and of the document's answer to it.
-/
import Derived.Test.YtgagandecjljoaaDoorItEnd
import Derived.Deep.RegionHeld3
namespace Go.Proofs.YtgagandecjljoaaDoor
open Go.RowKit

/-- What the library's calls read of the program's variables: a bound, and the table of powers. -/
def Env (w : World) : Prop := MaxOk w ∧ Lib.TabIs Tryd.prog w "internal/strconv.uint64pow10" .u64 Lib.pow10Tab
theorem Env.below {w w' : World} {B : Nat} (h : Env w) (hB : B = w.heap.size) (hb : Below B w w') : Env w' :=
  ⟨h.1.below hB hb, by subst hB; exact Lib.tabBelow_of_tabIs h.2 w' hb⟩

def ofV (k : Int) (nm : ByteArray) (n : Int) (a : ByteArray) (ac : UInt8) (b : ByteArray) (bc : UInt8) : It.Itm := ⟨k, nm.data.toList, n, ⟨a.data.toList, ac⟩, ⟨b.data.toList, bc⟩⟩
theorem print_num {k : Int} (h : It.isNum k = true) (nm : ByteArray) (n : Int) (a : ByteArray) (ac : UInt8) (b : ByteArray) (bc : UInt8) : It.print (ofV k nm n a ac b bc) = Ln.line (It.word k :: [Lib.decDigits n.toNat]) := by
  simp [It.print, It.args, ofV, h]
theorem dec_l20 {n : Int} (h0 : 0 ≤ n) (h1 : n ≤ 9223372036854775807) : (Lib.decDigits n.toNat).length ≤ 20 := by rw [Lib.decDigits_length]; exact Lib.nDigits_le20 _ (by omega)
theorem line2_le (k : Int) (x : List UInt8) (h : x.length ≤ 5000) : (Ln.line (It.word k :: [x])).length ≤ 10000000 := by
  have := word_le k
  simp [Ln.line, Lib.join]; omega
theorem line3_le (k : Int) (x y : List UInt8) (h : x.length ≤ 5000) (h2 : y.length ≤ 5000) : (Ln.line (It.word k :: [x, y])).length ≤ 10000000 := by
  have := word_le k
  simp [Ln.line, Lib.join]; omega
theorem retP {a b : List UInt8} (h : a = b) : Ending.returned (.string (txt a)) = .returned (.string (txt b)) := by rw [h]
/-- The line of one word that a call has made just now. -/
theorem iline1 (k : Int) (x : List UInt8) (w : World) (h : x.length ≤ 5000) :
    Calls Tryd.prog 34 #[.int .i64 k, .slice (some ⟨w.heap.size, 0, none⟩) 1 1] (w.alloc (.cells #[.string (txt x)] 9)) fun e w' => e = .returned (.string (txt (Ln.line (It.word k :: [x])))) ∧ Below w.heap.size w w' :=
  (iline_any k ⟨w.heap.size, 0, none⟩ 1 [x] (w.alloc (.cells #[.string (txt x)] 9)) (Strs.fresh w [x] 9) (by simp) (line2_le k x h)).mono fun _ _ ⟨h1, h2⟩ => ⟨h1, ((Below.refl _ _).alloc (Nat.le_refl _) _).trans (h2.mono (by simp))⟩
theorem iline2 (k : Int) (x y : List UInt8) (w : World) (h : x.length ≤ 5000) (h2 : y.length ≤ 5000) :
    Calls Tryd.prog 34 #[.int .i64 k, .slice (some ⟨w.heap.size, 0, none⟩) 2 2] (w.alloc (.cells #[.string (txt x), .string (txt y)] 9)) fun e w' => e = .returned (.string (txt (Ln.line (It.word k :: [x, y])))) ∧ Below w.heap.size w w' :=
  (iline_any k ⟨w.heap.size, 0, none⟩ 2 [x, y] (w.alloc (.cells #[.string (txt x), .string (txt y)] 9)) (Strs.fresh w [x, y] 9) (by simp) (line3_le k x y h h2)).mono fun _ _ ⟨h1, h2⟩ => ⟨h1, ((Below.refl _ _).alloc (Nat.le_refl _) _).trans (h2.mono (by simp))⟩
abbrev itemCells (k : Int) (nm : ByteArray) (n : Int) (a : ByteArray) (ac : UInt8) (b : ByteArray) (bc : UInt8) : Array Value := #[.int .i64 k, .string nm, .int .i64 n, .string a, .int .u8 ac.toNat, .string b, .int .u8 bc.toNat]
/-- figure.Print, said of a text's list. -/
theorem fprint (n : Int) (w : World) (h0 : 0 ≤ n) (h1 : n ≤ 9223372036854775807) (hE : Env w) :
    Calls Tryd.prog 35 #[.int .i64 n] w fun e w' => e = .returned (.string (txt (Lib.decDigits n.toNat))) ∧ Below w.heap.size w w' := print_any n w h0 h1 hE.2

/-- What a call leaves: its answer, what it made beside what there was, since the call and since the beginning. -/
def Made (w : World) (v : Value) (W : World) (e : Ending) (w' : World) : Prop := e = .returned v ∧ Below W.heap.size W w' ∧ Below w.heap.size w w' ∧ W.heap.size ≤ w'.heap.size
theorem Made.of {w W : World} {v : Value} {f : FuncId} {xs : Array Value} (h : Below w.heap.size w W) (hc : Calls Tryd.prog f xs W fun e w' => e = .returned v ∧ Below W.heap.size W w') :
    Calls Tryd.prog f xs W (Made w v W) := hc.mono fun _ _ ⟨h1, h2⟩ => ⟨h1, h2, h.trans (h2.mono h.size), h2.size⟩
theorem Made.line {w W : World} {o : Obj} {v : Value} {f : FuncId} {xs : Array Value} (h : Below w.heap.size w W) (hc : Calls Tryd.prog f xs (W.alloc o) fun e w' => e = .returned v ∧ Below W.heap.size W w') :
    Calls Tryd.prog f xs (W.alloc o) (Made w v W) := hc.mono fun _ _ ⟨h1, h2⟩ => ⟨h1, h2, h.trans (h2.mono h.size), h2.size⟩

theorem ib_t {k n : Int} (h : k = n) : (k == n) = true := by rw [beq_iff_eq]; exact h
theorem num_ways {k : Int} (h : It.isNum k = true) : (k == 1) = true ∨ ((k == 1) = false ∧ (k == 2) = true) ∨ ((k == 1) = false ∧ (k == 2) = false ∧ (k == 3) = true) ∨ ((k == 1) = false ∧ (k == 2) = false ∧ (k == 3) = false ∧ (k == 4) = true) := by
  have h' : k = 1 ∨ k = 2 ∨ k = 3 ∨ k = 4 := by simp [It.isNum] at h; omega
  rcases h' with rfl | rfl | rfl | rfl <;> decide
theorem print_len {k : Int} (h1 : It.isNum k = false) (h : It.isLen k = true) (nm : ByteArray) (n : Int) (a : ByteArray) (ac : UInt8) (b : ByteArray) (bc : UInt8) : It.print (ofV k nm n a ac b bc) = Ln.line (It.word k :: [nm.data.toList, Lib.decDigits n.toNat]) := by
  simp [It.print, It.args, ofV, h, h1]
theorem print_7 (nm : ByteArray) (n : Int) (a : ByteArray) (ac : UInt8) (b : ByteArray) (bc : UInt8) : It.print (ofV 7 nm n a ac b bc) = Ln.line (It.word 7 :: [It.tipT ⟨a.data.toList, ac⟩, It.tipT ⟨b.data.toList, bc⟩]) := rfl
theorem print_8 (nm : ByteArray) (n : Int) (a : ByteArray) (ac : UInt8) (b : ByteArray) (bc : UInt8) : It.print (ofV 8 nm n a ac b bc) = Ln.line (It.word 8 :: [It.tipT ⟨a.data.toList, ac⟩]) := rfl
theorem print_9 (nm : ByteArray) (n : Int) (a : ByteArray) (ac : UInt8) (b : ByteArray) (bc : UInt8) : It.print (ofV 9 nm n a ac b bc) = Ln.line (It.word 9 :: [nm.data.toList, It.tipT ⟨a.data.toList, ac⟩]) := rfl
theorem tipT_le (a : ByteArray) (ac : UInt8) (h : a.size ≤ 1000) : (It.tipT ⟨a.data.toList, ac⟩).length ≤ 5000 := by
  simp [It.tipT]; omega
theorem iline2n (k : Int) (nm : ByteArray) (y : List UInt8) (w : World) (h : nm.size ≤ 1000) (h2 : y.length ≤ 5000) :
    Calls Tryd.prog 34 #[.int .i64 k, .slice (some ⟨w.heap.size, 0, none⟩) 2 2] (w.alloc (.cells #[.string nm, .string (txt y)] 9)) fun e w' => e = .returned (.string (txt (Ln.line (It.word k :: [nm.data.toList, y])))) ∧ Below w.heap.size w w' := by
  have := iline2 k nm.data.toList y w (by simp; omega) h2
  rwa [txt_of] at this
theorem len_ways {k : Int} (h : It.isLen k = true) : (k == 1) = false ∧ (k == 2) = false ∧ (k == 3) = false ∧ (k == 4) = false ∧ ((k == 5) = true ∨ ((k == 5) = false ∧ (k == 6) = true)) := by
  have h' : k = 5 ∨ k = 6 := by simp [It.isLen] at h; omega
  rcases h' with rfl | rfl <;> decide
theorem len_num {k : Int} (h : It.isLen k = true) : It.isNum k = false := by
  simp [It.isLen] at h; simp [It.isNum]; omega
theorem num_ways2 {k : Int} (h : It.isNum k = true) : k = 1 ∨ k = 2 ∨ k = 3 ∨ k = 4 := by simp [It.isNum] at h; omega
theorem ofV_k (k : Int) (nm : ByteArray) (n : Int) (a : ByteArray) (ac : UInt8) (b : ByteArray) (bc : UInt8) (h : ¬ (1 ≤ k ∧ k ≤ 9)) : It.print (ofV k nm n a ac b bc) = [] := by
  have h1 : It.isNum k = false := by simp [It.isNum]; omega
  have h2 : It.isLen k = false := by simp [It.isLen]; omega
  have h3 : It.word k = [] := word_none (by omega) (by omega) (by omega) (by omega) (by omega) (by omega) (by omega) (by omega) (by omega)
  simp [It.print, It.args, ofV, h1, h2, h3, show ¬ k = 7 by omega, show ¬ k = 8 by omega, show ¬ k = 9 by omega, Ln.line, Lib.join]

set_option maxHeartbeats 4000000 in
set_option maxRecDepth 100000 in
theorem iprint_num (k : Int) (hk : It.isNum k = true) (nm : ByteArray) (n : Int) (a : ByteArray) (ac : UInt8) (b : ByteArray) (bc : UInt8) (w : World) (h0 : 0 ≤ n) (h1 : n ≤ 9223372036854775807) (hE : Env w) :
    Calls Tryd.prog 19 #[.agg #[.int .i64 k, .string nm, .int .i64 n, .string a, .int .u8 ac.toNat, .string b, .int .u8 bc.toNat]] w fun e w' => e = .returned (.string (txt (It.print (ofV k nm n a ac b bc)))) ∧ Below w.heap.size w w' := by
  have HP := Lib.hid (print_num hk nm n a ac b bc)
  have hb0 := Lib.hid ((Below.refl w.heap.size w).alloc (Nat.le_refl _) (.cells #[.int .i64 k, .string nm, .int .i64 n, .string a, .int .u8 ac.toNat, .string b, .int .u8 bc.toNat] 38))
  have HF := Lib.hid (fun W (h : Below w.heap.size w W) => Made.of h (fprint n W h0 h1 (hE.below rfl h)))
  have HL := Lib.hid (fun W (h : Below w.heap.size w W) => Made.line h (iline1 k (Lib.decDigits n.toNat) W (Nat.le_trans (dec_l20 h0 h1) (by decide))))
  have hk' := num_ways hk
  clear hk h0 h1 hE
  rcases hk' with e1 | ⟨e1, e2⟩ | ⟨e1, e2, e3⟩ | ⟨e1, e2, e3, e4⟩
  all_goals
    go_enter Tryd.func19, Tryd.ntmps19
    go_wp2_with fail
    go_region_held3 (fun w' => w'.cell? ⟨w.heap.size, 0, none⟩ = some (.int .i64 k) ∧ w'.cell? ⟨w.heap.size, 2, none⟩ = some (.int .i64 n))
      (refine ⟨?_, ?_⟩ <;> (go_keep; done))
      (first
        | (go_at_call 35; (with_reducible refine (HF.out _ hb0.out.drew).mono ?_); rintro e w' ⟨rfl, hb, hacc, hz⟩; have hcell := (bcell hb).1; have hz : w.heap.size < w'.heap.size := by ((try simp at hz); omega))
        | (go_at_call 34; (with_reducible refine (HL.out _ hacc).mono ?_); rintro e w' ⟨rfl, hb, hacc, hz⟩; have hcell := (bcell hb).1))
    all_goals go_wp2_with fail
    all_goals go_ret
    all_goals exact ⟨retP HP.out.symm, hacc⟩
set_option maxHeartbeats 4000000 in
set_option maxRecDepth 100000 in
theorem iprint_len (k : Int) (hk : It.isLen k = true) (nm : ByteArray) (n : Int) (a : ByteArray) (ac : UInt8) (b : ByteArray) (bc : UInt8) (w : World) (h0 : 0 ≤ n) (h1 : n ≤ 9223372036854775807) (hn : nm.size ≤ 1000) (hE : Env w) :
    Calls Tryd.prog 19 #[.agg #[.int .i64 k, .string nm, .int .i64 n, .string a, .int .u8 ac.toNat, .string b, .int .u8 bc.toNat]] w fun e w' => e = .returned (.string (txt (It.print (ofV k nm n a ac b bc)))) ∧ Below w.heap.size w w' := by
  have HP := Lib.hid (print_len (len_num hk) hk nm n a ac b bc)
  have hb0 := Lib.hid ((Below.refl w.heap.size w).alloc (Nat.le_refl _) (.cells #[.int .i64 k, .string nm, .int .i64 n, .string a, .int .u8 ac.toNat, .string b, .int .u8 bc.toNat] 38))
  have HF := Lib.hid (fun W (h : Below w.heap.size w W) => Made.of h (fprint n W h0 h1 (hE.below rfl h)))
  have HL := Lib.hid (fun W (h : Below w.heap.size w W) => Made.line h (iline2n k nm (Lib.decDigits n.toNat) W hn (Nat.le_trans (dec_l20 h0 h1) (by decide))))
  obtain ⟨e1, e2, e3, e4, hk'⟩ := len_ways hk
  clear hk h0 h1 hE hn
  rcases hk' with e5 | ⟨e5, e6⟩
  all_goals
    go_enter Tryd.func19, Tryd.ntmps19
    go_wp2_with fail
    go_region_held3 (fun w' => w'.cell? ⟨w.heap.size, 0, none⟩ = some (.int .i64 k) ∧ w'.cell? ⟨w.heap.size, 1, none⟩ = some (.string nm) ∧ w'.cell? ⟨w.heap.size, 2, none⟩ = some (.int .i64 n))
      (refine ⟨?_, ?_, ?_⟩ <;> (go_keep; done))
      (first
        | (go_at_call 35; (with_reducible refine (HF.out _ hb0.out.drew).mono ?_); rintro e w' ⟨rfl, hb, hacc, hz⟩; have hcell := (bcell hb).1; have hz : w.heap.size < w'.heap.size := by ((try simp at hz); omega))
        | (go_at_call 34; (with_reducible refine (HL.out _ hacc).mono ?_); rintro e w' ⟨rfl, hb, hacc, hz⟩; have hcell := (bcell hb).1))
    all_goals go_wp2_with fail
    all_goals go_ret
    all_goals exact ⟨retP HP.out.symm, hacc⟩
set_option maxHeartbeats 4000000 in
set_option maxRecDepth 100000 in
theorem iprint_7 (nm : ByteArray) (n : Int) (a : ByteArray) (ac : UInt8) (b : ByteArray) (bc : UInt8) (w : World) (ha : a.size ≤ 1000) (hb : b.size ≤ 1000) :
    Calls Tryd.prog 19 #[.agg #[.int .i64 7, .string nm, .int .i64 n, .string a, .int .u8 ac.toNat, .string b, .int .u8 bc.toNat]] w fun e w' => e = .returned (.string (txt (It.print (ofV 7 nm n a ac b bc)))) ∧ Below w.heap.size w w' := by
  have HP := Lib.hid (print_7 nm n a ac b bc)
  have hb0 := Lib.hid ((Below.refl w.heap.size w).alloc (Nat.le_refl _) (.cells #[.int .i64 7, .string nm, .int .i64 n, .string a, .int .u8 ac.toNat, .string b, .int .u8 bc.toNat] 38))
  have HA := Lib.hid (fun W (h : Below w.heap.size w W) => Made.of h (end_any a ac W (by omega)))
  have HB := Lib.hid (fun W (h : Below w.heap.size w W) => Made.of h (end_any b bc W (by omega)))
  have HL := Lib.hid (fun W (h : Below w.heap.size w W) => Made.line h (iline2 7 (It.tipT ⟨a.data.toList, ac⟩) (It.tipT ⟨b.data.toList, bc⟩) W (tipT_le a ac ha) (tipT_le b bc hb)))
  clear ha hb
  go_enter Tryd.func19, Tryd.ntmps19
  go_wp2_with fail
  go_region_held3 (fun w' => w'.cell? ⟨w.heap.size, 0, none⟩ = some (.int .i64 (7)) ∧ w'.cell? ⟨w.heap.size, 3, none⟩ = some (.string a) ∧ w'.cell? ⟨w.heap.size, 4, none⟩ = some (.int .u8 ac.toNat) ∧ w'.cell? ⟨w.heap.size, 5, none⟩ = some (.string b) ∧ w'.cell? ⟨w.heap.size, 6, none⟩ = some (.int .u8 bc.toNat))
    (refine ⟨?_, ?_, ?_, ?_, ?_⟩ <;> (go_keep; done))
    (first
      | (go_at_call 36; (with_reducible refine (HA.out _ hacc).mono ?_); rintro e w' ⟨rfl, hb, hacc, hz⟩; have hcell := (bcell hb).1; have hz : w.heap.size < w'.heap.size := by ((try simp at hz); omega))
      | (go_at_call 36; (with_reducible refine (HB.out _ hacc).mono ?_); rintro e w' ⟨rfl, hb, hacc, hz⟩; have hcell := (bcell hb).1; have hz : w.heap.size < w'.heap.size := by ((try simp at hz); omega))
      | (go_at_call 36; (with_reducible refine (HA.out _ hb0.out.drew).mono ?_); rintro e w' ⟨rfl, hb, hacc, hz⟩; have hcell := (bcell hb).1; have hz : w.heap.size < w'.heap.size := by ((try simp at hz); omega))
      | (go_at_call 36; (with_reducible refine (HB.out _ hb0.out.drew).mono ?_); rintro e w' ⟨rfl, hb, hacc, hz⟩; have hcell := (bcell hb).1; have hz : w.heap.size < w'.heap.size := by ((try simp at hz); omega))
      | (go_at_call 34; (with_reducible refine (HL.out _ hacc).mono ?_); rintro e w' ⟨rfl, hb, hacc, hz⟩; have hcell := (bcell hb).1))
  all_goals go_wp2_with fail
  all_goals go_ret
  all_goals exact ⟨retP HP.out.symm, hacc⟩
set_option maxHeartbeats 4000000 in
set_option maxRecDepth 100000 in
theorem iprint_8 (nm : ByteArray) (n : Int) (a : ByteArray) (ac : UInt8) (b : ByteArray) (bc : UInt8) (w : World) (ha : a.size ≤ 1000) :
    Calls Tryd.prog 19 #[.agg #[.int .i64 8, .string nm, .int .i64 n, .string a, .int .u8 ac.toNat, .string b, .int .u8 bc.toNat]] w fun e w' => e = .returned (.string (txt (It.print (ofV 8 nm n a ac b bc)))) ∧ Below w.heap.size w w' := by
  have HP := Lib.hid (print_8 nm n a ac b bc)
  have hb0 := Lib.hid ((Below.refl w.heap.size w).alloc (Nat.le_refl _) (.cells #[.int .i64 8, .string nm, .int .i64 n, .string a, .int .u8 ac.toNat, .string b, .int .u8 bc.toNat] 38))
  have HA := Lib.hid (fun W (h : Below w.heap.size w W) => Made.of h (end_any a ac W (by omega)))
  have HL := Lib.hid (fun W (h : Below w.heap.size w W) => Made.line h (iline1 8 (It.tipT ⟨a.data.toList, ac⟩) W (tipT_le a ac ha)))
  clear ha
  go_enter Tryd.func19, Tryd.ntmps19
  go_wp2_with fail
  go_region_held3 (fun w' => w'.cell? ⟨w.heap.size, 0, none⟩ = some (.int .i64 (8)) ∧ w'.cell? ⟨w.heap.size, 3, none⟩ = some (.string a) ∧ w'.cell? ⟨w.heap.size, 4, none⟩ = some (.int .u8 ac.toNat))
    (refine ⟨?_, ?_, ?_⟩ <;> (go_keep; done))
    (first
      | (go_at_call 36; (with_reducible refine (HA.out _ hb0.out.drew).mono ?_); rintro e w' ⟨rfl, hb, hacc, hz⟩; have hcell := (bcell hb).1; have hz : w.heap.size < w'.heap.size := by ((try simp at hz); omega))
      | (go_at_call 34; (with_reducible refine (HL.out _ hacc).mono ?_); rintro e w' ⟨rfl, hb, hacc, hz⟩; have hcell := (bcell hb).1))
  all_goals go_wp2_with fail
  all_goals go_ret
  all_goals exact ⟨retP HP.out.symm, hacc⟩
set_option maxHeartbeats 4000000 in
set_option maxRecDepth 100000 in
theorem iprint_9 (nm : ByteArray) (n : Int) (a : ByteArray) (ac : UInt8) (b : ByteArray) (bc : UInt8) (w : World) (hn : nm.size ≤ 1000) (ha : a.size ≤ 1000) :
    Calls Tryd.prog 19 #[.agg #[.int .i64 9, .string nm, .int .i64 n, .string a, .int .u8 ac.toNat, .string b, .int .u8 bc.toNat]] w fun e w' => e = .returned (.string (txt (It.print (ofV 9 nm n a ac b bc)))) ∧ Below w.heap.size w w' := by
  have HP := Lib.hid (print_9 nm n a ac b bc)
  have hb0 := Lib.hid ((Below.refl w.heap.size w).alloc (Nat.le_refl _) (.cells #[.int .i64 9, .string nm, .int .i64 n, .string a, .int .u8 ac.toNat, .string b, .int .u8 bc.toNat] 38))
  have HA := Lib.hid (fun W (h : Below w.heap.size w W) => Made.of h (end_any a ac W (by omega)))
  have HL := Lib.hid (fun W (h : Below w.heap.size w W) => Made.line h (iline2n 9 nm (It.tipT ⟨a.data.toList, ac⟩) W hn (tipT_le a ac ha)))
  clear hn ha
  go_enter Tryd.func19, Tryd.ntmps19
  go_wp2_with fail
  go_region_held3 (fun w' => w'.cell? ⟨w.heap.size, 0, none⟩ = some (.int .i64 (9)) ∧ w'.cell? ⟨w.heap.size, 1, none⟩ = some (.string nm) ∧ w'.cell? ⟨w.heap.size, 3, none⟩ = some (.string a) ∧ w'.cell? ⟨w.heap.size, 4, none⟩ = some (.int .u8 ac.toNat))
    (refine ⟨?_, ?_, ?_, ?_⟩ <;> (go_keep; done))
    (first
      | (go_at_call 36; (with_reducible refine (HA.out _ hb0.out.drew).mono ?_); rintro e w' ⟨rfl, hb, hacc, hz⟩; have hcell := (bcell hb).1; have hz : w.heap.size < w'.heap.size := by ((try simp at hz); omega))
      | (go_at_call 34; (with_reducible refine (HL.out _ hacc).mono ?_); rintro e w' ⟨rfl, hb, hacc, hz⟩; have hcell := (bcell hb).1))
  all_goals go_wp2_with fail
  all_goals go_ret
  all_goals exact ⟨retP HP.out.symm, hacc⟩
set_option maxHeartbeats 4000000 in
set_option maxRecDepth 100000 in
theorem iprint_no (k : Int) (hk : ¬ (1 ≤ k ∧ k ≤ 9)) (nm : ByteArray) (n : Int) (a : ByteArray) (ac : UInt8) (b : ByteArray) (bc : UInt8) (w : World) :
    Calls Tryd.prog 19 #[.agg #[.int .i64 k, .string nm, .int .i64 n, .string a, .int .u8 ac.toNat, .string b, .int .u8 bc.toNat]] w fun e w' => e = .returned (.string (txt (It.print (ofV k nm n a ac b bc)))) ∧ Below w.heap.size w w' := by
  have HP := Lib.hid (ofV_k k nm n a ac b bc hk)
  have hb0 := (Below.refl w.heap.size w).alloc (Nat.le_refl _) (.cells #[.int .i64 k, .string nm, .int .i64 n, .string a, .int .u8 ac.toNat, .string b, .int .u8 bc.toNat] 38)
  have h1 : (k == 1) = false := ib_f (by omega)
  have h2 : (k == 2) = false := ib_f (by omega)
  have h3 : (k == 3) = false := ib_f (by omega)
  have h4 : (k == 4) = false := ib_f (by omega)
  have h5 : (k == 5) = false := ib_f (by omega)
  have h6 : (k == 6) = false := ib_f (by omega)
  have h7 : (k == 7) = false := ib_f (by omega)
  have h8 : (k == 8) = false := ib_f (by omega)
  have h9 : (k == 9) = false := ib_f (by omega)
  have hb := Lib.hid hb0
  clear hk hb0
  go_enter Tryd.func19, Tryd.ntmps19
  go_wp2_with fail
  go_ret
  exact ⟨retP (a := []) HP.out.symm, hb.out⟩
theorem iprint_any (k : Int) (nm : ByteArray) (n : Int) (a : ByteArray) (ac : UInt8) (b : ByteArray) (bc : UInt8) (w : World) (h0 : 0 ≤ n) (h1 : n ≤ 9223372036854775807) (hn : nm.size ≤ 1000) (ha : a.size ≤ 1000) (hb : b.size ≤ 1000) (hE : Env w) :
    Calls Tryd.prog 19 #[.agg #[.int .i64 k, .string nm, .int .i64 n, .string a, .int .u8 ac.toNat, .string b, .int .u8 bc.toNat]] w fun e w' => e = .returned (.string (txt (It.print (ofV k nm n a ac b bc)))) ∧ Below w.heap.size w w' := by
  by_cases hk : 1 ≤ k ∧ k ≤ 9
  · have hk' : It.isNum k = true ∨ It.isLen k = true ∨ k = 7 ∨ k = 8 ∨ k = 9 := by
      simp [It.isNum, It.isLen]; omega
    rcases hk' with h | h | rfl | rfl | rfl
    · exact iprint_num k h nm n a ac b bc w h0 h1 hE
    · exact iprint_len k h nm n a ac b bc w h0 h1 hn hE
    · exact iprint_7 nm n a ac b bc w ha hb
    · exact iprint_8 nm n a ac b bc w ha
    · exact iprint_9 nm n a ac b bc w hn ha
  · exact iprint_no k hk nm n a ac b bc w
end Go.Proofs.YtgagandecjljoaaDoor

