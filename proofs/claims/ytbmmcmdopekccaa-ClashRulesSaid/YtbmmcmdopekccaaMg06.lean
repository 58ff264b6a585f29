/-
  Texts of this claim, merged: ItRPrint, ItTips, ItRead, ItParse.
-/
import Derived.Test.YtbmmcmdopekccaaMg05
import Derived.Deep.AppendLies
/-
  The walks of the document's answer to layer 3's Print.
-/
namespace Go.Proofs.Ytbmmcmdopekccaa
open Go.RowKit

theorem ownsRow_below {w w' : World} {base : Nat} {e : TypeId} {size : Nat} {v : Value} {n : Nat} {xs : List Value} (h : w.ownsRow base e size v n xs) (hb : Below w.heap.size w w') : w'.ownsRow base e size v n xs := by
  refine ⟨h.1, ?_⟩
  rcases h.2 with hn | ⟨g, cap, cur, rfl, hbb, hgg, rest⟩
  · exact .inl hn
  · exact .inr ⟨g, cap, cur, rfl, hbb, by rw [hb.block g (Array.getElem?_eq_some_iff.1 hgg).1]; exact hgg, rest⟩
theorem rprint_all (n : Int) (w : World) (h0 : 0 ≤ n) (h1 : n ≤ 9223372036854775807) :
    Calls Try.prog 75 #[.int .i64 n] w fun e w' => e = .returned (.string (txt (Lib.decDigits n.toNat))) ∧ Below w.heap.size w w' := rprint_any n.toNat n w h0 (by omega) h1
/-- The line of the words that an owned row holds, whatever it was made of. -/
theorem rline_own (x : List UInt8) (T : List (List UInt8)) (w : World) (base : Nat) (v : Value) (n : Nat) (xs : List Value) (h : w.ownsRow base 9 1 v n xs) (hx : xs = (x :: T).map str) (hT : T.length ≤ 2) (hl : (Ln.line (x :: T)).length ≤ 10000000) :
    Calls Try.prog 77 #[v] w fun e w' => e = .returned (.string (txt (Ln.line (x :: T)))) ∧ w = w' := by
  subst hx
  obtain ⟨hn2, A4, c4, rfl, hcap2, hs2⟩ := Strs.of_own h
  have := rline_any A4 c4 (x :: T) w hs2 (by simp; omega) hl
  rwa [← hn2] at this
set_option maxHeartbeats 4000000 in
set_option maxRecDepth 100000 in
theorem riprint_num (k : Int) (hk : It.isNum k = true) (nm : ByteArray) (n : Int) (a : ByteArray) (ac : UInt8) (b : ByteArray) (bc : UInt8) (w : World) (h0 : 0 ≤ n) (h1 : n ≤ 9223372036854775807) :
    Calls Try.prog 56 #[.agg #[.int .i64 k, .string nm, .int .i64 n, .string a, .int .u8 ac.toNat, .string b, .int .u8 bc.toNat]] w fun e w' => e = .returned (.string (txt (It.print (ofV k nm n a ac b bc)))) ∧ Below w.heap.size w w' := by
  have HP := Lib.hid (print_num hk nm n a ac b bc)
  have hV := Lib.hid (((Below.refl w.heap.size w).alloc (Nat.le_refl _) (.cells #[.int .i64 k, .string nm, .int .i64 n, .string a, .int .u8 ac.toNat, .string b, .int .u8 bc.toNat] 84)).alloc (by simp) (.cells #[.string (txt (It.word k))] 9))
  have hV2 := Lib.hid (show w.heap.size ≤ ((w.alloc (.cells #[.int .i64 k, .string nm, .int .i64 n, .string a, .int .u8 ac.toNat, .string b, .int .u8 bc.toNat] 84)).alloc (.cells #[.string (txt (It.word k))] 9)).heap.size by simp; omega)
  have HO := Lib.hid (fun W (h : Below ((w.alloc (.cells #[.int .i64 k, .string nm, .int .i64 n, .string a, .int .u8 ac.toNat, .string b, .int .u8 bc.toNat] 84)).alloc (.cells #[.string (txt (It.word k))] 9)).heap.size ((w.alloc (.cells #[.int .i64 k, .string nm, .int .i64 n, .string a, .int .u8 ac.toNat, .string b, .int .u8 bc.toNat] 84)).alloc (.cells #[.string (txt (It.word k))] 9)) W) => show W.ownsRow w.heap.size 9 1 (.slice (some ⟨w.heap.size + 1, 0, none⟩) 1 1) 1 [.string (txt (It.word k))] from by
    have := ownsRow_below (World.ownsRow_lit (base := w.heap.size) (e := 9) (size := 1) (w.alloc (.cells #[.int .i64 k, .string nm, .int .i64 n, .string a, .int .u8 ac.toNat, .string b, .int .u8 bc.toNat] 84)) #[.string (txt (It.word k))] 1 (by simp) (by unfold maxLen; omega) rfl) h
    rwa [show (w.alloc (.cells #[.int .i64 k, .string nm, .int .i64 n, .string a, .int .u8 ac.toNat, .string b, .int .u8 bc.toNat] 84)).heap.size = w.heap.size + 1 by simp] at this)
  have C := Lib.hid (fun w => rword_any k w)
  obtain ⟨i0, hi, hz0, hz1, hz2⟩ := info_parts infoStr
  have HF := Lib.hid (fun W (h : Below ((w.alloc (.cells #[.int .i64 k, .string nm, .int .i64 n, .string a, .int .u8 ac.toNat, .string b, .int .u8 bc.toNat] 84)).alloc (.cells #[.string (txt (It.word k))] 9)).heap.size ((w.alloc (.cells #[.int .i64 k, .string nm, .int .i64 n, .string a, .int .u8 ac.toNat, .string b, .int .u8 bc.toNat] 84)).alloc (.cells #[.string (txt (It.word k))] 9)) W) => Made.of h (rprint_all n W h0 h1))
  have HL := Lib.hid (fun W v m0 xs (h : World.ownsRow W w.heap.size 9 1 v m0 xs) (hx : xs = ([It.word k, Lib.decDigits n.toNat] : List (List UInt8)).map str) => rline_own (It.word k) [Lib.decDigits n.toNat] W w.heap.size v m0 xs h hx (by simp) (line2_le k _ (Nat.le_trans (dec_l20 h0 h1) (by decide))))
  have hk' := num_ways hk
  clear hk h0 h1
  rcases hk' with e1 | ⟨e1, e2⟩ | ⟨e1, e2, e3⟩ | ⟨e1, e2, e3, e4⟩
  all_goals
    go_enter Try.func56, Try.ntmps56
    go_wp2_with fail
    refine (C.out _).mono ?_; rintro e w0 ⟨rfl, rfl⟩
    go_wp2_with fail
    refine (HF.out _ (Below.refl _ _)).mono ?_; rintro e w2 ⟨rfl, hb, hacc, hz⟩; have hcell := (bcell hb).1; have hz : w.heap.size + 1 < w2.heap.size := by ((try simp at hz); omega)
    go_wp2_with (at_builtin; go_loud (refine wpList_append_own _ rfl (.tmp 15) (.tmp 19) 77 rfl w.heap.size 9 i0 (.string ByteArray.empty) 1 16 Try.underlying77 hi hz0 hz1 hz2 rfl (by decide) _ _ _ rfl ((HO.out _ hacc).alloc _) ⟨w2.heap.size, 0, none⟩ 1 1 [.string (txt (Lib.decDigits n.toNat))] rfl rfl (cell_one_new _ _ _) (fun x hx => by simp at hx; subst hx; rfl) (by unfold maxLen; omega) (by omega) (by simp; omega) ?_; intro v1 w3 hown1 hg1 _))
    have hbF := Lib.hid (((hV.out.trans (hacc.mono hV2.out)).alloc (by omega) _).grown hg1 (by simp; omega) (fun g hg => (((HO.out _ hacc).alloc (.cells #[.string (txt (Lib.decDigits n.toNat))] 9)).lt g hg).1))
    have LL := Lib.hid (HL.out _ _ _ _ hown1 (by first | (simp [str]; done) | simp [str, txt_of]))
    clear hown1 hg1 HO HL hV hV2
    go_wp2_with fail
    refine LL.out.mono ?_; rintro e w9 ⟨rfl, rfl⟩
    go_wp2_with fail
    go_ret
    exact ⟨retP HP.out.symm, hbF.out⟩
set_option maxHeartbeats 4000000 in
set_option maxRecDepth 100000 in
theorem riprint_len (k : Int) (hk : It.isLen k = true) (nm : ByteArray) (n : Int) (a : ByteArray) (ac : UInt8) (b : ByteArray) (bc : UInt8) (w : World) (h0 : 0 ≤ n) (h1 : n ≤ 9223372036854775807) (hn : nm.size ≤ 1000) :
    Calls Try.prog 56 #[.agg #[.int .i64 k, .string nm, .int .i64 n, .string a, .int .u8 ac.toNat, .string b, .int .u8 bc.toNat]] w fun e w' => e = .returned (.string (txt (It.print (ofV k nm n a ac b bc)))) ∧ Below w.heap.size w w' := by
  have HP := Lib.hid (print_len (len_num hk) hk nm n a ac b bc)
  have hV := Lib.hid (((Below.refl w.heap.size w).alloc (Nat.le_refl _) (.cells #[.int .i64 k, .string nm, .int .i64 n, .string a, .int .u8 ac.toNat, .string b, .int .u8 bc.toNat] 84)).alloc (by simp) (.cells #[.string (txt (It.word k))] 9))
  have hV2 := Lib.hid (show w.heap.size ≤ ((w.alloc (.cells #[.int .i64 k, .string nm, .int .i64 n, .string a, .int .u8 ac.toNat, .string b, .int .u8 bc.toNat] 84)).alloc (.cells #[.string (txt (It.word k))] 9)).heap.size by simp; omega)
  have HO := Lib.hid (fun W (h : Below ((w.alloc (.cells #[.int .i64 k, .string nm, .int .i64 n, .string a, .int .u8 ac.toNat, .string b, .int .u8 bc.toNat] 84)).alloc (.cells #[.string (txt (It.word k))] 9)).heap.size ((w.alloc (.cells #[.int .i64 k, .string nm, .int .i64 n, .string a, .int .u8 ac.toNat, .string b, .int .u8 bc.toNat] 84)).alloc (.cells #[.string (txt (It.word k))] 9)) W) => show W.ownsRow w.heap.size 9 1 (.slice (some ⟨w.heap.size + 1, 0, none⟩) 1 1) 1 [.string (txt (It.word k))] from by
    have := ownsRow_below (World.ownsRow_lit (base := w.heap.size) (e := 9) (size := 1) (w.alloc (.cells #[.int .i64 k, .string nm, .int .i64 n, .string a, .int .u8 ac.toNat, .string b, .int .u8 bc.toNat] 84)) #[.string (txt (It.word k))] 1 (by simp) (by unfold maxLen; omega) rfl) h
    rwa [show (w.alloc (.cells #[.int .i64 k, .string nm, .int .i64 n, .string a, .int .u8 ac.toNat, .string b, .int .u8 bc.toNat] 84)).heap.size = w.heap.size + 1 by simp] at this)
  have C := Lib.hid (fun w => rword_any k w)
  obtain ⟨i0, hi, hz0, hz1, hz2⟩ := info_parts infoStr
  have HF := Lib.hid (fun W (h : Below ((w.alloc (.cells #[.int .i64 k, .string nm, .int .i64 n, .string a, .int .u8 ac.toNat, .string b, .int .u8 bc.toNat] 84)).alloc (.cells #[.string (txt (It.word k))] 9)).heap.size ((w.alloc (.cells #[.int .i64 k, .string nm, .int .i64 n, .string a, .int .u8 ac.toNat, .string b, .int .u8 bc.toNat] 84)).alloc (.cells #[.string (txt (It.word k))] 9)) W) => Made.of h (rprint_all n W h0 h1))
  have HL := Lib.hid (fun W v m0 xs (h : World.ownsRow W w.heap.size 9 1 v m0 xs) (hx : xs = ([It.word k, nm.data.toList, Lib.decDigits n.toNat] : List (List UInt8)).map str) => rline_own (It.word k) [nm.data.toList, Lib.decDigits n.toNat] W w.heap.size v m0 xs h hx (by simp) (line3_le k _ _ (by simp; omega) (Nat.le_trans (dec_l20 h0 h1) (by decide))))
  obtain ⟨e1, e2, e3, e4, hk'⟩ := len_ways hk
  clear hk h0 h1 hn
  rcases hk' with e5 | ⟨e5, e6⟩
  all_goals
    go_enter Try.func56, Try.ntmps56
    go_wp2_with fail
    refine (C.out _).mono ?_; rintro e w0 ⟨rfl, rfl⟩
    go_wp2_with fail
    go_region_held3 (fun w' => w'.cell? ⟨w.heap.size, 1, none⟩ = some (.string nm) ∧ w'.cell? ⟨w.heap.size, 2, none⟩ = some (.int .i64 n))
      (refine ⟨?_, ?_⟩ <;> (go_keep; done))
      (first
        | (go_at_call 75; (with_reducible refine (HF.out _ (Below.refl _ _).drew).mono ?_); rintro e w2 ⟨rfl, hb, hacc, hz⟩; have hcell := fun o => hb.cell (p := ⟨w.heap.size, o, none⟩) (by first | (simp; done) | ((try simp); omega)); have hz : w.heap.size + 1 < w2.heap.size := by ((try simp at hz); omega))
        | (refine step_append_lies _ (by rfl) (.tmp 24) (.tmp 30) 77 (by rfl) w.heap.size 9 i0 (.string ByteArray.empty) 1 16 Try.underlying77 hi hz0 hz1 hz2 rfl (by omega) (.slice (some ⟨w.heap.size + 1, 0, none⟩) 1 1) 1 _ (by rfl) ((HO.out _ hacc).alloc _) ⟨w2.heap.size, 0, none⟩ 2 2 [.string nm, .string (txt (Lib.decDigits n.toNat))] (by rfl) (by rfl) (World.news_of_block (heap_alloc_new w2 (.cells #[.string nm, .string (txt (Lib.decDigits n.toNat))] 9))) (by simp [Value.oneCell']) (by omega) (by unfold maxLen; omega) (by omega) (by simp; omega) (w2.heap.size + 1) (by simp) ?_; intro gg cap w3 hown1 hg1 hat hlt; have hbF := Lib.hid (((hV.out.trans (hacc.mono hV2.out)).alloc (by omega) (.cells #[.string nm, .string (txt (Lib.decDigits n.toNat))] 9)).grown hg1 (by simp; omega) (fun g hg => (((HO.out _ hacc).alloc (.cells #[.string nm, .string (txt (Lib.decDigits n.toNat))] 9)).lt g hg).1)); have hcell2 := fun o => hg1.cell_far ⟨w.heap.size, o, none⟩ (by simp; omega) (by simp [Value.ownBlock])))
    all_goals
      have LL := Lib.hid (HL.out _ _ _ _ hown1 (by first | (simp [str]; done) | simp [str, txt_of]))
      clear hown1 hg1
      go_wp2_with fail
      refine LL.out.mono ?_; rintro e w9 ⟨rfl, rfl⟩
      go_wp2_with fail
      go_ret
      exact ⟨retP HP.out.symm, hbF.out⟩
set_option maxHeartbeats 4000000 in
set_option maxRecDepth 100000 in
theorem riprint_7 (nm : ByteArray) (n : Int) (a : ByteArray) (ac : UInt8) (b : ByteArray) (bc : UInt8) (w : World) (ha : a.size ≤ 1000) (hb : b.size ≤ 1000) :
    Calls Try.prog 56 #[.agg #[.int .i64 7, .string nm, .int .i64 n, .string a, .int .u8 ac.toNat, .string b, .int .u8 bc.toNat]] w fun e w' => e = .returned (.string (txt (It.print (ofV 7 nm n a ac b bc)))) ∧ Below w.heap.size w w' := by
  have HP := Lib.hid (print_7 nm n a ac b bc)
  have hV := Lib.hid (((Below.refl w.heap.size w).alloc (Nat.le_refl _) (.cells #[.int .i64 7, .string nm, .int .i64 n, .string a, .int .u8 ac.toNat, .string b, .int .u8 bc.toNat] 84)).alloc (by simp) (.cells #[.string (txt (It.word 7))] 9))
  have hV2 := Lib.hid (show w.heap.size ≤ ((w.alloc (.cells #[.int .i64 7, .string nm, .int .i64 n, .string a, .int .u8 ac.toNat, .string b, .int .u8 bc.toNat] 84)).alloc (.cells #[.string (txt (It.word 7))] 9)).heap.size by simp; omega)
  have HO := Lib.hid (fun W (h : Below ((w.alloc (.cells #[.int .i64 7, .string nm, .int .i64 n, .string a, .int .u8 ac.toNat, .string b, .int .u8 bc.toNat] 84)).alloc (.cells #[.string (txt (It.word 7))] 9)).heap.size ((w.alloc (.cells #[.int .i64 7, .string nm, .int .i64 n, .string a, .int .u8 ac.toNat, .string b, .int .u8 bc.toNat] 84)).alloc (.cells #[.string (txt (It.word 7))] 9)) W) => show W.ownsRow w.heap.size 9 1 (.slice (some ⟨w.heap.size + 1, 0, none⟩) 1 1) 1 [.string (txt (It.word 7))] from by
    have := ownsRow_below (World.ownsRow_lit (base := w.heap.size) (e := 9) (size := 1) (w.alloc (.cells #[.int .i64 7, .string nm, .int .i64 n, .string a, .int .u8 ac.toNat, .string b, .int .u8 bc.toNat] 84)) #[.string (txt (It.word 7))] 1 (by simp) (by unfold maxLen; omega) rfl) h
    rwa [show (w.alloc (.cells #[.int .i64 7, .string nm, .int .i64 n, .string a, .int .u8 ac.toNat, .string b, .int .u8 bc.toNat] 84)).heap.size = w.heap.size + 1 by simp] at this)
  have C := Lib.hid (fun w => rword_any 7 w)
  obtain ⟨i0, hi, hz0, hz1, hz2⟩ := info_parts infoStr
  have HA := Lib.hid (fun W (h : Below ((w.alloc (.cells #[.int .i64 7, .string nm, .int .i64 n, .string a, .int .u8 ac.toNat, .string b, .int .u8 bc.toNat] 84)).alloc (.cells #[.string (txt (It.word 7))] 9)).heap.size ((w.alloc (.cells #[.int .i64 7, .string nm, .int .i64 n, .string a, .int .u8 ac.toNat, .string b, .int .u8 bc.toNat] 84)).alloc (.cells #[.string (txt (It.word 7))] 9)) W) => Made.of h (rend_any a ac W (by omega)))
  have HB := Lib.hid (fun W (h : Below ((w.alloc (.cells #[.int .i64 7, .string nm, .int .i64 n, .string a, .int .u8 ac.toNat, .string b, .int .u8 bc.toNat] 84)).alloc (.cells #[.string (txt (It.word 7))] 9)).heap.size ((w.alloc (.cells #[.int .i64 7, .string nm, .int .i64 n, .string a, .int .u8 ac.toNat, .string b, .int .u8 bc.toNat] 84)).alloc (.cells #[.string (txt (It.word 7))] 9)) W) => Made.of h (rend_any b bc W (by omega)))
  have HL := Lib.hid (fun W v m0 xs (h : World.ownsRow W w.heap.size 9 1 v m0 xs) (hx : xs = ([It.word 7, It.tipT ⟨a.data.toList, ac⟩, It.tipT ⟨b.data.toList, bc⟩] : List (List UInt8)).map str) => rline_own (It.word 7) [It.tipT ⟨a.data.toList, ac⟩, It.tipT ⟨b.data.toList, bc⟩] W w.heap.size v m0 xs h hx (by simp) (line3_le 7 _ _ (tipT_le a ac ha) (tipT_le b bc hb)))
  clear ha hb
  go_enter Try.func56, Try.ntmps56
  go_wp2_with fail
  refine (C.out _).mono ?_; rintro e w0 ⟨rfl, rfl⟩
  go_wp2_with fail
  go_region_held3 (fun w' => w'.cell? ⟨w.heap.size, 3, none⟩ = some (.string a) ∧ w'.cell? ⟨w.heap.size, 4, none⟩ = some (.int .u8 ac.toNat) ∧ w'.cell? ⟨w.heap.size, 5, none⟩ = some (.string b) ∧ w'.cell? ⟨w.heap.size, 6, none⟩ = some (.int .u8 bc.toNat))
    (refine ⟨?_, ?_, ?_, ?_⟩ <;> (go_keep; done))
    (first
      | (go_at_call 76; (with_reducible refine (HA.out _ hacc).mono ?_); rintro e w2 ⟨rfl, hb, hacc, hz⟩; have hcell := fun o => hb.cell (p := ⟨w.heap.size, o, none⟩) (by first | (simp; done) | ((try simp); omega)); have hz : w.heap.size + 1 < w2.heap.size := by ((try simp at hz); omega))
      | (go_at_call 76; (with_reducible refine (HB.out _ hacc).mono ?_); rintro e w2 ⟨rfl, hb, hacc, hz⟩; have hcell := fun o => hb.cell (p := ⟨w.heap.size, o, none⟩) (by first | (simp; done) | ((try simp); omega)); have hz : w.heap.size + 1 < w2.heap.size := by ((try simp at hz); omega))
      | (go_at_call 76; (with_reducible refine (HA.out _ (Below.refl _ _).drew).mono ?_); rintro e w2 ⟨rfl, hb, hacc, hz⟩; have hcell := fun o => hb.cell (p := ⟨w.heap.size, o, none⟩) (by first | (simp; done) | ((try simp); omega)); have hz : w.heap.size + 1 < w2.heap.size := by ((try simp at hz); omega))
      | (go_at_call 76; (with_reducible refine (HB.out _ (Below.refl _ _).drew).mono ?_); rintro e w2 ⟨rfl, hb, hacc, hz⟩; have hcell := fun o => hb.cell (p := ⟨w.heap.size, o, none⟩) (by first | (simp; done) | ((try simp); omega)); have hz : w.heap.size + 1 < w2.heap.size := by ((try simp at hz); omega))
      | (refine step_append_lies _ (by rfl) (.tmp 54) (.tmp 63) 77 (by rfl) w.heap.size 9 i0 (.string ByteArray.empty) 1 16 Try.underlying77 hi hz0 hz1 hz2 rfl (by omega) (.slice (some ⟨w.heap.size + 1, 0, none⟩) 1 1) 1 _ (by rfl) ((HO.out _ hacc).alloc _) ⟨w2.heap.size, 0, none⟩ 2 2 [.string (txt (It.tipT ⟨a.data.toList, ac⟩)), .string (txt (It.tipT ⟨b.data.toList, bc⟩))] (by rfl) (by rfl) (World.news_of_block (heap_alloc_new w2 (.cells #[.string (txt (It.tipT ⟨a.data.toList, ac⟩)), .string (txt (It.tipT ⟨b.data.toList, bc⟩))] 9))) (by simp [Value.oneCell']) (by omega) (by unfold maxLen; omega) (by omega) (by simp; omega) (w2.heap.size + 1) (by simp) ?_; intro gg cap w3 hown1 hg1 hat hlt; have hbF := Lib.hid (((hV.out.trans (hacc.mono hV2.out)).alloc (by omega) (.cells #[.string (txt (It.tipT ⟨a.data.toList, ac⟩)), .string (txt (It.tipT ⟨b.data.toList, bc⟩))] 9)).grown hg1 (by simp; omega) (fun g hg => (((HO.out _ hacc).alloc (.cells #[.string (txt (It.tipT ⟨a.data.toList, ac⟩)), .string (txt (It.tipT ⟨b.data.toList, bc⟩))] 9)).lt g hg).1)); have hcell2 := fun o => hg1.cell_far ⟨w.heap.size, o, none⟩ (by simp; omega) (by simp [Value.ownBlock])))
  all_goals
    have LL := Lib.hid (HL.out _ _ _ _ hown1 (by first | (simp [str]; done) | simp [str, txt_of]))
    clear hown1 hg1
    go_wp2_with fail
    refine LL.out.mono ?_; rintro e w9 ⟨rfl, rfl⟩
    go_wp2_with fail
    go_ret
    exact ⟨retP HP.out.symm, hbF.out⟩
set_option maxHeartbeats 4000000 in
set_option maxRecDepth 100000 in
theorem riprint_9 (nm : ByteArray) (n : Int) (a : ByteArray) (ac : UInt8) (b : ByteArray) (bc : UInt8) (w : World) (hn : nm.size ≤ 1000) (ha : a.size ≤ 1000) :
    Calls Try.prog 56 #[.agg #[.int .i64 9, .string nm, .int .i64 n, .string a, .int .u8 ac.toNat, .string b, .int .u8 bc.toNat]] w fun e w' => e = .returned (.string (txt (It.print (ofV 9 nm n a ac b bc)))) ∧ Below w.heap.size w w' := by
  have HP := Lib.hid (print_9 nm n a ac b bc)
  have hV := Lib.hid (((Below.refl w.heap.size w).alloc (Nat.le_refl _) (.cells #[.int .i64 9, .string nm, .int .i64 n, .string a, .int .u8 ac.toNat, .string b, .int .u8 bc.toNat] 84)).alloc (by simp) (.cells #[.string (txt (It.word 9))] 9))
  have hV2 := Lib.hid (show w.heap.size ≤ ((w.alloc (.cells #[.int .i64 9, .string nm, .int .i64 n, .string a, .int .u8 ac.toNat, .string b, .int .u8 bc.toNat] 84)).alloc (.cells #[.string (txt (It.word 9))] 9)).heap.size by simp; omega)
  have HO := Lib.hid (fun W (h : Below ((w.alloc (.cells #[.int .i64 9, .string nm, .int .i64 n, .string a, .int .u8 ac.toNat, .string b, .int .u8 bc.toNat] 84)).alloc (.cells #[.string (txt (It.word 9))] 9)).heap.size ((w.alloc (.cells #[.int .i64 9, .string nm, .int .i64 n, .string a, .int .u8 ac.toNat, .string b, .int .u8 bc.toNat] 84)).alloc (.cells #[.string (txt (It.word 9))] 9)) W) => show W.ownsRow w.heap.size 9 1 (.slice (some ⟨w.heap.size + 1, 0, none⟩) 1 1) 1 [.string (txt (It.word 9))] from by
    have := ownsRow_below (World.ownsRow_lit (base := w.heap.size) (e := 9) (size := 1) (w.alloc (.cells #[.int .i64 9, .string nm, .int .i64 n, .string a, .int .u8 ac.toNat, .string b, .int .u8 bc.toNat] 84)) #[.string (txt (It.word 9))] 1 (by simp) (by unfold maxLen; omega) rfl) h
    rwa [show (w.alloc (.cells #[.int .i64 9, .string nm, .int .i64 n, .string a, .int .u8 ac.toNat, .string b, .int .u8 bc.toNat] 84)).heap.size = w.heap.size + 1 by simp] at this)
  have C := Lib.hid (fun w => rword_any 9 w)
  obtain ⟨i0, hi, hz0, hz1, hz2⟩ := info_parts infoStr
  have HA := Lib.hid (fun W (h : Below ((w.alloc (.cells #[.int .i64 9, .string nm, .int .i64 n, .string a, .int .u8 ac.toNat, .string b, .int .u8 bc.toNat] 84)).alloc (.cells #[.string (txt (It.word 9))] 9)).heap.size ((w.alloc (.cells #[.int .i64 9, .string nm, .int .i64 n, .string a, .int .u8 ac.toNat, .string b, .int .u8 bc.toNat] 84)).alloc (.cells #[.string (txt (It.word 9))] 9)) W) => Made.of h (rend_any a ac W (by omega)))
  have HL := Lib.hid (fun W v m0 xs (h : World.ownsRow W w.heap.size 9 1 v m0 xs) (hx : xs = ([It.word 9, nm.data.toList, It.tipT ⟨a.data.toList, ac⟩] : List (List UInt8)).map str) => rline_own (It.word 9) [nm.data.toList, It.tipT ⟨a.data.toList, ac⟩] W w.heap.size v m0 xs h hx (by simp) (line3_le 9 _ _ (by simp; omega) (tipT_le a ac ha)))
  clear ha hn
  go_enter Try.func56, Try.ntmps56
  go_wp2_with fail
  refine (C.out _).mono ?_; rintro e w0 ⟨rfl, rfl⟩
  go_wp2_with fail
  go_region_held3 (fun w' => w'.cell? ⟨w.heap.size, 1, none⟩ = some (.string nm) ∧ w'.cell? ⟨w.heap.size, 3, none⟩ = some (.string a) ∧ w'.cell? ⟨w.heap.size, 4, none⟩ = some (.int .u8 ac.toNat))
    (refine ⟨?_, ?_, ?_⟩ <;> (go_keep; done))
    (first
      | (go_at_call 76; (with_reducible refine (HA.out _ (Below.refl _ _).drew).mono ?_); rintro e w2 ⟨rfl, hb, hacc, hz⟩; have hcell := fun o => hb.cell (p := ⟨w.heap.size, o, none⟩) (by first | (simp; done) | ((try simp); omega)); have hz : w.heap.size + 1 < w2.heap.size := by ((try simp at hz); omega))
      | (refine step_append_lies _ (by rfl) (.tmp 34) (.tmp 41) 77 (by rfl) w.heap.size 9 i0 (.string ByteArray.empty) 1 16 Try.underlying77 hi hz0 hz1 hz2 rfl (by omega) (.slice (some ⟨w.heap.size + 1, 0, none⟩) 1 1) 1 _ (by rfl) ((HO.out _ hacc).alloc _) ⟨w2.heap.size, 0, none⟩ 2 2 [.string nm, .string (txt (It.tipT ⟨a.data.toList, ac⟩))] (by rfl) (by rfl) (World.news_of_block (heap_alloc_new w2 (.cells #[.string nm, .string (txt (It.tipT ⟨a.data.toList, ac⟩))] 9))) (by simp [Value.oneCell']) (by omega) (by unfold maxLen; omega) (by omega) (by simp; omega) (w2.heap.size + 1) (by simp) ?_; intro gg cap w3 hown1 hg1 hat hlt; have hbF := Lib.hid (((hV.out.trans (hacc.mono hV2.out)).alloc (by omega) (.cells #[.string nm, .string (txt (It.tipT ⟨a.data.toList, ac⟩))] 9)).grown hg1 (by simp; omega) (fun g hg => (((HO.out _ hacc).alloc (.cells #[.string nm, .string (txt (It.tipT ⟨a.data.toList, ac⟩))] 9)).lt g hg).1)); have hcell2 := fun o => hg1.cell_far ⟨w.heap.size, o, none⟩ (by simp; omega) (by simp [Value.ownBlock])))
  all_goals
    have LL := Lib.hid (HL.out _ _ _ _ hown1 (by first | (simp [str]; done) | simp [str, txt_of]))
    clear hown1 hg1
    go_wp2_with fail
    refine LL.out.mono ?_; rintro e w9 ⟨rfl, rfl⟩
    go_wp2_with fail
    go_ret
    exact ⟨retP HP.out.symm, hbF.out⟩
set_option maxHeartbeats 4000000 in
set_option maxRecDepth 100000 in
theorem riprint_8 (nm : ByteArray) (n : Int) (a : ByteArray) (ac : UInt8) (b : ByteArray) (bc : UInt8) (w : World) (ha : a.size ≤ 1000) :
    Calls Try.prog 56 #[.agg #[.int .i64 8, .string nm, .int .i64 n, .string a, .int .u8 ac.toNat, .string b, .int .u8 bc.toNat]] w fun e w' => e = .returned (.string (txt (It.print (ofV 8 nm n a ac b bc)))) ∧ Below w.heap.size w w' := by
  have HP := Lib.hid (print_8 nm n a ac b bc)
  have hV := Lib.hid (((Below.refl w.heap.size w).alloc (Nat.le_refl _) (.cells #[.int .i64 8, .string nm, .int .i64 n, .string a, .int .u8 ac.toNat, .string b, .int .u8 bc.toNat] 84)).alloc (by simp) (.cells #[.string (txt (It.word 8))] 9))
  have hV2 := Lib.hid (show w.heap.size ≤ ((w.alloc (.cells #[.int .i64 8, .string nm, .int .i64 n, .string a, .int .u8 ac.toNat, .string b, .int .u8 bc.toNat] 84)).alloc (.cells #[.string (txt (It.word 8))] 9)).heap.size by simp; omega)
  have HO := Lib.hid (fun W (h : Below ((w.alloc (.cells #[.int .i64 8, .string nm, .int .i64 n, .string a, .int .u8 ac.toNat, .string b, .int .u8 bc.toNat] 84)).alloc (.cells #[.string (txt (It.word 8))] 9)).heap.size ((w.alloc (.cells #[.int .i64 8, .string nm, .int .i64 n, .string a, .int .u8 ac.toNat, .string b, .int .u8 bc.toNat] 84)).alloc (.cells #[.string (txt (It.word 8))] 9)) W) => show W.ownsRow w.heap.size 9 1 (.slice (some ⟨w.heap.size + 1, 0, none⟩) 1 1) 1 [.string (txt (It.word 8))] from by
    have := ownsRow_below (World.ownsRow_lit (base := w.heap.size) (e := 9) (size := 1) (w.alloc (.cells #[.int .i64 8, .string nm, .int .i64 n, .string a, .int .u8 ac.toNat, .string b, .int .u8 bc.toNat] 84)) #[.string (txt (It.word 8))] 1 (by simp) (by unfold maxLen; omega) rfl) h
    rwa [show (w.alloc (.cells #[.int .i64 8, .string nm, .int .i64 n, .string a, .int .u8 ac.toNat, .string b, .int .u8 bc.toNat] 84)).heap.size = w.heap.size + 1 by simp] at this)
  have C := Lib.hid (fun w => rword_any 8 w)
  obtain ⟨i0, hi, hz0, hz1, hz2⟩ := info_parts infoStr
  have HF := Lib.hid (fun W (h : Below ((w.alloc (.cells #[.int .i64 8, .string nm, .int .i64 n, .string a, .int .u8 ac.toNat, .string b, .int .u8 bc.toNat] 84)).alloc (.cells #[.string (txt (It.word 8))] 9)).heap.size ((w.alloc (.cells #[.int .i64 8, .string nm, .int .i64 n, .string a, .int .u8 ac.toNat, .string b, .int .u8 bc.toNat] 84)).alloc (.cells #[.string (txt (It.word 8))] 9)) W) => Made.of h (rend_any a ac W (by omega)))
  have HL := Lib.hid (fun W v m0 xs (h : World.ownsRow W w.heap.size 9 1 v m0 xs) (hx : xs = ([It.word 8, It.tipT ⟨a.data.toList, ac⟩] : List (List UInt8)).map str) => rline_own (It.word 8) [It.tipT ⟨a.data.toList, ac⟩] W w.heap.size v m0 xs h hx (by simp) (line2_le 8 _ (tipT_le a ac ha)))
  clear ha
  go_enter Try.func56, Try.ntmps56
  go_wp2_with fail
  refine (C.out _).mono ?_; rintro e w0 ⟨rfl, rfl⟩
  go_wp2_with fail
  refine (HF.out _ (Below.refl _ _)).mono ?_; rintro e w2 ⟨rfl, hb, hacc, hz⟩; have hcell := (bcell hb).1; have hz : w.heap.size + 1 < w2.heap.size := by ((try simp at hz); omega)
  go_wp2_with (at_builtin; go_loud (refine wpList_append_own _ rfl (.tmp 45) (.tmp 50) 77 rfl w.heap.size 9 i0 (.string ByteArray.empty) 1 16 Try.underlying77 hi hz0 hz1 hz2 rfl (by decide) _ _ _ rfl ((HO.out _ hacc).alloc _) ⟨w2.heap.size, 0, none⟩ 1 1 [.string (txt (It.tipT ⟨a.data.toList, ac⟩))] rfl rfl (cell_one_new _ _ _) (fun x hx => by simp at hx; subst hx; rfl) (by unfold maxLen; omega) (by omega) (by simp; omega) ?_; intro v1 w3 hown1 hg1 _))
  have hbF := Lib.hid (((hV.out.trans (hacc.mono hV2.out)).alloc (by omega) _).grown hg1 (by simp; omega) (fun g hg => (((HO.out _ hacc).alloc (.cells #[.string (txt (It.tipT ⟨a.data.toList, ac⟩))] 9)).lt g hg).1))
  have LL := Lib.hid (HL.out _ _ _ _ hown1 (by first | (simp [str]; done) | simp [str, txt_of]))
  clear hown1 hg1 HO HL hV hV2
  go_wp2_with fail
  refine LL.out.mono ?_; rintro e w9 ⟨rfl, rfl⟩
  go_wp2_with fail
  go_ret
  exact ⟨retP HP.out.symm, hbF.out⟩
set_option maxHeartbeats 4000000 in
set_option maxRecDepth 100000 in
theorem riprint_no (k : Int) (hk : ¬ (1 ≤ k ∧ k ≤ 9)) (nm : ByteArray) (n : Int) (a : ByteArray) (ac : UInt8) (b : ByteArray) (bc : UInt8) (w : World) :
    Calls Try.prog 56 #[.agg #[.int .i64 k, .string nm, .int .i64 n, .string a, .int .u8 ac.toNat, .string b, .int .u8 bc.toNat]] w fun e w' => e = .returned (.string (txt (It.print (ofV k nm n a ac b bc)))) ∧ Below w.heap.size w w' := by
  have HP := Lib.hid (ofV_k k nm n a ac b bc hk)
  have HW := Lib.hid (show It.word k = [] from word_none (by omega) (by omega) (by omega) (by omega) (by omega) (by omega) (by omega) (by omega) (by omega))
  have hV := Lib.hid (((Below.refl w.heap.size w).alloc (Nat.le_refl _) (.cells #[.int .i64 k, .string nm, .int .i64 n, .string a, .int .u8 ac.toNat, .string b, .int .u8 bc.toNat] 84)).alloc (by simp) (.cells #[.string (txt (It.word k))] 9))
  have hV2 := Lib.hid (show w.heap.size ≤ ((w.alloc (.cells #[.int .i64 k, .string nm, .int .i64 n, .string a, .int .u8 ac.toNat, .string b, .int .u8 bc.toNat] 84)).alloc (.cells #[.string (txt (It.word k))] 9)).heap.size by simp; omega)
  have HO := Lib.hid (fun W (h : Below ((w.alloc (.cells #[.int .i64 k, .string nm, .int .i64 n, .string a, .int .u8 ac.toNat, .string b, .int .u8 bc.toNat] 84)).alloc (.cells #[.string (txt (It.word k))] 9)).heap.size ((w.alloc (.cells #[.int .i64 k, .string nm, .int .i64 n, .string a, .int .u8 ac.toNat, .string b, .int .u8 bc.toNat] 84)).alloc (.cells #[.string (txt (It.word k))] 9)) W) => show W.ownsRow w.heap.size 9 1 (.slice (some ⟨w.heap.size + 1, 0, none⟩) 1 1) 1 [.string (txt (It.word k))] from by
    have := ownsRow_below (World.ownsRow_lit (base := w.heap.size) (e := 9) (size := 1) (w.alloc (.cells #[.int .i64 k, .string nm, .int .i64 n, .string a, .int .u8 ac.toNat, .string b, .int .u8 bc.toNat] 84)) #[.string (txt (It.word k))] 1 (by simp) (by unfold maxLen; omega) rfl) h
    rwa [show (w.alloc (.cells #[.int .i64 k, .string nm, .int .i64 n, .string a, .int .u8 ac.toNat, .string b, .int .u8 bc.toNat] 84)).heap.size = w.heap.size + 1 by simp] at this)
  have C := Lib.hid (fun w => rword_any k w)
  obtain ⟨i0, hi, hz0, hz1, hz2⟩ := info_parts infoStr
  have HL := Lib.hid (fun W v m0 xs (h : World.ownsRow W w.heap.size 9 1 v m0 xs) (hx : xs = ([It.word k] : List (List UInt8)).map str) => rline_own (It.word k) [] W w.heap.size v m0 xs h hx (by simp) (by simp [Ln.line, Lib.join]; have := word_le k; omega))
  have h1 : (k == 1) = false := ib_f (by omega)
  have h2 : (k == 2) = false := ib_f (by omega)
  have h3 : (k == 3) = false := ib_f (by omega)
  have h4 : (k == 4) = false := ib_f (by omega)
  have h5 : (k == 5) = false := ib_f (by omega)
  have h6 : (k == 6) = false := ib_f (by omega)
  have h7 : (k == 7) = false := ib_f (by omega)
  have h8 : (k == 8) = false := ib_f (by omega)
  have h9 : (k == 9) = false := ib_f (by omega)
  have LL := Lib.hid (HL.out _ _ _ _ (HO.out _ (Below.refl _ _)) rfl)
  clear hk
  go_enter Try.func56, Try.ntmps56
  go_wp2_with fail
  refine (C.out _).mono ?_; rintro e w0 ⟨rfl, rfl⟩
  go_wp2_with fail
  refine LL.out.mono ?_; rintro e w9 ⟨rfl, rfl⟩
  go_wp2_with fail
  go_ret
  exact ⟨retP (by rw [HP.out, HW.out]; rfl), hV.out⟩
theorem riprint_any (k : Int) (nm : ByteArray) (n : Int) (a : ByteArray) (ac : UInt8) (b : ByteArray) (bc : UInt8) (w : World) (h0 : 0 ≤ n) (h1 : n ≤ 9223372036854775807) (hn : nm.size ≤ 1000) (ha : a.size ≤ 1000) (hb : b.size ≤ 1000) :
    Calls Try.prog 56 #[.agg #[.int .i64 k, .string nm, .int .i64 n, .string a, .int .u8 ac.toNat, .string b, .int .u8 bc.toNat]] w fun e w' => e = .returned (.string (txt (It.print (ofV k nm n a ac b bc)))) ∧ Below w.heap.size w w' := by
  by_cases hk : 1 ≤ k ∧ k ≤ 9
  · have hk' : It.isNum k = true ∨ It.isLen k = true ∨ k = 7 ∨ k = 8 ∨ k = 9 := by
      simp [It.isNum, It.isLen]; omega
    rcases hk' with h | h | rfl | rfl | rfl
    · exact riprint_num k h nm n a ac b bc w h0 h1
    · exact riprint_len k h nm n a ac b bc w h0 h1 hn
    · exact riprint_7 nm n a ac b bc w ha hb
    · exact riprint_8 nm n a ac b bc w ha
    · exact riprint_9 nm n a ac b bc w hn ha
  · exact riprint_no k hk nm n a ac b bc w
end Go.Proofs.Ytbmmcmdopekccaa
/-
  The walk of layer 3's tips: one or two words read as ends.
-/
namespace Go.Proofs.Ytbmmcmdopekccaa
open Go.RowKit

/-- How far tips has come. -/
def TipsTo (T : List (List UInt8)) (k : Nat) (e0 e1 : It.Tp) : Prop :=
  (T.take k).all It.tipOk = true ∧ (0 < k → e0 = It.tip (T.getD 0 [])) ∧ (1 < k → e1 = It.tip (T.getD 1 [])) ∧ (k ≤ 1 → e1 = It.Tp.zero)
theorem row_alloc {w : World} {g : Nat} (h : g < w.heap.size) (o : Obj) : (w.alloc o).heap[g]? = w.heap[g]? := Below.heap_alloc w o g h
theorem tipsTo_0 {T : List (List UInt8)} {e0 e1 : It.Tp} (h : 0 < T.length) (ho : It.tipOk T[0] = true) (t : TipsTo T 0 e0 e1) : TipsTo T (0 + 1) (It.tip T[0]) e1 := by
  refine ⟨?_, fun _ => ?_, fun h => absurd h (by omega), fun _ => t.2.2.2 (by omega)⟩
  · rw [List.take_succ_eq_append_getElem h, List.all_append]; simp [ho]
  · rw [List.getD_eq_getElem?_getD, List.getElem?_eq_getElem h]; rfl
theorem tipsTo_1 {T : List (List UInt8)} {e0 e1 : It.Tp} (h : 1 < T.length) (ho : It.tipOk T[1] = true) (t : TipsTo T 1 e0 e1) : TipsTo T (1 + 1) e0 (It.tip T[1]) := by
  refine ⟨?_, fun _ => t.2.1 (by omega), fun _ => ?_, fun h => absurd h (by omega)⟩
  · rw [List.take_succ_eq_append_getElem h, List.all_append, t.1]; simp [ho]
  · rw [List.getD_eq_getElem?_getD, List.getElem?_eq_getElem h]; rfl
end Go.Proofs.Ytbmmcmdopekccaa
/-
  The walk of layer 3's read: a line's words read as an item of their kind.
-/
namespace Go.Proofs.Ytbmmcmdopekccaa
open Go.RowKit

/-- What read leaves: an item, and whether the words were one; if they were, it is that. -/
def ReadGives (p : Option It.Itm) (w : World) (e : Ending) (w' : World) : Prop :=
  ∃ y : It.Itm, e = .returned (.tuple #[.agg #[.int .i64 y.k, .string (txt y.name), .int .i64 y.n, .string (txt y.e0.n), .int .u8 y.e0.c.toNat, .string (txt y.e1.n), .int .u8 y.e1.c.toNat], .bool p.isSome]) ∧
    (∀ z, p = some z → y = z) ∧ Below w.heap.size w w'
theorem ReadGives.mk {p : Option It.Itm} {w w' : World} {e : Ending} (y : It.Itm) (b : Bool) (hb : p.isSome = b) (hy : ∀ z, p = some z → y = z) (he : e = .returned (.tuple #[.agg #[.int .i64 y.k, .string (txt y.name), .int .i64 y.n, .string (txt y.e0.n), .int .u8 y.e0.c.toNat, .string (txt y.e1.n), .int .u8 y.e1.c.toNat], .bool b]))
    (hw : Below w.heap.size w w') : ReadGives p w e w' := by subst hb; exact ⟨y, he, hy, hw⟩
theorem strs_at {w : World} {bk o : Nat} {L : List (List UInt8)} (h : Strs w (some ⟨bk, o, none⟩) L) (k : Nat) (hk : k < L.length) : bk < w.heap.size ∧ w.cell? ⟨bk, o + k, none⟩ = some (.string (txt L[k])) := by
  obtain ⟨a', ha, hb, hc⟩ := h.cell hk
  cases ha
  rw [Go.WideShapes.add_plain, str] at hc
  exact ⟨hb, hc⟩
theorem row7 {w : World} {g : Nat} {a b c d e f i : Value} {t : TypeId} (h : w.heap[g]? = some (.cells #[a, b, c, d, e, f, i] t (0, 0))) :
    (w.cell? ⟨g, 0, none⟩ = some a ∧ w.cell? ⟨g, 1, none⟩ = some b ∧ w.cell? ⟨g, 2, none⟩ = some c ∧ w.cell? ⟨g, 3, none⟩ = some d ∧ w.cell? ⟨g, 4, none⟩ = some e ∧ w.cell? ⟨g, 5, none⟩ = some f ∧ w.cell? ⟨g, 6, none⟩ = some i) ∧
    (w.frozen? ⟨g, 0, none⟩ = false ∧ w.frozen? ⟨g, 1, none⟩ = false ∧ w.frozen? ⟨g, 2, none⟩ = false ∧ w.frozen? ⟨g, 3, none⟩ = false ∧ w.frozen? ⟨g, 4, none⟩ = false ∧ w.frozen? ⟨g, 5, none⟩ = false ∧ w.frozen? ⟨g, 6, none⟩ = false) ∧ g < w.heap.size :=
  ⟨⟨cell_of_row w g 0 _ t _ h, cell_of_row w g 1 _ t _ h, cell_of_row w g 2 _ t _ h, cell_of_row w g 3 _ t _ h, cell_of_row w g 4 _ t _ h, cell_of_row w g 5 _ t _ h, cell_of_row w g 6 _ t _ h⟩,
    ⟨frozen_of_row w g 0 _ t h, frozen_of_row w g 1 _ t h, frozen_of_row w g 2 _ t h, frozen_of_row w g 3 _ t h, frozen_of_row w g 4 _ t h, frozen_of_row w g 5 _ t h, frozen_of_row w g 6 _ t h⟩, (Array.getElem?_eq_some_iff.1 h).1⟩
theorem parseK_len {k : Int} (h : It.isLen k = true) (m d : List UInt8) (b : Bool) (hb : (Fig.nameB m && Fig.parseB d 1099511627776 && decide (0 < Fig.parseN d 1099511627776)) = b) :
    (It.parseK k [m, d]).isSome = b ∧ ∀ z, It.parseK k [m, d] = some z → (⟨k, m, Fig.parseN d 1099511627776, It.Tp.zero, It.Tp.zero⟩ : It.Itm) = z := by
  subst hb
  have e : It.parseK k [m, d] = if (Fig.nameB m && Fig.parseB d 1099511627776 && decide (0 < Fig.parseN d 1099511627776)) = true then some ⟨k, m, Fig.parseN d 1099511627776, It.Tp.zero, It.Tp.zero⟩ else none := by
    simp only [It.parseK, len_num h, h]; rfl
  rw [e]
  split
  · rename_i hb; rw [hb]; exact ⟨rfl, fun z hz => Option.some.inj hz⟩
  · rename_i hb; exact ⟨by simpa using hb, fun z hz => by cases hz⟩
end Go.Proofs.Ytbmmcmdopekccaa
/-
  The walk of layer 3's Parse.
-/
namespace Go.Proofs.Ytbmmcmdopekccaa
open Go.RowKit

theorem join_mem (c : UInt8) : ∀ (D : List (List UInt8)) (r x : List UInt8), x ∈ D ++ [r] → x.length ≤ ((D.map (· ++ [c])).flatten ++ r).length
  | [], r, x, h => by simp at h; subst h; simp
  | d :: D, r, x, h => by
    rcases List.mem_cons.1 (by simpa using h : x ∈ d :: (D ++ [r])) with rfl | h2
    · simp <;> omega
    · have := join_mem c D r x h2
      simp only [List.map_cons, List.flatten_cons, List.length_append] at this ⊢; omega
theorem words_le (l : List UInt8) (h : Ln.ws true l = true) : ∀ x ∈ Ln.words l, x.length ≤ l.length := fun x hx => by
  obtain ⟨hl, hne⟩ := Ln.line_words l h
  obtain ⟨D, r, hD⟩ : ∃ D r, Ln.words l = D ++ [r] := ⟨(Ln.words l).dropLast, (Ln.words l).getLast hne, (List.dropLast_concat_getLast hne).symm⟩
  have := join_mem 32 D r x (by rw [← hD]; exact hx)
  rw [hD, Ln.line, Ln.join_snoc] at hl
  rwa [hl] at this
theorem words_len (l : List UInt8) : (Ln.words l).length ≤ l.length + 1 := by
  unfold Ln.words
  split
  · have := Ln.st_len 32 l
    simp [Ln.cut]; omega
  · simp
theorem kind_bd (l : List UInt8) : 0 ≤ It.kind l ∧ It.kind l ≤ 9 := by
  rcases It.kind_cases l with ⟨h, _⟩ | ⟨h1, h2, _⟩
  · omega
  · omega
/-- What Parse leaves. -/
def ParseGives (p : Option It.Itm) (w : World) (e : Ending) (w' : World) : Prop :=
  ∃ y : It.Itm, e = .returned (.tuple #[.agg #[.int .i64 y.k, .string (txt y.name), .int .i64 y.n, .string (txt y.e0.n), .int .u8 y.e0.c.toNat, .string (txt y.e1.n), .int .u8 y.e1.c.toNat], .bool p.isSome]) ∧
    y = p.getD It.Itm.zero ∧ Below w.heap.size w w'
theorem ParseGives.no {p : Option It.Itm} {w w' : World} {e : Ending} (hp : p = none) (he : e = .returned (.tuple #[.agg #[.int .i64 0, .string ⟨#[]⟩, .int .i64 0, .string ⟨#[]⟩, .int .u8 0, .string ⟨#[]⟩, .int .u8 0], .bool false])) (hw : Below w.heap.size w w') : ParseGives p w e w' := by
  subst hp; exact ⟨It.Itm.zero, he, rfl, hw⟩
theorem ParseGives.yes {p : Option It.Itm} {y : It.Itm} {w w' : World} {e : Ending} (hp : p = some y) (he : e = .returned (.tuple #[.agg #[.int .i64 y.k, .string (txt y.name), .int .i64 y.n, .string (txt y.e0.n), .int .u8 y.e0.c.toNat, .string (txt y.e1.n), .int .u8 y.e1.c.toNat], .bool true])) (hw : Below w.heap.size w w') : ParseGives p w e w' := by
  subst hp; exact ⟨y, he, rfl, hw⟩
theorem parse_none {l : List UInt8} (h : Ln.ws true l = false) : It.parse l = none := by rw [It.parse, h]; rfl
theorem parse_some {l x : List UInt8} {T : List (List UInt8)} {k : Int} (h : Ln.ws true l = true) (hL : Ln.words l = x :: T) (hk : It.kind x = k) : It.parse l = It.parseK k T := by rw [It.parse, if_pos h, hL, It.parseW, hk]

theorem strs_addr {w : World} {A : Option Addr} {x : List UInt8} {T : List (List UInt8)} (h : Strs w A (x :: T)) : ∃ bk o, A = some ⟨bk, o, none⟩ := by
  obtain ⟨a, rfl, hb, hc⟩ := h 0 x rfl
  obtain ⟨bk, o, sp⟩ := a
  obtain rfl : sp = none := by simpa [Addr.add] using World.cell?_spot hc
  exact ⟨bk, o, rfl⟩
end Go.Proofs.Ytbmmcmdopekccaa
