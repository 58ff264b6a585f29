/-
  The walks of the document's answer to layer 3's Print.
-/
import Derived.Test.YtgagandecjljoaaDoorItPrint
import Derived.Deep.AppendLies
namespace Go.Proofs.YtgagandecjljoaaDoor
open Go.RowKit

theorem ownsRow_below {w w' : World} {base : Nat} {e : TypeId} {size : Nat} {v : Value} {n : Nat} {xs : List Value} (h : w.ownsRow base e size v n xs) (hb : Below w.heap.size w w') : w'.ownsRow base e size v n xs := by
  refine ⟨h.1, ?_⟩
  rcases h.2 with hn | ⟨g, cap, cur, rfl, hbb, hgg, rest⟩
  · exact .inl hn
  · exact .inr ⟨g, cap, cur, rfl, hbb, by rw [hb.block g (Array.getElem?_eq_some_iff.1 hgg).1]; exact hgg, rest⟩
theorem rprint_all (n : Int) (w : World) (h0 : 0 ≤ n) (h1 : n ≤ 9223372036854775807) :
    Calls Tryd.prog 40 #[.int .i64 n] w fun e w' => e = .returned (.string (txt (Lib.decDigits n.toNat))) ∧ Below w.heap.size w w' := rprint_any n.toNat n w h0 (by omega) h1
/-- The line of the words that an owned row holds, whatever it was made of. -/
theorem rline_own (x : List UInt8) (T : List (List UInt8)) (w : World) (base : Nat) (v : Value) (n : Nat) (xs : List Value) (h : w.ownsRow base 9 1 v n xs) (hx : xs = (x :: T).map str) (hT : T.length ≤ 2) (hl : (Ln.line (x :: T)).length ≤ 10000000) :
    Calls Tryd.prog 42 #[v] w fun e w' => e = .returned (.string (txt (Ln.line (x :: T)))) ∧ w = w' := by
  subst hx
  obtain ⟨hn2, A4, c4, rfl, hcap2, hs2⟩ := Strs.of_own h
  have := rline_any A4 c4 (x :: T) w hs2 (by simp; omega) hl
  rwa [← hn2] at this
theorem news2 {w : World} {x y : Value} : ∀ j u, [x, y][j]? = some u → (w.alloc (.cells #[x, y] 9)).cell? ((⟨w.heap.size, 0, none⟩ : Addr).add j) = some u := fun j u hu => by
  rw [Go.WideShapes.add_plain, Nat.zero_add, cell_of_row _ _ _ _ _ _ (heap_alloc_new w _)]
  simpa using hu
set_option maxHeartbeats 4000000 in
set_option maxRecDepth 100000 in
theorem riprint_num (k : Int) (hk : It.isNum k = true) (nm : ByteArray) (n : Int) (a : ByteArray) (ac : UInt8) (b : ByteArray) (bc : UInt8) (w : World) (h0 : 0 ≤ n) (h1 : n ≤ 9223372036854775807) :
    Calls Tryd.prog 21 #[.agg #[.int .i64 k, .string nm, .int .i64 n, .string a, .int .u8 ac.toNat, .string b, .int .u8 bc.toNat]] w fun e w' => e = .returned (.string (txt (It.print (ofV k nm n a ac b bc)))) ∧ Below w.heap.size w w' := by
  have HP := Lib.hid (print_num hk nm n a ac b bc)
  have hV := Lib.hid (((Below.refl w.heap.size w).alloc (Nat.le_refl _) (.cells #[.int .i64 k, .string nm, .int .i64 n, .string a, .int .u8 ac.toNat, .string b, .int .u8 bc.toNat] 38)).alloc (by simp) (.cells #[.string (txt (It.word k))] 9))
  have hV2 := Lib.hid (show w.heap.size ≤ ((w.alloc (.cells #[.int .i64 k, .string nm, .int .i64 n, .string a, .int .u8 ac.toNat, .string b, .int .u8 bc.toNat] 38)).alloc (.cells #[.string (txt (It.word k))] 9)).heap.size by simp; omega)
  have HO := Lib.hid (fun W (h : Below ((w.alloc (.cells #[.int .i64 k, .string nm, .int .i64 n, .string a, .int .u8 ac.toNat, .string b, .int .u8 bc.toNat] 38)).alloc (.cells #[.string (txt (It.word k))] 9)).heap.size ((w.alloc (.cells #[.int .i64 k, .string nm, .int .i64 n, .string a, .int .u8 ac.toNat, .string b, .int .u8 bc.toNat] 38)).alloc (.cells #[.string (txt (It.word k))] 9)) W) => show W.ownsRow w.heap.size 9 1 (.slice (some ⟨w.heap.size + 1, 0, none⟩) 1 1) 1 [.string (txt (It.word k))] from by
    have := ownsRow_below (World.ownsRow_lit (base := w.heap.size) (e := 9) (size := 1) (w.alloc (.cells #[.int .i64 k, .string nm, .int .i64 n, .string a, .int .u8 ac.toNat, .string b, .int .u8 bc.toNat] 38)) #[.string (txt (It.word k))] 1 (by simp) (by unfold maxLen; omega) rfl) h
    rwa [show (w.alloc (.cells #[.int .i64 k, .string nm, .int .i64 n, .string a, .int .u8 ac.toNat, .string b, .int .u8 bc.toNat] 38)).heap.size = w.heap.size + 1 by simp] at this)
  have C := Lib.hid (fun w => rword_any k w)
  obtain ⟨i0, hi, hz0, hz1, hz2⟩ := info_parts infoStr
  have HF := Lib.hid (fun W (h : Below ((w.alloc (.cells #[.int .i64 k, .string nm, .int .i64 n, .string a, .int .u8 ac.toNat, .string b, .int .u8 bc.toNat] 38)).alloc (.cells #[.string (txt (It.word k))] 9)).heap.size ((w.alloc (.cells #[.int .i64 k, .string nm, .int .i64 n, .string a, .int .u8 ac.toNat, .string b, .int .u8 bc.toNat] 38)).alloc (.cells #[.string (txt (It.word k))] 9)) W) => Made.of h (rprint_all n W h0 h1))
  have HL := Lib.hid (fun W v m0 xs (h : World.ownsRow W w.heap.size 9 1 v m0 xs) (hx : xs = ([It.word k, Lib.decDigits n.toNat] : List (List UInt8)).map str) => rline_own (It.word k) [Lib.decDigits n.toNat] W w.heap.size v m0 xs h hx (by simp) (line2_le k _ (Nat.le_trans (dec_l20 h0 h1) (by decide))))
  have hk' := num_ways hk
  clear hk h0 h1
  rcases hk' with e1 | ⟨e1, e2⟩ | ⟨e1, e2, e3⟩ | ⟨e1, e2, e3, e4⟩
  all_goals
    go_enter Tryd.func21, Tryd.ntmps21
    go_wp2_with fail
    refine (C.out _).mono ?_; rintro e w0 ⟨rfl, rfl⟩
    go_wp2_with fail
    refine (HF.out _ (Below.refl _ _)).mono ?_; rintro e w2 ⟨rfl, hb, hacc, hz⟩; have hcell := (bcell hb).1; have hz : w.heap.size + 1 < w2.heap.size := by ((try simp at hz); omega)
    go_wp2_with (at_builtin; go_loud (refine wpList_append_own _ rfl (.tmp 15) (.tmp 19) 39 rfl w.heap.size 9 i0 (.string ByteArray.empty) 1 16 Tryd.underlying39 hi hz0 hz1 hz2 rfl (by decide) _ _ _ rfl ((HO.out _ hacc).alloc _) ⟨w2.heap.size, 0, none⟩ 1 1 [.string (txt (Lib.decDigits n.toNat))] rfl rfl (cell_one_new _ _ _) (fun x hx => by simp at hx; subst hx; rfl) (by unfold maxLen; omega) (by omega) (by simp; omega) ?_; intro v1 w3 hown1 hg1 _))
    have hbF := Lib.hid (((hV.out.trans (hacc.mono hV2.out)).alloc (by omega) _).grown hg1 (by simp; omega) (fun g hg => (((HO.out _ hacc).alloc (.cells #[.string (txt (Lib.decDigits n.toNat))] 9)).lt g hg).1))
    have LL := Lib.hid (HL.out _ _ _ _ hown1 (by first | (simp [str]; done) | simp [str, txt_of]))
    clear hown1 hg1 HO HL hV hV2
    go_wp2_with fail
    refine LL.out.mono ?_; rintro e w9 ⟨rfl, rfl⟩
    go_wp2_with fail
    go_ret
    exact ⟨retP HP.out.symm, hbF.out⟩
set_option maxHeartbeats 4000000 in
set_option maxRecDepth 100000 in
theorem riprint_len (k : Int) (hk : It.isLen k = true) (nm : ByteArray) (n : Int) (a : ByteArray) (ac : UInt8) (b : ByteArray) (bc : UInt8) (w : World) (h0 : 0 ≤ n) (h1 : n ≤ 9223372036854775807) (hn : nm.size ≤ 1000) :
    Calls Tryd.prog 21 #[.agg #[.int .i64 k, .string nm, .int .i64 n, .string a, .int .u8 ac.toNat, .string b, .int .u8 bc.toNat]] w fun e w' => e = .returned (.string (txt (It.print (ofV k nm n a ac b bc)))) ∧ Below w.heap.size w w' := by
  have HP := Lib.hid (print_len (len_num hk) hk nm n a ac b bc)
  have hV := Lib.hid (((Below.refl w.heap.size w).alloc (Nat.le_refl _) (.cells #[.int .i64 k, .string nm, .int .i64 n, .string a, .int .u8 ac.toNat, .string b, .int .u8 bc.toNat] 38)).alloc (by simp) (.cells #[.string (txt (It.word k))] 9))
  have hV2 := Lib.hid (show w.heap.size ≤ ((w.alloc (.cells #[.int .i64 k, .string nm, .int .i64 n, .string a, .int .u8 ac.toNat, .string b, .int .u8 bc.toNat] 38)).alloc (.cells #[.string (txt (It.word k))] 9)).heap.size by simp; omega)
  have HO := Lib.hid (fun W (h : Below ((w.alloc (.cells #[.int .i64 k, .string nm, .int .i64 n, .string a, .int .u8 ac.toNat, .string b, .int .u8 bc.toNat] 38)).alloc (.cells #[.string (txt (It.word k))] 9)).heap.size ((w.alloc (.cells #[.int .i64 k, .string nm, .int .i64 n, .string a, .int .u8 ac.toNat, .string b, .int .u8 bc.toNat] 38)).alloc (.cells #[.string (txt (It.word k))] 9)) W) => show W.ownsRow w.heap.size 9 1 (.slice (some ⟨w.heap.size + 1, 0, none⟩) 1 1) 1 [.string (txt (It.word k))] from by
    have := ownsRow_below (World.ownsRow_lit (base := w.heap.size) (e := 9) (size := 1) (w.alloc (.cells #[.int .i64 k, .string nm, .int .i64 n, .string a, .int .u8 ac.toNat, .string b, .int .u8 bc.toNat] 38)) #[.string (txt (It.word k))] 1 (by simp) (by unfold maxLen; omega) rfl) h
    rwa [show (w.alloc (.cells #[.int .i64 k, .string nm, .int .i64 n, .string a, .int .u8 ac.toNat, .string b, .int .u8 bc.toNat] 38)).heap.size = w.heap.size + 1 by simp] at this)
  have C := Lib.hid (fun w => rword_any k w)
  obtain ⟨i0, hi, hz0, hz1, hz2⟩ := info_parts infoStr
  have HF := Lib.hid (fun W (h : Below ((w.alloc (.cells #[.int .i64 k, .string nm, .int .i64 n, .string a, .int .u8 ac.toNat, .string b, .int .u8 bc.toNat] 38)).alloc (.cells #[.string (txt (It.word k))] 9)).heap.size ((w.alloc (.cells #[.int .i64 k, .string nm, .int .i64 n, .string a, .int .u8 ac.toNat, .string b, .int .u8 bc.toNat] 38)).alloc (.cells #[.string (txt (It.word k))] 9)) W) => Made.of h (rprint_all n W h0 h1))
  have HL := Lib.hid (fun W v m0 xs (h : World.ownsRow W w.heap.size 9 1 v m0 xs) (hx : xs = ([It.word k, nm.data.toList, Lib.decDigits n.toNat] : List (List UInt8)).map str) => rline_own (It.word k) [nm.data.toList, Lib.decDigits n.toNat] W w.heap.size v m0 xs h hx (by simp) (line3_le k _ _ (by simp; omega) (Nat.le_trans (dec_l20 h0 h1) (by decide))))
  obtain ⟨e1, e2, e3, e4, hk'⟩ := len_ways hk
  clear hk h0 h1 hn
  rcases hk' with e5 | ⟨e5, e6⟩
  all_goals
    go_enter Tryd.func21, Tryd.ntmps21
    go_wp2_with fail
    refine (C.out _).mono ?_; rintro e w0 ⟨rfl, rfl⟩
    go_wp2_with fail
    go_region_held3 (fun w' => w'.cell? ⟨w.heap.size, 1, none⟩ = some (.string nm) ∧ w'.cell? ⟨w.heap.size, 2, none⟩ = some (.int .i64 n))
      (refine ⟨?_, ?_⟩ <;> (go_keep; done))
      (first
        | (go_at_call 40; (with_reducible refine (HF.out _ (Below.refl _ _).drew).mono ?_); rintro e w2 ⟨rfl, hb, hacc, hz⟩; have hcell := fun o => hb.cell (p := ⟨w.heap.size, o, none⟩) (by first | (simp; done) | ((try simp); omega)); have hz : w.heap.size + 1 < w2.heap.size := by ((try simp at hz); omega))
        | (refine step_append_lies _ (by rfl) (.tmp 24) (.tmp 30) 39 (by rfl) w.heap.size 9 i0 (.string ByteArray.empty) 1 16 Tryd.underlying39 hi hz0 hz1 hz2 rfl (by omega) (.slice (some ⟨w.heap.size + 1, 0, none⟩) 1 1) 1 _ (by rfl) ((HO.out _ hacc).alloc _) ⟨w2.heap.size, 0, none⟩ 2 2 [.string nm, .string (txt (Lib.decDigits n.toNat))] (by rfl) (by rfl) (World.news_of_block (heap_alloc_new w2 (.cells #[.string nm, .string (txt (Lib.decDigits n.toNat))] 9))) (by simp [Value.oneCell']) (by omega) (by unfold maxLen; omega) (by omega) (by simp; omega) (w2.heap.size + 1) (by simp) ?_; intro gg cap w3 hown1 hg1 hat hlt; have hbF := Lib.hid (((hV.out.trans (hacc.mono hV2.out)).alloc (by omega) (.cells #[.string nm, .string (txt (Lib.decDigits n.toNat))] 9)).grown hg1 (by simp; omega) (fun g hg => (((HO.out _ hacc).alloc (.cells #[.string nm, .string (txt (Lib.decDigits n.toNat))] 9)).lt g hg).1)); have hcell2 := fun o => hg1.cell_far ⟨w.heap.size, o, none⟩ (by simp; omega) (by simp [Value.ownBlock])))
    all_goals
      have LL := Lib.hid (HL.out _ _ _ _ hown1 (by first | (simp [str]; done) | simp [str, txt_of]))
      clear hown1 hg1
      go_wp2_with fail
      refine LL.out.mono ?_; rintro e w9 ⟨rfl, rfl⟩
      go_wp2_with fail
      go_ret
      exact ⟨retP HP.out.symm, hbF.out⟩
set_option maxHeartbeats 4000000 in
set_option maxRecDepth 100000 in
theorem riprint_7 (nm : ByteArray) (n : Int) (a : ByteArray) (ac : UInt8) (b : ByteArray) (bc : UInt8) (w : World) (ha : a.size ≤ 1000) (hb : b.size ≤ 1000) :
    Calls Tryd.prog 21 #[.agg #[.int .i64 7, .string nm, .int .i64 n, .string a, .int .u8 ac.toNat, .string b, .int .u8 bc.toNat]] w fun e w' => e = .returned (.string (txt (It.print (ofV 7 nm n a ac b bc)))) ∧ Below w.heap.size w w' := by
  have HP := Lib.hid (print_7 nm n a ac b bc)
  have hV := Lib.hid (((Below.refl w.heap.size w).alloc (Nat.le_refl _) (.cells #[.int .i64 7, .string nm, .int .i64 n, .string a, .int .u8 ac.toNat, .string b, .int .u8 bc.toNat] 38)).alloc (by simp) (.cells #[.string (txt (It.word 7))] 9))
  have hV2 := Lib.hid (show w.heap.size ≤ ((w.alloc (.cells #[.int .i64 7, .string nm, .int .i64 n, .string a, .int .u8 ac.toNat, .string b, .int .u8 bc.toNat] 38)).alloc (.cells #[.string (txt (It.word 7))] 9)).heap.size by simp; omega)
  have HO := Lib.hid (fun W (h : Below ((w.alloc (.cells #[.int .i64 7, .string nm, .int .i64 n, .string a, .int .u8 ac.toNat, .string b, .int .u8 bc.toNat] 38)).alloc (.cells #[.string (txt (It.word 7))] 9)).heap.size ((w.alloc (.cells #[.int .i64 7, .string nm, .int .i64 n, .string a, .int .u8 ac.toNat, .string b, .int .u8 bc.toNat] 38)).alloc (.cells #[.string (txt (It.word 7))] 9)) W) => show W.ownsRow w.heap.size 9 1 (.slice (some ⟨w.heap.size + 1, 0, none⟩) 1 1) 1 [.string (txt (It.word 7))] from by
    have := ownsRow_below (World.ownsRow_lit (base := w.heap.size) (e := 9) (size := 1) (w.alloc (.cells #[.int .i64 7, .string nm, .int .i64 n, .string a, .int .u8 ac.toNat, .string b, .int .u8 bc.toNat] 38)) #[.string (txt (It.word 7))] 1 (by simp) (by unfold maxLen; omega) rfl) h
    rwa [show (w.alloc (.cells #[.int .i64 7, .string nm, .int .i64 n, .string a, .int .u8 ac.toNat, .string b, .int .u8 bc.toNat] 38)).heap.size = w.heap.size + 1 by simp] at this)
  have C := Lib.hid (fun w => rword_any 7 w)
  obtain ⟨i0, hi, hz0, hz1, hz2⟩ := info_parts infoStr
  have HA := Lib.hid (fun W (h : Below ((w.alloc (.cells #[.int .i64 7, .string nm, .int .i64 n, .string a, .int .u8 ac.toNat, .string b, .int .u8 bc.toNat] 38)).alloc (.cells #[.string (txt (It.word 7))] 9)).heap.size ((w.alloc (.cells #[.int .i64 7, .string nm, .int .i64 n, .string a, .int .u8 ac.toNat, .string b, .int .u8 bc.toNat] 38)).alloc (.cells #[.string (txt (It.word 7))] 9)) W) => Made.of h (rend_any a ac W (by omega)))
  have HB := Lib.hid (fun W (h : Below ((w.alloc (.cells #[.int .i64 7, .string nm, .int .i64 n, .string a, .int .u8 ac.toNat, .string b, .int .u8 bc.toNat] 38)).alloc (.cells #[.string (txt (It.word 7))] 9)).heap.size ((w.alloc (.cells #[.int .i64 7, .string nm, .int .i64 n, .string a, .int .u8 ac.toNat, .string b, .int .u8 bc.toNat] 38)).alloc (.cells #[.string (txt (It.word 7))] 9)) W) => Made.of h (rend_any b bc W (by omega)))
  have HL := Lib.hid (fun W v m0 xs (h : World.ownsRow W w.heap.size 9 1 v m0 xs) (hx : xs = ([It.word 7, It.tipT ⟨a.data.toList, ac⟩, It.tipT ⟨b.data.toList, bc⟩] : List (List UInt8)).map str) => rline_own (It.word 7) [It.tipT ⟨a.data.toList, ac⟩, It.tipT ⟨b.data.toList, bc⟩] W w.heap.size v m0 xs h hx (by simp) (line3_le 7 _ _ (tipT_le a ac ha) (tipT_le b bc hb)))
  clear ha hb
  go_enter Tryd.func21, Tryd.ntmps21
  go_wp2_with fail
  refine (C.out _).mono ?_; rintro e w0 ⟨rfl, rfl⟩
  go_wp2_with fail
  go_region_held3 (fun w' => w'.cell? ⟨w.heap.size, 3, none⟩ = some (.string a) ∧ w'.cell? ⟨w.heap.size, 4, none⟩ = some (.int .u8 ac.toNat) ∧ w'.cell? ⟨w.heap.size, 5, none⟩ = some (.string b) ∧ w'.cell? ⟨w.heap.size, 6, none⟩ = some (.int .u8 bc.toNat))
    (refine ⟨?_, ?_, ?_, ?_⟩ <;> (go_keep; done))
    (first
      | (go_at_call 41; (with_reducible refine (HA.out _ hacc).mono ?_); rintro e w2 ⟨rfl, hb, hacc, hz⟩; have hcell := fun o => hb.cell (p := ⟨w.heap.size, o, none⟩) (by first | (simp; done) | ((try simp); omega)); have hz : w.heap.size + 1 < w2.heap.size := by ((try simp at hz); omega))
      | (go_at_call 41; (with_reducible refine (HB.out _ hacc).mono ?_); rintro e w2 ⟨rfl, hb, hacc, hz⟩; have hcell := fun o => hb.cell (p := ⟨w.heap.size, o, none⟩) (by first | (simp; done) | ((try simp); omega)); have hz : w.heap.size + 1 < w2.heap.size := by ((try simp at hz); omega))
      | (go_at_call 41; (with_reducible refine (HA.out _ (Below.refl _ _).drew).mono ?_); rintro e w2 ⟨rfl, hb, hacc, hz⟩; have hcell := fun o => hb.cell (p := ⟨w.heap.size, o, none⟩) (by first | (simp; done) | ((try simp); omega)); have hz : w.heap.size + 1 < w2.heap.size := by ((try simp at hz); omega))
      | (go_at_call 41; (with_reducible refine (HB.out _ (Below.refl _ _).drew).mono ?_); rintro e w2 ⟨rfl, hb, hacc, hz⟩; have hcell := fun o => hb.cell (p := ⟨w.heap.size, o, none⟩) (by first | (simp; done) | ((try simp); omega)); have hz : w.heap.size + 1 < w2.heap.size := by ((try simp at hz); omega))
      | (refine step_append_lies _ (by rfl) (.tmp 54) (.tmp 63) 39 (by rfl) w.heap.size 9 i0 (.string ByteArray.empty) 1 16 Tryd.underlying39 hi hz0 hz1 hz2 rfl (by omega) (.slice (some ⟨w.heap.size + 1, 0, none⟩) 1 1) 1 _ (by rfl) ((HO.out _ hacc).alloc _) ⟨w2.heap.size, 0, none⟩ 2 2 [.string (txt (It.tipT ⟨a.data.toList, ac⟩)), .string (txt (It.tipT ⟨b.data.toList, bc⟩))] (by rfl) (by rfl) (World.news_of_block (heap_alloc_new w2 (.cells #[.string (txt (It.tipT ⟨a.data.toList, ac⟩)), .string (txt (It.tipT ⟨b.data.toList, bc⟩))] 9))) (by simp [Value.oneCell']) (by omega) (by unfold maxLen; omega) (by omega) (by simp; omega) (w2.heap.size + 1) (by simp) ?_; intro gg cap w3 hown1 hg1 hat hlt; have hbF := Lib.hid (((hV.out.trans (hacc.mono hV2.out)).alloc (by omega) (.cells #[.string (txt (It.tipT ⟨a.data.toList, ac⟩)), .string (txt (It.tipT ⟨b.data.toList, bc⟩))] 9)).grown hg1 (by simp; omega) (fun g hg => (((HO.out _ hacc).alloc (.cells #[.string (txt (It.tipT ⟨a.data.toList, ac⟩)), .string (txt (It.tipT ⟨b.data.toList, bc⟩))] 9)).lt g hg).1)); have hcell2 := fun o => hg1.cell_far ⟨w.heap.size, o, none⟩ (by simp; omega) (by simp [Value.ownBlock])))
  all_goals
    have LL := Lib.hid (HL.out _ _ _ _ hown1 (by first | (simp [str]; done) | simp [str, txt_of]))
    clear hown1 hg1
    go_wp2_with fail
    refine LL.out.mono ?_; rintro e w9 ⟨rfl, rfl⟩
    go_wp2_with fail
    go_ret
    exact ⟨retP HP.out.symm, hbF.out⟩
set_option maxHeartbeats 4000000 in
set_option maxRecDepth 100000 in
theorem riprint_9 (nm : ByteArray) (n : Int) (a : ByteArray) (ac : UInt8) (b : ByteArray) (bc : UInt8) (w : World) (hn : nm.size ≤ 1000) (ha : a.size ≤ 1000) :
    Calls Tryd.prog 21 #[.agg #[.int .i64 9, .string nm, .int .i64 n, .string a, .int .u8 ac.toNat, .string b, .int .u8 bc.toNat]] w fun e w' => e = .returned (.string (txt (It.print (ofV 9 nm n a ac b bc)))) ∧ Below w.heap.size w w' := by
  have HP := Lib.hid (print_9 nm n a ac b bc)
  have hV := Lib.hid (((Below.refl w.heap.size w).alloc (Nat.le_refl _) (.cells #[.int .i64 9, .string nm, .int .i64 n, .string a, .int .u8 ac.toNat, .string b, .int .u8 bc.toNat] 38)).alloc (by simp) (.cells #[.string (txt (It.word 9))] 9))
  have hV2 := Lib.hid (show w.heap.size ≤ ((w.alloc (.cells #[.int .i64 9, .string nm, .int .i64 n, .string a, .int .u8 ac.toNat, .string b, .int .u8 bc.toNat] 38)).alloc (.cells #[.string (txt (It.word 9))] 9)).heap.size by simp; omega)
  have HO := Lib.hid (fun W (h : Below ((w.alloc (.cells #[.int .i64 9, .string nm, .int .i64 n, .string a, .int .u8 ac.toNat, .string b, .int .u8 bc.toNat] 38)).alloc (.cells #[.string (txt (It.word 9))] 9)).heap.size ((w.alloc (.cells #[.int .i64 9, .string nm, .int .i64 n, .string a, .int .u8 ac.toNat, .string b, .int .u8 bc.toNat] 38)).alloc (.cells #[.string (txt (It.word 9))] 9)) W) => show W.ownsRow w.heap.size 9 1 (.slice (some ⟨w.heap.size + 1, 0, none⟩) 1 1) 1 [.string (txt (It.word 9))] from by
    have := ownsRow_below (World.ownsRow_lit (base := w.heap.size) (e := 9) (size := 1) (w.alloc (.cells #[.int .i64 9, .string nm, .int .i64 n, .string a, .int .u8 ac.toNat, .string b, .int .u8 bc.toNat] 38)) #[.string (txt (It.word 9))] 1 (by simp) (by unfold maxLen; omega) rfl) h
    rwa [show (w.alloc (.cells #[.int .i64 9, .string nm, .int .i64 n, .string a, .int .u8 ac.toNat, .string b, .int .u8 bc.toNat] 38)).heap.size = w.heap.size + 1 by simp] at this)
  have C := Lib.hid (fun w => rword_any 9 w)
  obtain ⟨i0, hi, hz0, hz1, hz2⟩ := info_parts infoStr
  have HA := Lib.hid (fun W (h : Below ((w.alloc (.cells #[.int .i64 9, .string nm, .int .i64 n, .string a, .int .u8 ac.toNat, .string b, .int .u8 bc.toNat] 38)).alloc (.cells #[.string (txt (It.word 9))] 9)).heap.size ((w.alloc (.cells #[.int .i64 9, .string nm, .int .i64 n, .string a, .int .u8 ac.toNat, .string b, .int .u8 bc.toNat] 38)).alloc (.cells #[.string (txt (It.word 9))] 9)) W) => Made.of h (rend_any a ac W (by omega)))
  have HL := Lib.hid (fun W v m0 xs (h : World.ownsRow W w.heap.size 9 1 v m0 xs) (hx : xs = ([It.word 9, nm.data.toList, It.tipT ⟨a.data.toList, ac⟩] : List (List UInt8)).map str) => rline_own (It.word 9) [nm.data.toList, It.tipT ⟨a.data.toList, ac⟩] W w.heap.size v m0 xs h hx (by simp) (line3_le 9 _ _ (by simp; omega) (tipT_le a ac ha)))
  clear ha hn
  go_enter Tryd.func21, Tryd.ntmps21
  go_wp2_with fail
  refine (C.out _).mono ?_; rintro e w0 ⟨rfl, rfl⟩
  go_wp2_with fail
  go_region_held3 (fun w' => w'.cell? ⟨w.heap.size, 1, none⟩ = some (.string nm) ∧ w'.cell? ⟨w.heap.size, 3, none⟩ = some (.string a) ∧ w'.cell? ⟨w.heap.size, 4, none⟩ = some (.int .u8 ac.toNat))
    (refine ⟨?_, ?_, ?_⟩ <;> (go_keep; done))
    (first
      | (go_at_call 41; (with_reducible refine (HA.out _ (Below.refl _ _).drew).mono ?_); rintro e w2 ⟨rfl, hb, hacc, hz⟩; have hcell := fun o => hb.cell (p := ⟨w.heap.size, o, none⟩) (by first | (simp; done) | ((try simp); omega)); have hz : w.heap.size + 1 < w2.heap.size := by ((try simp at hz); omega))
      | (refine step_append_lies _ (by rfl) (.tmp 34) (.tmp 41) 39 (by rfl) w.heap.size 9 i0 (.string ByteArray.empty) 1 16 Tryd.underlying39 hi hz0 hz1 hz2 rfl (by omega) (.slice (some ⟨w.heap.size + 1, 0, none⟩) 1 1) 1 _ (by rfl) ((HO.out _ hacc).alloc _) ⟨w2.heap.size, 0, none⟩ 2 2 [.string nm, .string (txt (It.tipT ⟨a.data.toList, ac⟩))] (by rfl) (by rfl) (World.news_of_block (heap_alloc_new w2 (.cells #[.string nm, .string (txt (It.tipT ⟨a.data.toList, ac⟩))] 9))) (by simp [Value.oneCell']) (by omega) (by unfold maxLen; omega) (by omega) (by simp; omega) (w2.heap.size + 1) (by simp) ?_; intro gg cap w3 hown1 hg1 hat hlt; have hbF := Lib.hid (((hV.out.trans (hacc.mono hV2.out)).alloc (by omega) (.cells #[.string nm, .string (txt (It.tipT ⟨a.data.toList, ac⟩))] 9)).grown hg1 (by simp; omega) (fun g hg => (((HO.out _ hacc).alloc (.cells #[.string nm, .string (txt (It.tipT ⟨a.data.toList, ac⟩))] 9)).lt g hg).1)); have hcell2 := fun o => hg1.cell_far ⟨w.heap.size, o, none⟩ (by simp; omega) (by simp [Value.ownBlock])))
  all_goals
    have LL := Lib.hid (HL.out _ _ _ _ hown1 (by first | (simp [str]; done) | simp [str, txt_of]))
    clear hown1 hg1
    go_wp2_with fail
    refine LL.out.mono ?_; rintro e w9 ⟨rfl, rfl⟩
    go_wp2_with fail
    go_ret
    exact ⟨retP HP.out.symm, hbF.out⟩
set_option maxHeartbeats 4000000 in
set_option maxRecDepth 100000 in
theorem riprint_8 (nm : ByteArray) (n : Int) (a : ByteArray) (ac : UInt8) (b : ByteArray) (bc : UInt8) (w : World) (ha : a.size ≤ 1000) :
    Calls Tryd.prog 21 #[.agg #[.int .i64 8, .string nm, .int .i64 n, .string a, .int .u8 ac.toNat, .string b, .int .u8 bc.toNat]] w fun e w' => e = .returned (.string (txt (It.print (ofV 8 nm n a ac b bc)))) ∧ Below w.heap.size w w' := by
  have HP := Lib.hid (print_8 nm n a ac b bc)
  have hV := Lib.hid (((Below.refl w.heap.size w).alloc (Nat.le_refl _) (.cells #[.int .i64 8, .string nm, .int .i64 n, .string a, .int .u8 ac.toNat, .string b, .int .u8 bc.toNat] 38)).alloc (by simp) (.cells #[.string (txt (It.word 8))] 9))
  have hV2 := Lib.hid (show w.heap.size ≤ ((w.alloc (.cells #[.int .i64 8, .string nm, .int .i64 n, .string a, .int .u8 ac.toNat, .string b, .int .u8 bc.toNat] 38)).alloc (.cells #[.string (txt (It.word 8))] 9)).heap.size by simp; omega)
  have HO := Lib.hid (fun W (h : Below ((w.alloc (.cells #[.int .i64 8, .string nm, .int .i64 n, .string a, .int .u8 ac.toNat, .string b, .int .u8 bc.toNat] 38)).alloc (.cells #[.string (txt (It.word 8))] 9)).heap.size ((w.alloc (.cells #[.int .i64 8, .string nm, .int .i64 n, .string a, .int .u8 ac.toNat, .string b, .int .u8 bc.toNat] 38)).alloc (.cells #[.string (txt (It.word 8))] 9)) W) => show W.ownsRow w.heap.size 9 1 (.slice (some ⟨w.heap.size + 1, 0, none⟩) 1 1) 1 [.string (txt (It.word 8))] from by
    have := ownsRow_below (World.ownsRow_lit (base := w.heap.size) (e := 9) (size := 1) (w.alloc (.cells #[.int .i64 8, .string nm, .int .i64 n, .string a, .int .u8 ac.toNat, .string b, .int .u8 bc.toNat] 38)) #[.string (txt (It.word 8))] 1 (by simp) (by unfold maxLen; omega) rfl) h
    rwa [show (w.alloc (.cells #[.int .i64 8, .string nm, .int .i64 n, .string a, .int .u8 ac.toNat, .string b, .int .u8 bc.toNat] 38)).heap.size = w.heap.size + 1 by simp] at this)
  have C := Lib.hid (fun w => rword_any 8 w)
  obtain ⟨i0, hi, hz0, hz1, hz2⟩ := info_parts infoStr
  have HF := Lib.hid (fun W (h : Below ((w.alloc (.cells #[.int .i64 8, .string nm, .int .i64 n, .string a, .int .u8 ac.toNat, .string b, .int .u8 bc.toNat] 38)).alloc (.cells #[.string (txt (It.word 8))] 9)).heap.size ((w.alloc (.cells #[.int .i64 8, .string nm, .int .i64 n, .string a, .int .u8 ac.toNat, .string b, .int .u8 bc.toNat] 38)).alloc (.cells #[.string (txt (It.word 8))] 9)) W) => Made.of h (rend_any a ac W (by omega)))
  have HL := Lib.hid (fun W v m0 xs (h : World.ownsRow W w.heap.size 9 1 v m0 xs) (hx : xs = ([It.word 8, It.tipT ⟨a.data.toList, ac⟩] : List (List UInt8)).map str) => rline_own (It.word 8) [It.tipT ⟨a.data.toList, ac⟩] W w.heap.size v m0 xs h hx (by simp) (line2_le 8 _ (tipT_le a ac ha)))
  clear ha
  go_enter Tryd.func21, Tryd.ntmps21
  go_wp2_with fail
  refine (C.out _).mono ?_; rintro e w0 ⟨rfl, rfl⟩
  go_wp2_with fail
  refine (HF.out _ (Below.refl _ _)).mono ?_; rintro e w2 ⟨rfl, hb, hacc, hz⟩; have hcell := (bcell hb).1; have hz : w.heap.size + 1 < w2.heap.size := by ((try simp at hz); omega)
  go_wp2_with (at_builtin; go_loud (refine wpList_append_own _ rfl (.tmp 45) (.tmp 50) 39 rfl w.heap.size 9 i0 (.string ByteArray.empty) 1 16 Tryd.underlying39 hi hz0 hz1 hz2 rfl (by decide) _ _ _ rfl ((HO.out _ hacc).alloc _) ⟨w2.heap.size, 0, none⟩ 1 1 [.string (txt (It.tipT ⟨a.data.toList, ac⟩))] rfl rfl (cell_one_new _ _ _) (fun x hx => by simp at hx; subst hx; rfl) (by unfold maxLen; omega) (by omega) (by simp; omega) ?_; intro v1 w3 hown1 hg1 _))
  have hbF := Lib.hid (((hV.out.trans (hacc.mono hV2.out)).alloc (by omega) _).grown hg1 (by simp; omega) (fun g hg => (((HO.out _ hacc).alloc (.cells #[.string (txt (It.tipT ⟨a.data.toList, ac⟩))] 9)).lt g hg).1))
  have LL := Lib.hid (HL.out _ _ _ _ hown1 (by first | (simp [str]; done) | simp [str, txt_of]))
  clear hown1 hg1 HO HL hV hV2
  go_wp2_with fail
  refine LL.out.mono ?_; rintro e w9 ⟨rfl, rfl⟩
  go_wp2_with fail
  go_ret
  exact ⟨retP HP.out.symm, hbF.out⟩
set_option maxHeartbeats 4000000 in
set_option maxRecDepth 100000 in
theorem riprint_no (k : Int) (hk : ¬ (1 ≤ k ∧ k ≤ 9)) (nm : ByteArray) (n : Int) (a : ByteArray) (ac : UInt8) (b : ByteArray) (bc : UInt8) (w : World) :
    Calls Tryd.prog 21 #[.agg #[.int .i64 k, .string nm, .int .i64 n, .string a, .int .u8 ac.toNat, .string b, .int .u8 bc.toNat]] w fun e w' => e = .returned (.string (txt (It.print (ofV k nm n a ac b bc)))) ∧ Below w.heap.size w w' := by
  have HP := Lib.hid (ofV_k k nm n a ac b bc hk)
  have HW := Lib.hid (show It.word k = [] from word_none (by omega) (by omega) (by omega) (by omega) (by omega) (by omega) (by omega) (by omega) (by omega))
  have hV := Lib.hid (((Below.refl w.heap.size w).alloc (Nat.le_refl _) (.cells #[.int .i64 k, .string nm, .int .i64 n, .string a, .int .u8 ac.toNat, .string b, .int .u8 bc.toNat] 38)).alloc (by simp) (.cells #[.string (txt (It.word k))] 9))
  have hV2 := Lib.hid (show w.heap.size ≤ ((w.alloc (.cells #[.int .i64 k, .string nm, .int .i64 n, .string a, .int .u8 ac.toNat, .string b, .int .u8 bc.toNat] 38)).alloc (.cells #[.string (txt (It.word k))] 9)).heap.size by simp; omega)
  have HO := Lib.hid (fun W (h : Below ((w.alloc (.cells #[.int .i64 k, .string nm, .int .i64 n, .string a, .int .u8 ac.toNat, .string b, .int .u8 bc.toNat] 38)).alloc (.cells #[.string (txt (It.word k))] 9)).heap.size ((w.alloc (.cells #[.int .i64 k, .string nm, .int .i64 n, .string a, .int .u8 ac.toNat, .string b, .int .u8 bc.toNat] 38)).alloc (.cells #[.string (txt (It.word k))] 9)) W) => show W.ownsRow w.heap.size 9 1 (.slice (some ⟨w.heap.size + 1, 0, none⟩) 1 1) 1 [.string (txt (It.word k))] from by
    have := ownsRow_below (World.ownsRow_lit (base := w.heap.size) (e := 9) (size := 1) (w.alloc (.cells #[.int .i64 k, .string nm, .int .i64 n, .string a, .int .u8 ac.toNat, .string b, .int .u8 bc.toNat] 38)) #[.string (txt (It.word k))] 1 (by simp) (by unfold maxLen; omega) rfl) h
    rwa [show (w.alloc (.cells #[.int .i64 k, .string nm, .int .i64 n, .string a, .int .u8 ac.toNat, .string b, .int .u8 bc.toNat] 38)).heap.size = w.heap.size + 1 by simp] at this)
  have C := Lib.hid (fun w => rword_any k w)
  obtain ⟨i0, hi, hz0, hz1, hz2⟩ := info_parts infoStr
  have HL := Lib.hid (fun W v m0 xs (h : World.ownsRow W w.heap.size 9 1 v m0 xs) (hx : xs = ([It.word k] : List (List UInt8)).map str) => rline_own (It.word k) [] W w.heap.size v m0 xs h hx (by simp) (by simp [Ln.line, Lib.join]; have := word_le k; omega))
  have h1 : (k == 1) = false := ib_f (by omega)
  have h2 : (k == 2) = false := ib_f (by omega)
  have h3 : (k == 3) = false := ib_f (by omega)
  have h4 : (k == 4) = false := ib_f (by omega)
  have h5 : (k == 5) = false := ib_f (by omega)
  have h6 : (k == 6) = false := ib_f (by omega)
  have h7 : (k == 7) = false := ib_f (by omega)
  have h8 : (k == 8) = false := ib_f (by omega)
  have h9 : (k == 9) = false := ib_f (by omega)
  have LL := Lib.hid (HL.out _ _ _ _ (HO.out _ (Below.refl _ _)) rfl)
  clear hk
  go_enter Tryd.func21, Tryd.ntmps21
  go_wp2_with fail
  refine (C.out _).mono ?_; rintro e w0 ⟨rfl, rfl⟩
  go_wp2_with fail
  refine LL.out.mono ?_; rintro e w9 ⟨rfl, rfl⟩
  go_wp2_with fail
  go_ret
  exact ⟨retP (by rw [HP.out, HW.out]; rfl), hV.out⟩
theorem riprint_any (k : Int) (nm : ByteArray) (n : Int) (a : ByteArray) (ac : UInt8) (b : ByteArray) (bc : UInt8) (w : World) (h0 : 0 ≤ n) (h1 : n ≤ 9223372036854775807) (hn : nm.size ≤ 1000) (ha : a.size ≤ 1000) (hb : b.size ≤ 1000) :
    Calls Tryd.prog 21 #[.agg #[.int .i64 k, .string nm, .int .i64 n, .string a, .int .u8 ac.toNat, .string b, .int .u8 bc.toNat]] w fun e w' => e = .returned (.string (txt (It.print (ofV k nm n a ac b bc)))) ∧ Below w.heap.size w w' := by
  by_cases hk : 1 ≤ k ∧ k ≤ 9
  · have hk' : It.isNum k = true ∨ It.isLen k = true ∨ k = 7 ∨ k = 8 ∨ k = 9 := by
      simp [It.isNum, It.isLen]; omega
    rcases hk' with h | h | rfl | rfl | rfl
    · exact riprint_num k h nm n a ac b bc w h0 h1
    · exact riprint_len k h nm n a ac b bc w h0 h1 hn
    · exact riprint_7 nm n a ac b bc w ha hb
    · exact riprint_8 nm n a ac b bc w ha
    · exact riprint_9 nm n a ac b bc w hn ha
  · exact riprint_no k hk nm n a ac b bc w
end Go.Proofs.YtgagandecjljoaaDoor

