/-
  The walk of the law SheetBack: it returns true.
-/
import Derived.Test.YtgagandecjljoaaDoorSheetJoinsWalk
namespace Go.Proofs.YtgagandecjljoaaDoor
open Go.RowKit

theorem riright_y (y : It.Itm) (w : World) (h : FitsP y) :
    Calls Tryd.prog 14 #[itemV y] w fun e w' => e = .returned (.bool (It.right y)) ∧ Below w.heap.size w w' := by
  have := riright_any y.k (txt y.name) y.n (txt y.e0.n) y.e0.c (txt y.e1.n) y.e1.c w h.2.1 (by rw [txt_size]; exact h.2.2.1) (by rw [txt_size]; exact h.2.2.2.1) (by rw [txt_size]; exact h.2.2.2.2)
  rwa [ofV_txt] at this
theorem parsed_fits {l : List UInt8} {y : It.Itm} (hl : l.length ≤ 1000) (h : It.parse l = some y) : FitsP y := by
  obtain ⟨h1, h2, h3, h4⟩ := parse_le h
  exact ⟨(It.print_parse num_back l y h).2, by omega, by omega, by omega, by omega⟩
theorem sheet_fits {l : List UInt8} (hl : l.length ≤ 1000) : ∀ y ∈ (Sh.parse l).1, FitsP y := by
  cases hb : Sh.bad (Ln.whole l) (Ln.split l) with
  | some k => rw [Sh.parse_some hb]; intro y hy; cases hy
  | none =>
    rw [Sh.parse_none hb]
    intro y hy
    obtain ⟨x, hx, h⟩ := List.mem_filterMap.1 hy
    exact parsed_fits (Nat.le_trans ((Sh.split_le l).1 x hx) hl) h
theorem short_print5 {L : List It.Itm} (hl : L.length ≤ 40) (hf : ∀ y ∈ L, FitsP y) : (Sh.print L).length ≤ 1000000 := by
  have := Sh.text_le 10000 (L.map It.print) fun x hx => by
    obtain ⟨y, hy, rfl⟩ := List.mem_map.1 hx
    exact print_le4 y (hf y hy)
  rw [List.length_map] at this
  unfold Sh.print
  omega
set_option maxHeartbeats 8000000 in
set_option maxRecDepth 100000 in
theorem sheetBack_walk (s : ByteArray) (A : Option Addr) (c n : Nat) (L : List It.Itm) (W : World) (ws : s.size ≤ maxLen) (hn : L.length = n) (hI : Its W A L) (_hc : n ≤ c) (hl : n ≤ maxLen) (hN : ∀ y ∈ L, y.n ≤ 9223372036854775807) (hE : Env W) :
    Calls Tryd.prog 4 #[.string s, .slice A n c] W fun e w' => e = .returned (.bool true) ∧ Below W.heap.size W w' := by
  subst hn
  unfold maxLen at ws
  have AW := Lib.hid sawake_any
  have SH := Lib.hid (sshort_any A c L W hI hl)
  have HE := Lib.hid hE
  have HI := Lib.hid hI
  clear hE hI
  by_cases hlong : 800 < s.size
  · have h1 : decide (800 < (s.size : Int)) = true := dec_t (by omega)
    clear hlong
    go_enter Tryd.func4, Tryd.ntmps4
    go_wp2_with fail
    refine (AW.out _ HE.out).mono ?_; rintro e w1 ⟨rfl, hb1⟩
    go_wp2
    go_ret
    exact ⟨rfl, hb1⟩
  · have h1 : decide (800 < (s.size : Int)) = false := dec_f (by omega)
    cases hsh : shortL L
    · rw [hsh] at SH
      clear hlong hsh
      go_enter Tryd.func4, Tryd.ntmps4
      go_wp2_with fail
      refine SH.out.mono ?_; rintro e w1 ⟨rfl, rfl⟩
      go_wp2_with fail
      refine (AW.out _ HE.out).mono ?_; rintro e w1 ⟨rfl, hb1⟩
      go_wp2
      go_ret
      exact ⟨rfl, hb1⟩
    · rw [hsh] at SH
      obtain ⟨h40, hf⟩ := shortL_fits hsh hN
      have PL := Lib.hid (short_print5 h40 hf)
      have FT := Lib.hid hf
      have P1 := Lib.hid (fun w hE h => sprint_any A c L w hE h (by omega) hf (Nat.le_trans PL.out (by omega)))
      have hl6 : L.length ≤ 1000000 := by omega
      have SM := Lib.hid (fun A B c d w hA hB => (isame_any A B c d L L w hA hB hl6 hl6).mono fun e w' (h : e = .returned (.bool (decide (L = L))) ∧ _) => (show e = .returned (.bool true) ∧ Below w.heap.size w w' by rw [decide_eq_true rfl] at h; exact h))
      have Q := fun W => (bin_fault W 0 0 0 0).trans (by rw [show ((0 : Int) == 0 && (0 : Int) == 0) = true by rfl])
      have hsz : s.data.toList.length = s.size := by simp
      have hs6 : s.size ≤ 1000000 := by omega
      have hfit := sheet_fits (l := s.data.toList) (by omega)
      have hple := sheet_le s.data.toList
      by_cases hp : (Sh.parse s.data.toList).2 = 0
      · have hps : Sh.parse s.data.toList = ((Sh.parse s.data.toList).1, 0) := by rw [← hp]
        have S1 := Lib.hid (sparse_ok (s := s) hps rfl hs6)
        have hpp := Sh.print_parse num_back s.data.toList hp
        obtain ⟨P, hP⟩ : ∃ P, (Sh.parse s.data.toList).1 = P := ⟨_, rfl⟩
        rw [hP] at S1 hpp hple hfit
        have hts : txt (Sh.print P) = s := by rw [hpp, txt_of]
        have PX := Lib.hid (fun A c w hE h => (show Calls Tryd.prog 12 #[.slice A P.length c] w fun e w' => e = .returned (.string s) ∧ Below w.heap.size w w' from by
          have := sprint_any A c P w hE h (by omega) hfit (by rw [hpp]; omega)
          rwa [hts] at this))
        have hne : (!(s.toList == s.toList)) = false := by simp
        clear hlong hsh hN h40 hf hsz hs6 hfit hple hp hps hpp hP hts
        go_enter Tryd.func4, Tryd.ntmps4
        go_wp2_with fail
        refine SH.out.mono ?_; rintro e w1 ⟨rfl, rfl⟩
        go_wp2_with fail
        refine (S1.out _ HE.out).mono ?_; rintro e w1 ⟨A1, c1, _, rfl, i1, hb1⟩
        have X1 := (Below.refl w1.heap.size w1).alloc (Nat.le_refl _) (.cells #[.int .i64 0, .int .i64 0] 27)
        have H1 := Lib.hid ((HE.out.below rfl hb1).below rfl X1)
        have I1 := Lib.hid (i1.below rfl X1)
        have B1 := Lib.hid (hb1.trans (X1.mono hb1.size))
        clear hb1 X1 i1
        go_wp2_with fail
        refine (PX.out _ _ _ H1.out I1.out).mono ?_; rintro e w2 ⟨rfl, hb2⟩
        have BX := Lib.hid (B1.out.trans (hb2.mono B1.out.size))
        obtain ⟨⟨p0, p1⟩, _⟩ := row2 (fresh_row hb2)
        clear hb2
        go_wp2_with fail
        go_loopw [7] (fun i wr => ∃ k : Nat, k ≤ L.length ∧ i = .int .i64 k ∧ (∀ j (h : j < L.length), j < k → It.right L[j] = true) ∧ Below W.heap.size W wr) (fun i _ => L.length - (intOf i).toNat)
        case atStart => exact ⟨0, Nat.zero_le _, rfl, fun j _ hj => absurd hj (by omega), BX.out⟩
        case round =>
          obtain ⟨k, hk, rfl, hr, hbel⟩ := hrel
          have HR := Lib.hid hr
          clear hr
          have HEr := Lib.hid (HE.out.below rfl hbel)
          have Jr := Lib.hid (HI.out.below rfl hbel)
          by_cases hlt : k < L.length
          · obtain ⟨b, o, rfl, hb, i7⟩ := Jr.out.at hlt
            obtain ⟨a0, a1, a2, a3, a4, a5, a6⟩ := i7.cells
            clear i7
            have RC := Lib.hid (riright_y L[k] wr (FT.out _ (List.getElem_mem hlt)))
            cases hry : It.right L[k]
            · rw [hry] at RC
              clear hry
              go_wp2_with fail
              refine RC.out.mono ?_; rintro e w3 ⟨rfl, hb3⟩
              have HE3 := Lib.hid (HEr.out.below rfl hb3)
              have B3 := Lib.hid (hbel.trans (hb3.mono hbel.size))
              clear hb3
              go_wp2_with fail
              refine (AW.out _ HE3.out).mono ?_; rintro e w4 ⟨rfl, hb4⟩
              go_wp2_with fail
              go_ret
              exact ⟨rfl, B3.out.trans (hb4.mono B3.out.size)⟩
            · rw [hry] at RC
              have HN := Lib.hid (show ∀ j (h : j < L.length), j < k + 1 → It.right L[j] = true from fun j h hj => by
                rcases Nat.lt_or_ge j k with h1 | h1
                · exact HR.out j h h1
                · obtain rfl : j = k := by omega
                  exact hry)
              clear hry
              go_wp2_with fail
              refine RC.out.mono ?_; rintro e w3 ⟨rfl, hb3⟩
              have B3 := Lib.hid (hbel.trans (hb3.mono hbel.size))
              clear hb3
              go_wp2_with fail
              go_roundw
              case rel => exact ⟨k + 1, by omega, by go_num, HN.out, B3.out⟩
              case measure => simp [intOf]; omega
          · have PP := Sh.parse_print L fun y hy => by
              obtain ⟨j, hj, rfl⟩ := List.getElem_of_mem hy
              exact HR.out j hj (by omega)
            have S2 := Lib.hid (sparse_ok (s := txt (Sh.print L)) (by rw [txt_toList]; exact PP) rfl (by rw [txt_size]; exact PL.out))
            have P2 := Lib.hid (P1.out wr HEr.out Jr.out)
            have BR := Lib.hid hbel
            clear PP hbel
            go_wp2_with fail
            refine P2.out.mono ?_; rintro e w3 ⟨rfl, hb3⟩
            have HE3 := Lib.hid (HEr.out.below rfl hb3)
            have J3 := Lib.hid (Jr.out.below rfl hb3)
            have B3 := Lib.hid (BR.out.trans (hb3.mono BR.out.size))
            clear hb3
            go_wp2_with fail
            refine (S2.out _ HE3.out).mono ?_; rintro e w4 ⟨A4, c4, _, rfl, i4, hb4⟩
            have X4 := (Below.refl w4.heap.size w4).alloc (Nat.le_refl _) (.cells #[.int .i64 0, .int .i64 0] 27)
            have HE4 := Lib.hid ((HE3.out.below rfl hb4).below rfl X4)
            have J4 := Lib.hid ((J3.out.below rfl hb4).below rfl X4)
            have I4 := Lib.hid (i4.below rfl X4)
            have B4' := B3.out.trans (hb4.mono B3.out.size)
            have B4 := Lib.hid (B4'.trans (X4.mono B4'.size))
            clear hb4 X4 B4' i4
            go_wp2_with fail
            refine (AW.out _ HE4.out).mono ?_; rintro e w5 ⟨rfl, hb5⟩
            have J5 := Lib.hid (J4.out.below rfl hb5)
            have I5 := Lib.hid (I4.out.below rfl hb5)
            have B5 := Lib.hid (B4.out.trans (hb5.mono B4.out.size))
            obtain ⟨⟨p0, p1⟩, _⟩ := row2 (fresh_row hb5)
            clear hb5
            go_wp2_with fail
            refine (SM.out _ _ _ _ _ I5.out J5.out).mono ?_; rintro e w6 ⟨rfl, hb6⟩
            dsimp only
            go_wp2_with fail
            go_ret
            exact ⟨rfl, B5.out.trans (hb6.mono B5.out.size)⟩
      · have S1 := Lib.hid (sparse_no (s := s) (sheet_no hp) hp hs6)
        obtain ⟨m, hm⟩ : ∃ m, (Sh.parse s.data.toList).2 = m := ⟨_, rfl⟩
        rw [hm] at S1
        clear hlong hsh hN h40 hf hsz hs6 hfit hple hp hm
        go_enter Tryd.func4, Tryd.ntmps4
        go_wp2_with fail
        refine SH.out.mono ?_; rintro e w1 ⟨rfl, rfl⟩
        go_wp2_with fail
        refine (S1.out _ HE.out).mono ?_; rintro e w1 ⟨A1, c1, rfl, hb1⟩
        have X1 := (Below.refl w1.heap.size w1).alloc (Nat.le_refl _) (.cells #[.int .i64 2, .int .i64 m] 27)
        have BX := Lib.hid (hb1.trans (X1.mono hb1.size))
        clear hb1 X1
        go_wp2_with fail
        go_loopw [7] (fun i wr => ∃ k : Nat, k ≤ L.length ∧ i = .int .i64 k ∧ (∀ j (h : j < L.length), j < k → It.right L[j] = true) ∧ Below W.heap.size W wr) (fun i _ => L.length - (intOf i).toNat)
        case atStart => exact ⟨0, Nat.zero_le _, rfl, fun j _ hj => absurd hj (by omega), BX.out⟩
        case round =>
          obtain ⟨k, hk, rfl, hr, hbel⟩ := hrel
          have HR := Lib.hid hr
          clear hr
          have HEr := Lib.hid (HE.out.below rfl hbel)
          have Jr := Lib.hid (HI.out.below rfl hbel)
          by_cases hlt : k < L.length
          · obtain ⟨b, o, rfl, hb, i7⟩ := Jr.out.at hlt
            obtain ⟨a0, a1, a2, a3, a4, a5, a6⟩ := i7.cells
            clear i7
            have RC := Lib.hid (riright_y L[k] wr (FT.out _ (List.getElem_mem hlt)))
            cases hry : It.right L[k]
            · rw [hry] at RC
              clear hry
              go_wp2_with fail
              refine RC.out.mono ?_; rintro e w3 ⟨rfl, hb3⟩
              have HE3 := Lib.hid (HEr.out.below rfl hb3)
              have B3 := Lib.hid (hbel.trans (hb3.mono hbel.size))
              clear hb3
              go_wp2_with fail
              refine (AW.out _ HE3.out).mono ?_; rintro e w4 ⟨rfl, hb4⟩
              go_wp2_with fail
              go_ret
              exact ⟨rfl, B3.out.trans (hb4.mono B3.out.size)⟩
            · rw [hry] at RC
              have HN := Lib.hid (show ∀ j (h : j < L.length), j < k + 1 → It.right L[j] = true from fun j h hj => by
                rcases Nat.lt_or_ge j k with h1 | h1
                · exact HR.out j h h1
                · obtain rfl : j = k := by omega
                  exact hry)
              clear hry
              go_wp2_with fail
              refine RC.out.mono ?_; rintro e w3 ⟨rfl, hb3⟩
              have B3 := Lib.hid (hbel.trans (hb3.mono hbel.size))
              clear hb3
              go_wp2_with fail
              go_roundw
              case rel => exact ⟨k + 1, by omega, by go_num, HN.out, B3.out⟩
              case measure => simp [intOf]; omega
          · have PP := Sh.parse_print L fun y hy => by
              obtain ⟨j, hj, rfl⟩ := List.getElem_of_mem hy
              exact HR.out j hj (by omega)
            have S2 := Lib.hid (sparse_ok (s := txt (Sh.print L)) (by rw [txt_toList]; exact PP) rfl (by rw [txt_size]; exact PL.out))
            have P2 := Lib.hid (P1.out wr HEr.out Jr.out)
            have BR := Lib.hid hbel
            clear PP hbel
            go_wp2_with fail
            refine P2.out.mono ?_; rintro e w3 ⟨rfl, hb3⟩
            have HE3 := Lib.hid (HEr.out.below rfl hb3)
            have J3 := Lib.hid (Jr.out.below rfl hb3)
            have B3 := Lib.hid (BR.out.trans (hb3.mono BR.out.size))
            clear hb3
            go_wp2_with fail
            refine (S2.out _ HE3.out).mono ?_; rintro e w4 ⟨A4, c4, _, rfl, i4, hb4⟩
            have X4 := (Below.refl w4.heap.size w4).alloc (Nat.le_refl _) (.cells #[.int .i64 0, .int .i64 0] 27)
            have HE4 := Lib.hid ((HE3.out.below rfl hb4).below rfl X4)
            have J4 := Lib.hid ((J3.out.below rfl hb4).below rfl X4)
            have I4 := Lib.hid (i4.below rfl X4)
            have B4' := B3.out.trans (hb4.mono B3.out.size)
            have B4 := Lib.hid (B4'.trans (X4.mono B4'.size))
            clear hb4 X4 B4' i4
            go_wp2_with fail
            refine (AW.out _ HE4.out).mono ?_; rintro e w5 ⟨rfl, hb5⟩
            have J5 := Lib.hid (J4.out.below rfl hb5)
            have I5 := Lib.hid (I4.out.below rfl hb5)
            have B5 := Lib.hid (B4.out.trans (hb5.mono B4.out.size))
            obtain ⟨⟨p0, p1⟩, _⟩ := row2 (fresh_row hb5)
            clear hb5
            go_wp2_with fail
            refine (SM.out _ _ _ _ _ I5.out J5.out).mono ?_; rintro e w6 ⟨rfl, hb6⟩
            dsimp only
            go_wp2_with fail
            go_ret
            exact ⟨rfl, B5.out.trans (hb6.mono B5.out.size)⟩
end Go.Proofs.YtgagandecjljoaaDoor

