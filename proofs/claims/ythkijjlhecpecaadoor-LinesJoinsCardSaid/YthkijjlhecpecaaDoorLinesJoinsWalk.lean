/-
  The walk of the law LinesJoins: it returns true.
-/
import Derived.Test.YthkijjlhecpecaaDoorLinesTellsWalk
import Derived.BigFrame
namespace Go.Proofs.YthkijjlhecpecaaDoor
open Go.RowKit

/-- The library's law on append onto a slice of the call's own, at an operation whose guard says yes. -/
theorem wpList_append_own_g {P : Program} (w : World) {ops : Array Oper} {rest : List Oper} {o : Oper} {a : Act} {Q : Exit → Act → World → Prop} (hw : Region.wanted o (yielded ops a.tmps) = true) (s x : Operand) (t : TypeId)
    (ho : o.op = .call { callee := .builtin .append, args := #[s, x], argTypes := #[t, t] })
    (base : Nat) (e : TypeId) (i : TypeInfo) (z : Value) (size bytes : Nat) (ht : P.underlying t = some (.slice e)) (hi : P.info? e = some i) (hz : i.zero = some z)
    (hsize : i.size = size) (hby : i.bytes = bytes) (hzs : z.cells.size = size) (hsz : 0 < size)
    (v : Value) (n : Nat) (xs : List Value) (hs : a.eval s = v) (hown : w.ownsRow base e size v n xs)
    (ad : Addr) (m c : Nat) (news : List Value) (hx : a.eval x = .slice (some ad) m c) (hl : news.length = m * size) (hnews : ∀ j u, news[j]? = some u → w.cell? (ad.add j) = some u) (h1 : ∀ u ∈ news, u.oneCell' = true)
    (h63 : n + m ≤ maxLen) (hbytes : (n + m) * bytes ≤ 140737488355328) (hbase : base ≤ w.heap.size)
    (h : ∀ v' w', w'.ownsRow base e size v' (n + m) (xs ++ news) → w.grownBy w' v.ownBlock → wpList P ops Q rest (a.put o.dst v') w') : wpList P ops Q (o :: rest) a w :=
  BigFrame.wpList_want hw fun _ hK => wp_append_own w s x t ho base e i z size bytes ht hi hz hsize hby hzs hsz v n xs hs hown ad m c news hx hl hnews h1 h63 hbytes hbase fun v' w' h2 h3 _ => hK _ _ (h v' w' h2 h3)
theorem str_one (L : List (List UInt8)) : ∀ u ∈ L.map str, u.oneCell' = true := fun u hu => by
  obtain ⟨x, _, rfl⟩ := List.mem_map.1 hu
  rfl
theorem Strs.news {w : World} {a : Addr} {L : List (List UInt8)} (h : Strs w (some a) L) : ∀ j u, (L.map str)[j]? = some u → w.cell? (a.add j) = some u := fun j u hu => by
  rw [List.getElem?_map] at hu
  cases hj : L[j]? with
  | none => rw [hj] at hu; cases hu
  | some x =>
    rw [hj] at hu
    cases hu
    obtain ⟨a', ha, _, hc⟩ := h j x hj
    cases ha
    exact hc

set_option maxHeartbeats 4000000 in
set_option maxRecDepth 100000 in
theorem linesJoins_walk (s t : ByteArray) (W : World) (ws : s.size ≤ maxLen) (wt : t.size ≤ maxLen) (hM : MaxOk W) :
    Calls Tryd.prog 6 #[.string s, .string t] W fun e w' => e = .returned (.bool true) ∧ Below W.heap.size W w' := by
  unfold maxLen at ws wt
  obtain ⟨i0, hi, hz0, hz1, hz2⟩ := info_parts infoStr
  have AW := Lib.hid awake_any
  have HM := Lib.hid hM
  clear hM
  by_cases hlong : 300 < s.size ∨ 300 < t.size
  · have h1 : decide (300 < (s.size : Int)) = true ∨ (decide (300 < (s.size : Int)) = false ∧ decide (300 < (t.size : Int)) = true) := by
      by_cases h : 300 < s.size
      · exact Or.inl (dec_t (by omega))
      · exact Or.inr ⟨dec_f (by omega), dec_t (by omega)⟩
    clear hlong
    rcases h1 with h1 | ⟨h1, h2⟩
    all_goals
      go_enter Tryd.func6, Tryd.ntmps6
      go_wp2_with fail
      refine (AW.out _ HM.out).mono ?_; rintro e w1 ⟨rfl, hb1⟩
      go_wp2
      go_ret
      exact ⟨rfl, hb1⟩
  · have h1 : decide (300 < (s.size : Int)) = false := dec_f (by omega)
    have h2 : decide (300 < (t.size : Int)) = false := dec_f (by omega)
    have h3 : s.size + t.size ≤ 9223372036854775807 := by omega
    have hsz : (s ++ t).size = s.size + t.size := by simp
    have hdt : (s ++ t).data.toList = s.data.toList ++ t.data.toList := by simp
    have l1 := split_len s.data.toList
    have l2 := split_len t.data.toList
    have e1 : s.data.toList.length = s.size := by simp
    have e2 : t.data.toList.length = t.size := by simp
    have J := Ln.split_append s.data.toList t.data.toList
    have K1 := Lib.hid (fun w h => split_some s w h (by omega))
    have K2 := Lib.hid (fun w h => split_some t w h (by omega))
    have K3 := Lib.hid (fun w h => split_some (s ++ t) w h (by omega))
    rw [hdt] at K3
    cases hw : Ln.whole s.data.toList
    · rw [hw] at K1
      clear hw J hlong hsz hdt l1 l2 e1 e2
      go_enter Tryd.func6, Tryd.ntmps6
      go_wp2_with fail
      refine (K1.out _ HM.out).mono ?_; rintro e w1 ⟨A1, c1, _, rfl, hs1, hb1⟩
      have HM1 := Lib.hid (HM.out.below rfl hb1)
      go_wp2_with fail
      refine (K2.out _ HM1.out).mono ?_; rintro e w2 ⟨A2, c2, _, rfl, hs2, hb2⟩
      have HM2 := Lib.hid (HM1.out.below rfl hb2)
      have B2 := Lib.hid (hb1.trans (hb2.mono hb1.size))
      go_wp2_with fail
      refine (K3.out _ HM2.out).mono ?_; rintro e w3 ⟨A3, c3, _, rfl, hs3, hb3⟩
      have HM3 := Lib.hid (HM2.out.below rfl hb3)
      have B3 := Lib.hid (B2.out.trans (hb3.mono B2.out.size))
      clear hs1 hs2 hs3 hb1 hb2 hb3
      go_wp2_with fail
      refine (AW.out _ HM3.out).mono ?_; rintro e w4 ⟨rfl, hb4⟩
      go_wp2
      go_ret
      exact ⟨rfl, B3.out.trans (hb4.mono B3.out.size)⟩
    · rw [hw] at K1
      obtain ⟨j1, j2⟩ := J hw
      rw [j1, j2] at K3
      obtain ⟨P, hP⟩ : ∃ P, Ln.split s.data.toList = P := ⟨_, rfl⟩
      obtain ⟨Q, hQ⟩ : ∃ Q, Ln.split t.data.toList = Q := ⟨_, rfl⟩
      obtain ⟨q, hq⟩ : ∃ q, Ln.whole t.data.toList = q := ⟨_, rfl⟩
      rw [hP] at K1 K3 l1
      rw [hQ, hq] at K2 K3
      rw [hQ] at l2
      have hp : P.length ≤ 500000 := by omega
      have hq : Q.length ≤ 500000 := by omega
      clear hw J hlong hsz hdt l1 l2 e1 e2 j1 j2 hP hQ
      go_enter Tryd.func6, Tryd.ntmps6
      go_wp2_with fail
      refine (K1.out _ HM.out).mono ?_; rintro e w1 ⟨A1, c1, _, rfl, hs1, hb1⟩
      have HM1 := Lib.hid (HM.out.below rfl hb1)
      go_wp2_with fail
      refine (K2.out _ HM1.out).mono ?_; rintro e w2 ⟨A2, c2, _, rfl, hs2, hb2⟩
      have HM2 := Lib.hid (HM1.out.below rfl hb2)
      have B2 := Lib.hid (hb1.trans (hb2.mono hb1.size))
      go_wp2_with fail
      refine (K3.out _ HM2.out).mono ?_; rintro e w3 ⟨A3, c3, _, rfl, hs3, hb3⟩
      have HM3 := Lib.hid (HM2.out.below rfl hb3)
      have B3 := Lib.hid (B2.out.trans (hb3.mono B2.out.size))
      go_wp2_with fail
      refine (AW.out _ HM3.out).mono ?_; rintro e w4 ⟨rfl, hb4⟩
      have B4 := Lib.hid (B3.out.trans (hb4.mono B3.out.size))
      have X1 := Lib.hid (((hs1.below rfl hb2).below rfl hb3).below rfl hb4)
      have X2 := Lib.hid ((hs2.below rfl hb3).below rfl hb4)
      have X3 := Lib.hid (hs3.below rfl hb4)
      have HM4 := Lib.hid (HM3.out.below rfl hb4)
      clear hs1 hs2 hs3 hb1 hb2 hb3 hb4 HM HM1 HM2 HM3 B2 B3 K1 K2 K3
      have X1a := Lib.hid (X1.out.below rfl ((Below.refl _ _).alloc (Nat.le_refl _) (.cells #[] 9)))
      have O0 := Lib.hid (World.ownsRow_lit (base := w4.heap.size) (e := 9) (size := 1) w4 #[] 0 (Nat.le_refl _) (by unfold maxLen; omega) rfl)
      have hB0 := Lib.hid ((Below.refl w4.heap.size w4).alloc (Nat.le_refl _) (.cells #[] 9))
      go_wp2_with (first
        | (at_builtin; refine wpList_append_own_g _ rfl (.tmp 43) (.tmp 44) 22 rfl w4.heap.size 9 i0 (.string ByteArray.empty) 1 16 Tryd.underlying22 hi hz0 hz1 hz2 rfl (by decide) _ 0 _ rfl O0.out A1 P.length c1 (P.map str) rfl (by simp) X1a.out.news (str_one P) (by unfold maxLen; omega) (by omega) (by simp) ?_; intro v1 w5 hown1 hg1; have hb5 := Lib.hid (hB0.out.grown hg1 (by simp) (fun g hg => (O0.out.lt g hg).1)); have X2b := Lib.hid (X2.out.below rfl hb5.out))
        | (at_builtin; refine wpList_append_own_g _ rfl (.tmp 45) (.tmp 46) 22 rfl w4.heap.size 9 i0 (.string ByteArray.empty) 1 16 Tryd.underlying22 hi hz0 hz1 hz2 rfl (by decide) v1 _ _ rfl hown1 A2 Q.length c2 (Q.map str) rfl (by simp) X2b.out.news (str_one Q) (by unfold maxLen; omega) (by omega) hb5.out.size ?_; intro v2 w6 hown2 hg2; have hb6 := Lib.hid (hb5.out.grown hg2 hb5.out.size (fun g hg => (hown1.lt g hg).1)); have e3 : P.map str ++ Q.map str = (P ++ Q).map str := by simp))
      rw [List.nil_append, e3] at hown2
      obtain ⟨hn2, A4, c4, hv2, hcap2, hs2⟩ := Strs.of_own hown2
      have SM := same_yes (some A3) A4 c3 c4 (P ++ Q) w6 (X3.out.below rfl hb6.out) hs2 (by rw [List.length_append]; omega)
      rw [List.length_append] at SM
      rw [Nat.zero_add] at hv2
      rw [hv2]
      have B6 := Lib.hid (B4.out.trans (hb6.out.mono B4.out.size))
      have SM' := Lib.hid SM
      clear SM hown2 hown1 hg1 hg2 hv2 hn2 e3 hcap2 hs2 hb5 hb6 hB0 X1 X2 X3 X1a X2b O0 B4 HM4
      refine SM'.out.mono ?_; rintro e w7 ⟨rfl, hb7⟩
      go_wp2
      go_ret
      exact ⟨rfl, B6.out.trans (hb7.mono B6.out.size)⟩
end Go.Proofs.YthkijjlhecpecaaDoor
