/-
  Texts of this claim, merged: PlanBackWalk.
-/
import Derived.Test.YtaheiolbeiofpaaGreatDoorMg23
import Derived.Test.YtaheiolbeiofpaaGreatDoorMg25
import Derived.Test.YtaheiolbeiofpaaGreatDoorMg26
/-
  The walk of the law PlanBack: it returns true.
-/
namespace Go.Proofs.YtaheiolbeiofpaaGreatDoor
open Go.RowKit

/-- What the law's first loop has turned: numbers and sections, the last one first. -/
def turn1 (l : List It.Itm) (k : Nat) : List It.Itm := ((l.take k).filter fun x => decide (x.k ≤ 6)).reverse
/-- What its second loop has added behind: the other lines from k on, the last one first. -/
def turn2 (l : List It.Itm) (k : Nat) : List It.Itm := turn1 l l.length ++ (((l.drop k).filter fun x => !decide (x.k ≤ 6)).reverse).map Pl.sw
theorem turn1_in {l : List It.Itm} {k : Nat} {x : It.Itm} (hx : l[k]? = some x) (h : x.k ≤ 6) : turn1 l (k + 1) = x :: turn1 l k := by
  unfold turn1
  rw [List.take_add_one, hx, List.filter_append, List.reverse_append]
  simp [h]
theorem turn1_out {l : List It.Itm} {k : Nat} {x : It.Itm} (hx : l[k]? = some x) (h : ¬ x.k ≤ 6) : turn1 l (k + 1) = turn1 l k := by
  unfold turn1
  rw [List.take_add_one, hx, List.filter_append]
  simp [h]
theorem turn2_in {l : List It.Itm} {k : Nat} {x : It.Itm} (hx : l[k]? = some x) (h : ¬ x.k ≤ 6) : turn2 l k = turn2 l (k + 1) ++ [Pl.sw x] := by
  obtain ⟨hi, rfl⟩ := List.getElem?_eq_some_iff.1 hx
  unfold turn2
  rw [List.drop_eq_getElem_cons hi, List.filter_cons, if_pos (by rw [decide_eq_false h]; rfl), List.reverse_cons, List.map_append, List.append_assoc]
  rfl
theorem turn2_out {l : List It.Itm} {k : Nat} {x : It.Itm} (hx : l[k]? = some x) (h : x.k ≤ 6) : turn2 l k = turn2 l (k + 1) := by
  obtain ⟨hi, rfl⟩ := List.getElem?_eq_some_iff.1 hx
  unfold turn2
  rw [List.drop_eq_getElem_cons hi, List.filter_cons, if_neg (by rw [decide_eq_true h]; decide)]
theorem turn2_all (l : List It.Itm) : turn2 l 0 = Pl.turn l := by
  unfold turn2 turn1 Pl.turn
  rw [List.take_length, List.drop_zero]
theorem turn2_start (l : List It.Itm) : turn2 l l.length = turn1 l l.length := by
  unfold turn2
  rw [List.drop_length]
  simp
theorem turn1_len (l : List It.Itm) (k : Nat) : (turn1 l k).length ≤ l.length := by
  unfold turn1
  rw [List.length_reverse]
  exact Nat.le_trans (List.length_filter_le _ _) (by rw [List.length_take]; omega)
theorem turn2_len (l : List It.Itm) (k : Nat) : (turn2 l k).length ≤ 2 * l.length := by
  unfold turn2
  rw [List.length_append, List.length_map, List.length_reverse]
  have h1 := turn1_len l l.length
  have h2 : ((l.drop k).filter fun x => !decide (x.k ≤ 6)).length ≤ l.length := Nat.le_trans (List.length_filter_le _ _) (by rw [List.length_drop]; omega)
  omega
theorem items_few {p : Pl.Plan} (hp : Pl.Fit p) : (Pl.items p).length ≤ 184 := by
  unfold Pl.items
  rw [List.length_append, List.length_append, List.length_append, List.length_append, List.length_map, List.length_map]
  have h1 := numsP_len p
  have h2 := joins_len hp
  have h3 := stops_len hp
  have h4 := hp.few
  have h5 := hp.gfew
  omega
/-- Items that build a plan. -/
theorem build_yes {p : Pl.Plan} {I : List It.Itm} (hb : Pl.build I = (p, 0, 0)) (A : Option Addr) (c : Nat) (W : World) (hI : Its W A I) (hl : I.length ≤ 100000) (hf : ∀ y ∈ I, FitsR y) (hE : Env W) :
    Calls Tryz.prog 10 #[.slice A I.length c] W (PlanYes p W) := by
  refine (pBuild_any pPlan_any A c I W hI hl hf hE).mono ?_
  rw [hb]
  rintro e w' ⟨A, c, A', c', -, -, he, hS, hG, hb⟩
  exact ⟨A, c, A', c', he, ⟨hS, hG⟩, hb⟩
/-- Lines that a call leaves. -/
def LinesYes (I : List It.Itm) (w : World) (e : Ending) (w' : World) : Prop := ∃ A c, e = .returned (.slice A I.length c) ∧ Its w' A I ∧ Below w.heap.size w w'
theorem items_yes (p : Pl.Plan) (A : Option Addr) (c : Nat) (A' : Option Addr) (c' : Nat) (w : World) (hp : Pl.Fit p) (h : PlanIn w p A A') :
    Calls Tryz.prog 18 #[planV p A c A' c'] w (LinesYes (Pl.items p) w) := by
  refine (pItems_any p A c A' c' w hp h).mono ?_
  rintro e w' ⟨v, rfl, hb, ho⟩
  obtain ⟨-, A, c, rfl, -, hI⟩ := Its.of_own ho
  exact ⟨A, c, rfl, hI, hb⟩
theorem ritems_yes (p : Pl.Plan) (A : Option Addr) (c : Nat) (A' : Option Addr) (c' : Nat) (w : World) (hp : Pl.Fit p) (h : PlanIn w p A A') :
    Calls Tryz.prog 20 #[planV p A c A' c'] w (LinesYes (Pl.items p) w) := by
  refine (rpItems_any p A c A' c' w hp h).mono ?_
  rintro e w' ⟨v, rfl, hb, ho⟩
  obtain ⟨-, A, c, rfl, -, hI⟩ := Its.of_own ho
  exact ⟨A, c, rfl, hI, hb⟩
/-- Lines of the call's own, behind a world that stands. -/
def Own (w5 wr : World) (v : Value) (X : List It.Itm) : Prop := Below w5.heap.size w5 wr ∧ wr.ownsRow w5.heap.size 44 7 v X.length (cellsL X)
theorem Own.nil (w : World) : Own w w (.slice none 0 0) [] := ⟨Below.refl _ _, World.ownsRow_nil _ _ _ _⟩
theorem Own.below {w5 wr w2 : World} {v : Value} {X : List It.Itm} (h : Own w5 wr v X) (hb : Below wr.heap.size wr w2) : Own w5 w2 v X := ⟨h.1.trans (hb.mono h.1.size), ownsRow_below h.2 hb⟩
theorem Own.its {w5 wr : World} {v : Value} {X : List It.Itm} (h : Own w5 wr v X) : ∃ A c, v = .slice A X.length c ∧ Its wr A X := by
  obtain ⟨-, A, c, hv, -, hI⟩ := Its.of_own h.2
  exact ⟨A, c, hv, hI⟩
/-- A row of one, made just now. -/
theorem own_lit (w5 wr : World) (h : w5.heap.size ≤ wr.heap.size) (y : It.Itm) : (wr.alloc (.cells (cells7 y).toArray 44)).ownsRow w5.heap.size 44 7 (.slice (some ⟨wr.heap.size, 0, none⟩) 1 1) 1 (cells7 y) := by
  have := World.ownsRow_lit (base := w5.heap.size) (e := 44) (size := 7) wr (cells7 y).toArray 1 h (by unfold maxLen; omega) rfl
  simpa using this
theorem Own.ahead {w5 wr w2 : World} {v v' : Value} {X : List It.Itm} {y : It.Itm} {g : Nat} (h : Own w5 wr v X) (ho : w2.ownsRow w5.heap.size 44 7 v' (1 + X.length) (cells7 y ++ cellsL X)) (hg : wr.grownBy w2 (some g)) (hgg : w5.heap.size ≤ g) : Own w5 w2 v' (y :: X) :=
  ⟨h.1.grown hg h.1.size (fun k hk => by cases hk; exact hgg), by rw [List.length_cons, Nat.add_comm, cellsL_cons]; exact ho⟩
theorem Own.behind {w5 wr w2 : World} {v v' : Value} {X : List It.Itm} {y : It.Itm} (h : Own w5 wr v X) (ho : w2.ownsRow w5.heap.size 44 7 v' (X.length + 1) (cellsL X ++ LItm.all [y])) (hg : wr.grownBy w2 v.ownBlock) : Own w5 w2 v' (X ++ [y]) :=
  ⟨h.1.grown hg h.1.size (fun k hk => (h.2.lt k hk).1), own_snoc rfl ho⟩
abbrev itmO (y : It.Itm) : Obj := .cells #[.int .i64 y.k, .string (txt y.name), .int .i64 y.n, .string (txt y.e0.n), .int .u8 y.e0.c.toNat, .string (txt y.e1.n), .int .u8 y.e1.c.toNat] 44
/-- With its ends the other way round. -/
abbrev itmX (y : It.Itm) : Obj := .cells #[.int .i64 y.k, .string (txt y.name), .int .i64 y.n, .string (txt y.e1.n), .int .u8 y.e1.c.toNat, .string (txt y.e0.n), .int .u8 y.e0.c.toNat] 44
set_option maxHeartbeats 8000000 in
set_option maxRecDepth 100000 in
theorem planBack_walk (s : ByteArray) (W : World) (ws : s.size ≤ maxLen) (hE : Env W) :
    Calls Tryz.prog 4 #[.string s] W fun e w' => e = .returned (.bool true) ∧ Below W.heap.size W w' := by
  unfold maxLen at ws
  have AW := Lib.hid pAwake_any
  have HE := Lib.hid hE
  clear hE
  by_cases hlong : 1500 < s.size
  · have h1 : decide (1500 < (s.size : Int)) = true := dec_t (by omega)
    clear hlong
    go_enter Tryz.func4, Tryz.ntmps4
    go_wp2_with fail
    refine (AW.out _ HE.out).mono ?_; rintro e w1 ⟨rfl, hb1⟩
    go_wp2
    go_ret
    exact ⟨rfl, hb1⟩
  have h1 : decide (1500 < (s.size : Int)) = false := dec_f (by omega)
  rcases built_ways s.data.toList with ⟨x, n, hb, hx0⟩ | ⟨L, hps, hb, hO, hS⟩
  · have C2 := Lib.hid (fun W => built_no hb (by omega) W)
    have D : (x == 0) = false := by rw [beq_eq_false_iff_ne]; exact hx0
    have D' : (x != 0) = true := by unfold bne; rw [D]; rfl
    have D1 : decide ((1 : Int) ≤ ((n + 1 : Nat) : Int)) = true := dec_t (by omega)
    have D2 : decide ((1 : Int) ≤ (n : Int) + 1) = true := dec_t (by omega)
    clear hb hx0 hlong
    go_enter Tryz.func4, Tryz.ntmps4
    go_wp2_with fail
    refine (C2.out _ HE.out).mono ?_; rintro e w2 ⟨A2, c2, A3, c3, rfl, hb2⟩
    obtain ⟨RP, RF, X2, XS⟩ := two_blocks w2 (.cells #[.int .i64 0, .int .i64 0, .int .i64 0, .int .i64 0, .slice A2 0 c2, .slice A3 0 c3] 28) (.cells #[.int .i64 x, .int .i64 ((n + 1 : Nat) : Int)] 31)
    obtain ⟨⟨t0, t1⟩, gt⟩ := row2c RF
    have B2 := Lib.hid (hb2.trans (X2.mono hb2.size))
    have E2 := Lib.hid (HE.out.below rfl B2.out)
    have HRF := Lib.hid RF
    clear RP RF X2 hb2
    go_wp2_with fail
    refine (AW.out _ E2.out).mono ?_; rintro e w3 ⟨rfl, hb3⟩
    have B3 := Lib.hid (B2.out.trans (hb3.mono B2.out.size))
    obtain ⟨⟨p4, p5⟩, -⟩ := row2c ((hb3.block _ gt).trans HRF.out)
    clear hb3 t0 t1 HRF
    go_wp2_with fail
    go_ret
    exact ⟨rfl, B3.out⟩
  · have C2 := Lib.hid (fun W => built_yes hb (by omega) W)
    have hF := Pl.fit_fin hO hS
    obtain ⟨o1, -, b1⟩ := Pl.build_items hO hS
    obtain ⟨o2, -, b2⟩ := Pl.build_turned hO hS
    have hl24 := hF.few
    have hl12 := hF.gfew
    have hlI := items_few hF
    rw [← turn2_all] at o2 b2
    generalize hp : Pl.fin L = p at C2 hF o1 b1 o2 b2 hl24 hl12 hlI
    have CI := Lib.hid (fun A c A' c' W => items_yes p A c A' c' W hF)
    have CR := Lib.hid (fun A c A' c' W => ritems_yes p A c A' c' W hF)
    generalize Pl.items p = I at CI CR o1 b1 o2 b2 hlI
    have CB := Lib.hid (fun A c W (hI : Its W A I) => build_yes b1 A c W hI (by omega) (fun y hy => (right_le8 (o1.right y hy)).1.fits))
    have CT := Lib.hid (fun A c W (hI : Its W A (turn2 I 0)) => build_yes b2 A c W hI (by have := turn2_len I 0; omega) (fun y hy => (right_le8 (o2.right y hy)).1.fits))
    have CS := Lib.hid (fun A c B d W (hA : Its W A I) (hB : Its W B I) => (show Calls Tryz.prog 19 #[.slice A I.length c, .slice B I.length d] W fun e w' => e = .returned (.bool true) ∧ Below W.heap.size W w' from by
      have := isame_any A B c d I I W hA hB (by omega) (by omega)
      rwa [decide_eq_true rfl] at this))
    have CP := Lib.hid (fun A c A' c' B d B' d' W (hA : PlanIn W p A A') (hB : PlanIn W p B B') => rpSame_any p A c A' c' B d B' d' W hA hB (by omega) (by omega))
    obtain ⟨i0, hi, hz0, hz1, hz2⟩ := info_parts infoItem
    clear hb hlong hps hO hS hF o1 b1 o2 b2 hp L
    go_enter Tryz.func4, Tryz.ntmps4
    go_wp2_with fail
    refine (C2.out _ HE.out).mono ?_; rintro e w2 ⟨S, cS, G, cG, rfl, pin, hb2⟩
    obtain ⟨RP, RF, X2, XS⟩ := two_blocks w2 (planO p S cS G cG) faultZ
    obtain ⟨⟨t0, t1⟩, gt⟩ := row2c RF
    have B5 := Lib.hid (hb2.trans (X2.mono hb2.size))
    have E5 := Lib.hid (HE.out.below rfl B5.out)
    have PI5 := Lib.hid (pin.below X2)
    obtain ⟨⟨p0, p1, p2, p3, p4, p5⟩, -, gx⟩ := row6 RP
    have HRP := Lib.hid RP
    clear RP RF X2 hb2 pin C2 HE
    go_wp2_with fail
    clear t0 t1 gt
    generalize hw5 : (w2.alloc (planO p S cS G cG)).alloc faultZ = w5 at E5 PI5 p0 p1 p2 p3 p4 p5 gx B5 XS HRP
    clear hw5
    generalize w2.heap.size = bx at p0 p1 p2 p3 p4 p5 gx XS HRP ⊢
    have KP := Lib.hid (fun W (hW : Below w5.heap.size w5 W) => (row6 ((hW.block _ gx).trans HRP.out)).1)
    clear p0 p1 p2 p3 p4 p5 gx XS HRP
    refine (CI.out _ _ _ _ _ PI5.out).mono ?_; rintro e w6 ⟨AI, cI, rfl, hI, hb6⟩
    have B6 := Lib.hid hb6
    have I6 := Lib.hid hI
    clear hb6 hI CI
    go_wp2_with fail
    refine (CB.out _ _ _ I6.out (E5.out.below rfl B6.out)).mono ?_; rintro e w7 ⟨S2, cS2, G2, cG2, rfl, pin, hb7⟩
    obtain ⟨RP, RF, X2, XS⟩ := two_blocks w7 (planO p S2 cS2 G2 cG2) faultZ
    have gx := (Array.getElem?_eq_some_iff.1 RP).1
    have gt := (Array.getElem?_eq_some_iff.1 RF).1
    have BB := hb7.trans (X2.mono hb7.size)
    have B8 := Lib.hid (B6.out.trans (BB.mono B6.out.size))
    have I8 := Lib.hid (I6.out.below rfl BB)
    have PQ8 := Lib.hid (pin.below X2)
    have HRP := Lib.hid RP
    have HRF := Lib.hid RF
    clear RP RF X2 hb7 pin BB B6 I6 CB
    go_wp2_with fail
    generalize hw8 : (w7.alloc (planO p S2 cS2 G2 cG2)).alloc faultZ = w8 at B8 I8 PQ8 gx gt XS HRP HRF
    clear hw8
    generalize w7.heap.size = bq at gx gt XS HRP HRF ⊢
    have KQ := Lib.hid (fun W (hW : Below w8.heap.size w8 W) => And.intro (row6 ((hW.block _ gx).trans HRP.out)).1 (row2c ((hW.block _ gt).trans HRF.out)).1)
    clear gx gt XS HRP HRF
    go_loopw [8, 9] (fun v i wr => ∃ k : Nat, k ≤ I.length ∧ i = .int .i64 k ∧ Own w8 wr v (turn1 I k)) (fun _ i _ => I.length - (intOf i).toNat)
    case atStart => exact ⟨0, Nat.zero_le _, rfl, Own.nil w8⟩
    case round =>
      obtain ⟨k, hk, rfl, hS⟩ := hrel
      have HS := Lib.hid hS
      clear hS
      by_cases hlt : k < I.length
      · obtain ⟨bI, oI, hA, gI, i7⟩ := (I8.out.below rfl HS.out.1).at hlt
        subst hA
        have hx := List.getElem?_eq_getElem hlt
        generalize I[k] = y at hx i7
        obtain ⟨y0, y1, y2, y3, y4, y5, y6⟩ := i7.cells
        clear i7
        by_cases h6 : y.k ≤ 6
        · have D : decide (y.k ≤ 6) = true := dec_t h6
          have HN := Lib.hid (turn1_in hx h6)
          obtain ⟨AT, cT, hv, hT⟩ := HS.out.its
          subst hv
          have O1 := Lib.hid (own_lit w8 wr HS.out.1.size y)
          have hba := (Below.refl wr.heap.size wr).alloc (Nat.le_refl _) (.cells (cells7 y).toArray 44)
          have HT := Lib.hid (hT.below rfl hba)
          have HSa := Lib.hid (HS.out.below hba)
          have hsz := HS.out.1.size
          have hln := turn1_len I k
          clear h6 hx hT hba
          go_wp2_with (at_builtin; refine wpList_append_its _ rfl (.tmp 55) (.tmp 56) 22 rfl w8.heap.size 44 i0 _ Tryz.underlying22 hi hz0 hz1 hz2 rfl wr.heap.size 1 1 (cells7 y) rfl O1.out AT cT (turn1 I k).length (turn1 I k) rfl rfl HT.out (by omega) (by simp; omega) ?_; intro g1 cap1 w3 hown1 hg1)
          have H3 := Lib.hid (HSa.out.ahead hown1 hg1 hsz)
          clear hown1 hg1 HSa HT O1
          go_wp2_with fail
          go_roundw
          case rel => exact ⟨k + 1, by omega, by go_num, by rw [HN.out]; exact H3.out⟩
          case measure => simp [intOf]; omega
        · have D : decide (y.k ≤ 6) = false := dec_f h6
          have HN := Lib.hid (turn1_out hx h6)
          clear h6 hx
          go_wp2_with fail
          go_roundw
          case rel => exact ⟨k + 1, by omega, by go_num, by rw [HN.out]; exact HS.out⟩
          case measure => simp [intOf]; omega
      · obtain rfl : k = I.length := by omega
        have H0 := HS.out
        rw [← turn2_start] at H0
        have HS2 := Lib.hid H0
        have hw : IntKind.i64.wrap ((I.length : Int) - 1) = (I.length : Int) - 1 := IntWalk.i64_in _ (by omega)
        clear H0 HS
        go_wp2_with fail
        go_loopw [8, 10] (fun v i wr => ∃ m : Int, -1 ≤ m ∧ m < I.length ∧ i = .int .i64 m ∧ Own w8 wr v (turn2 I (m + 1).toNat)) (fun _ i _ => (intOf i + 1).toNat)
        case atStart => exact ⟨(I.length : Int) - 1, by omega, by omega, rfl, by rw [show ((I.length : Int) - 1 + 1).toNat = I.length by omega]; exact HS2.out⟩
        case round =>
          clear HS2 hw
          obtain ⟨m, hm1, hm2, rfl, hS⟩ := hrel
          by_cases hneg : m < 0
          · have D : decide (0 ≤ m) = false := dec_f (by omega)
            rw [show (m + 1).toNat = 0 by omega] at hS
            obtain ⟨AT, cT, hv, hT⟩ := hS.its
            subst hv
            have B89 := Lib.hid hS.1
            have HT := Lib.hid hT
            have B59 := Lib.hid (B8.out.trans (hS.1.mono B8.out.size))
            clear hS hT hm1 hm2 hneg
            go_wp2_with fail
            refine (CT.out _ _ _ HT.out (E5.out.below rfl B59.out)).mono ?_; rintro e w10 ⟨S3, cS3, G3, cG3, rfl, pin, hb10⟩
            obtain ⟨RP, RF, X2, XS⟩ := two_blocks w10 (planO p S3 cS3 G3 cG3) faultZ
            have gx := (Array.getElem?_eq_some_iff.1 RP).1
            have gt := (Array.getElem?_eq_some_iff.1 RF).1
            have BB := hb10.trans (X2.mono hb10.size)
            have B511 := Lib.hid (B59.out.trans (BB.mono B59.out.size))
            have B811 := Lib.hid (B89.out.trans (BB.mono B89.out.size))
            have PU11 := Lib.hid (pin.below X2)
            have HRP := Lib.hid RP
            have HRF := Lib.hid RF
            clear RP RF X2 hb10 pin BB HT CT B59 B89 D
            go_wp2_with fail
            generalize hw11 : (w10.alloc (planO p S3 cS3 G3 cG3)).alloc faultZ = w11 at B511 B811 PU11 gx gt XS HRP HRF
            clear hw11
            generalize w10.heap.size = bu at gx gt XS HRP HRF ⊢
            have KU := Lib.hid (fun W (hW : Below w11.heap.size w11 W) => And.intro (row6 ((hW.block _ gx).trans HRP.out)).1 (row2c ((hW.block _ gt).trans HRF.out)).1)
            have Q : ∀ W, Sem.run Tryz.prog (binOp .eql 31 (.agg #[.int .i64 0, .int .i64 0]) (.agg #[.int .i64 0, .int .i64 0])) W = .ok (.bool true) W := fun W => bin_fault W 0 0 0 0
            have ST := Lib.hid (fun W (hW : Below w11.heap.size w11 W) => (show Below w5.heap.size w5 W ∧ Below w8.heap.size w8 W from ⟨B511.out.trans (hW.mono B511.out.size), B811.out.trans (hW.mono B811.out.size)⟩))
            clear gx gt XS HRP HRF
            refine (AW.out _ (E5.out.below rfl B511.out)).mono ?_; rintro e w12 ⟨rfl, hb12⟩
            have T12 := Lib.hid hb12
            obtain ⟨p0, p1, p2, p3, p4, p5⟩ := KP.out _ (ST.out _ hb12).1
            clear hb12
            go_wp2_with fail
            refine (CR.out _ _ _ _ _ (PI5.out.below (ST.out _ T12.out).1)).mono ?_; rintro e w13 ⟨AR, cR, rfl, hIR, hb13⟩
            have T13 := Lib.hid (T12.out.trans (hb13.mono T12.out.size))
            have IR := Lib.hid hIR
            clear p0 p1 p2 p3 p4 p5 hIR hb13
            go_wp2_with fail
            refine (CS.out _ _ _ _ _ (I8.out.below rfl (ST.out _ T13.out).2) IR.out).mono ?_; rintro e w14 ⟨rfl, hb14⟩
            have T14 := Lib.hid (T13.out.trans (hb14.mono T13.out.size))
            obtain ⟨p0, p1, p2, p3, p4, p5⟩ := KP.out _ (ST.out _ T14.out).1
            obtain ⟨⟨q0, q1, q2, q3, q4, q5⟩, f0, f1⟩ := KQ.out _ (ST.out _ T14.out).2
            clear hb14
            go_wp2_with fail
            refine (CP.out _ _ _ _ _ _ _ _ _ (PI5.out.below (ST.out _ T14.out).1) (PQ8.out.below (ST.out _ T14.out).2)).mono ?_; rintro e w15 ⟨rfl, hb15⟩
            have T15 := Lib.hid (T14.out.trans (hb15.mono T14.out.size))
            clear p0 p1 p2 p3 p4 p5 q0 q1 q2 q3 q4 q5 f0 f1 hb15
            obtain ⟨p0, p1, p2, p3, p4, p5⟩ := KP.out _ (ST.out _ T15.out).1
            obtain ⟨⟨q0, q1, q2, q3, q4, q5⟩, f0, f1⟩ := KU.out _ T15.out
            go_wp2_with fail
            refine (CP.out _ _ _ _ _ _ _ _ _ (PI5.out.below (ST.out _ T15.out).1) (PU11.out.below T15.out)).mono ?_; rintro e w16 ⟨rfl, hb16⟩
            have T16 := Lib.hid (T15.out.trans (hb16.mono T15.out.size))
            clear p0 p1 p2 p3 p4 p5 q0 q1 q2 q3 q4 q5 f0 f1 hb16
            go_wp2_with fail
            go_ret
            exact ⟨rfl, B5.out.trans ((ST.out _ T16.out).1.mono B5.out.size)⟩
          · obtain ⟨k, rfl⟩ : ∃ k : Nat, m = k := ⟨m.toNat, by omega⟩
            have hlt : k < I.length := by omega
            rw [show ((k : Int) + 1).toNat = k + 1 by omega] at hS
            have HS := Lib.hid hS
            have D0 : decide ((0 : Int) ≤ (k : Int)) = true := dec_t (by omega)
            have hwr : IntKind.i64.wrap ((k : Int) - 1) = (k : Int) - 1 := IntWalk.i64_in _ (by omega)
            obtain ⟨bI, oI, hA, gI, i7⟩ := (I8.out.below rfl HS.out.1).at hlt
            subst hA
            have hx := List.getElem?_eq_getElem hlt
            generalize I[k] = y at hx i7
            obtain ⟨y0, y1, y2, y3, y4, y5, y6⟩ := i7.cells
            clear i7 hS hneg hm1 hm2
            by_cases h6 : y.k ≤ 6
            · have D : decide (6 < y.k) = false := dec_f (by omega)
              have HN := Lib.hid (turn2_out hx h6)
              clear h6 hx
              go_wp2_with fail
              go_roundw
              case rel => exact ⟨(k : Int) - 1, by omega, by omega, by go_num, by rw [show ((k : Int) - 1 + 1).toNat = k by omega, HN.out]; exact HS.out⟩
              case measure => simp [intOf]
            · have D : decide (6 < y.k) = true := dec_t (by omega)
              have HN := Lib.hid (turn2_in hx h6)
              by_cases h7 : y.k = 7
              · have D7 : (y.k == 7) = true := by rw [beq_iff_eq]; exact h7
                have HNs := Lib.hid (show Pl.sw y = Pl.swap y by unfold Pl.sw; rw [if_pos h7])
                clear h6 h7 hx
                go_upto_region 21 with fail
                obtain ⟨⟨k0, k1, k2, k3, k4, k5, k6⟩, -⟩ := row7 (heap_alloc_new wr (itmX y))
                have hba := ((Below.refl wr.heap.size wr).alloc (Nat.le_refl _) (itmX y)).alloc (by simp) (.cells (cells7 (Pl.swap y)).toArray 44)
                have HX := Lib.hid (HS.out.below hba)
                have NW := new_one (wr.alloc (itmX y)) (Pl.swap y)
                rw [World.size_alloc] at NW
                have NW2 := Lib.hid NW
                have hsz := HS.out.1.size
                have hln := turn2_len I (k + 1)
                clear y0 y1 y2 y3 y4 y5 y6 NW hba
                go_wp2_with (at_builtin; refine wpList_append_row LItm _ rfl (.tmp 86) (.tmp 88) 22 rfl w8.heap.size 44 i0 _ 80 Tryz.underlying22 hi hz0 hz1 hz2 rfl _ _ _ rfl HX.out.2 (some ⟨wr.heap.size + 1, 0, none⟩) 1 1 [(Pl.swap y)] rfl (by decide) rfl NW2.out (by omega) (by omega) (by simp; omega) ?_; intro g1 cap1 w3 hown1 hg1 hb1)
                have H3 := Lib.hid (HX.out.behind hown1 hg1)
                clear hown1 hg1 hb1 HX NW2 k0 k1 k2 k3 k4 k5 k6
                go_wp2_with fail
                go_roundw
                case rel => exact ⟨(k : Int) - 1, by omega, by omega, by go_num, by rw [show ((k : Int) - 1 + 1).toNat = k by omega, HN.out, HNs.out]; exact H3.out⟩
                case measure => simp [intOf]
              · have D7 : (y.k == 7) = false := by rw [beq_eq_false_iff_ne]; exact h7
                have HNs := Lib.hid (show Pl.sw y = y by unfold Pl.sw; rw [if_neg h7])
                clear h6 h7 hx
                go_upto_region 21 with fail
                obtain ⟨⟨k0, k1, k2, k3, k4, k5, k6⟩, -⟩ := row7 (heap_alloc_new wr (itmO y))
                have hba := ((Below.refl wr.heap.size wr).alloc (Nat.le_refl _) (itmO y)).alloc (by simp) (.cells (cells7 y).toArray 44)
                have HX := Lib.hid (HS.out.below hba)
                have NW := new_one (wr.alloc (itmO y)) y
                rw [World.size_alloc] at NW
                have NW2 := Lib.hid NW
                have hsz := HS.out.1.size
                have hln := turn2_len I (k + 1)
                clear y0 y1 y2 y3 y4 y5 y6 NW hba
                go_wp2_with (at_builtin; refine wpList_append_row LItm _ rfl (.tmp 86) (.tmp 88) 22 rfl w8.heap.size 44 i0 _ 80 Tryz.underlying22 hi hz0 hz1 hz2 rfl _ _ _ rfl HX.out.2 (some ⟨wr.heap.size + 1, 0, none⟩) 1 1 [y] rfl (by decide) rfl NW2.out (by omega) (by omega) (by simp; omega) ?_; intro g1 cap1 w3 hown1 hg1 hb1)
                have H3 := Lib.hid (HX.out.behind hown1 hg1)
                clear hown1 hg1 hb1 HX NW2 k0 k1 k2 k3 k4 k5 k6
                go_wp2_with fail
                go_roundw
                case rel => exact ⟨(k : Int) - 1, by omega, by omega, by go_num, by rw [show ((k : Int) - 1 + 1).toNat = k by omega, HN.out, HNs.out]; exact H3.out⟩
                case measure => simp [intOf]
end Go.Proofs.YtaheiolbeiofpaaGreatDoor
