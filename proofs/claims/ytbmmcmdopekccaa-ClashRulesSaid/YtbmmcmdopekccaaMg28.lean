/-
  Texts of this claim, merged: LpRefB.
-/
import Derived.Test.YtbmmcmdopekccaaMg27
import Derived.Deep.RegionHeld3
/-
  The walk of the document's search of layer 8: where it goes on.
-/
namespace Go.Proofs.Ytbmmcmdopekccaa
open Go.RowKit

namespace Lp
open Go Pl Wk
variable {p : Plan} {go : Int → Int → List Stp → Nat → Option (List Stp) × Nat} {s sum : Int} {st : List Stp} {x : Stp} {l : List Stp} {m : Nat}
theorem seek_last (h : lasts p sum s x = true) : seek p go s sum st (x :: l) m = (some (st ++ [x]), m) := by rw [seek, if_pos h]
theorem seek_hit (h : lasts p sum s x = false) {r : List Stp} {m1 : Nat} (hg : go (next p s x.t).1 (next p s x.t).2.1 (st ++ [x]) m = (some r, m1)) : seek p go s sum st (x :: l) m = (some r, m1) := by rw [seek, if_neg (by rw [h]; decide), hg]
theorem seek_on (h : lasts p sum s x = false) {m1 : Nat} (hg : go (next p s x.t).1 (next p s x.t).2.1 (st ++ [x]) m = (none, m1)) : seek p go s sum st (x :: l) m = seek p go s sum st l m1 := by rw [seek, if_neg (by rw [h]; decide), hg]
end Lp
section
variable {p : Pl.Plan} {A : Option Addr} {c : Nat} {A' : Option Addr} {c' : Nat} {b : Int} {g : Nat} {w0 w : World} {n : Nat} {way : List Wk.Stp} {Aw : Option Addr} {cw : Nat}
set_option maxHeartbeats 8000000 in
set_option maxRecDepth 100000 in
theorem rlEnter_step (hI : PlanIn w0 p A A') (hf : Pl.Fit p) (hm : Lp.Meas p) (hway : LStp.Row w0 Aw way) (hwl : way.length ≤ 1000) (k : Nat)
    (IH : ∀ (s f : Int) (st : List Wk.Stp) (B : Option Addr) (d : Nat) (sum : Int) (n : Nat) (wr : World), LookAt p A c A' c' b (.slice Aw way.length cw) g w0 wr n → OwnS w0.heap.size wr B d st → (st = [] → B = none ∧ d = 0) → st.length + k = 16 → n + 2 ^ (k + 1) ≤ 1000000 → (∃ i : Nat, s = i ∧ i < p.secs.length) → (0 ≤ sum ∧ sum ≤ (st.length : Int) * 1099511627776) →
      Calls Try.prog 66 #[.pointer (some ⟨g, 0, none⟩), .int .i64 s, .int .i64 f, .slice B st.length d, .int .i64 sum] wr (LookGives p A c A' c' b (.slice Aw way.length cw) g w0 (Lp.enter p b way k s f st sum n) wr))
    (s f : Int) (st : List Wk.Stp) (B : Option Addr) (d : Nat) (sum : Int) (hh : LookAt p A c A' c' b (.slice Aw way.length cw) g w0 w n) (ho : OwnS w0.heap.size w B d st) (hnil : st = [] → B = none ∧ d = 0) (hl : st.length + (k + 1) = 16) (ht : n + 2 ^ (k + 2) ≤ 1000000) (hs0 : ∃ i : Nat, s = i ∧ i < p.secs.length) (hsum : 0 ≤ sum ∧ sum ≤ (st.length : Int) * 1099511627776)
    (hT : (decide (400 < n + 1) || Lp.bars b way st s) = false) :
    Calls Try.prog 66 #[.pointer (some ⟨g, 0, none⟩), .int .i64 s, .int .i64 f, .slice B st.length d, .int .i64 sum] w (LookGives p A c A' c' b (.slice Aw way.length cw) g w0 (Lp.seek p (fun s' f' st' n' => Lp.enter p b way k s' f' st' (sum + Lp.secLen p s) n') s (sum + Lp.secLen p s) st (Wk.outs p s f) (n + 1)) w) := by
  obtain ⟨⟨p0, p1, p2, p3, p4, p5, p6, p7, p8⟩, ⟨-, -, -, -, -, -, -, -, f8⟩, gg⟩ := row9 hh.2.2
  have hnl : n ≤ 1000000 := Nat.le_trans (Nat.le_add_right _ _) ht
  have q1 : IntKind.i64.wrap ((n : Int) + 1) = (n : Int) + 1 := IntWalk.i64_in _ (by omega)
  obtain ⟨i, rfl, hil⟩ := hs0
  rw [Bool.or_eq_false_iff] at hT
  obtain ⟨hT1, hT2⟩ := hT
  obtain ⟨hsb, hww, hws⟩ := Lp.bars_false hT2
  have hn4 := of_decide_eq_false hT1
  have HC := Lib.hid hh.came
  have OC := Lib.hid (own_tame ho HC.out.2 (by decide) (by decide))
  have RW := Lib.hid (hway.below rfl HC.out.1.1)
  have D : decide (400 < (n : Int) + 1) = false := dec_f (by omega)
  have E : ((i : Int) == b) = false := by rw [beq_eq_false_iff_ne]; exact hsb
  have D16 : ((st.length : Int) == 16) = false := by rw [beq_eq_false_iff_ne]; omega
  have CW := Lib.hid (rwWithin_any Aw cw way (i : Int) _ RW.out (by omega))
  have CS := Lib.hid (rwWithin_any B d st (i : Int) _ (OwnS.row OC.out) (by omega))
  rw [hww] at CW
  rw [hws] at CS
  obtain ⟨bS, oS, rfl, gS, onS⟩ := (hI.below HC.out.1.1).1.at hil
  have onl := (sec_on onS).2.2.1
  rw [show i * LSec.m = i * 12 from rfl] at onl
  have hlen := Lp.secLen_bd hm (i : Int)
  have hll : (p.secs[i]).len = Lp.secLen p (i : Int) := (Lp.secLen_at (List.getElem?_eq_getElem hil)).symm
  rw [hll] at onl
  have CO := Lib.hid (fun W (hb : Below w0.heap.size w0 W) => rwOuts_own p (some ⟨bS, oS, none⟩) c A' c' (i : Int) f W (hI.below hb))
  have HIH := Lib.hid IH
  have HI := Lib.hid hI
  have HF := Lib.hid hf
  have HSN := Lib.hid (show 0 ≤ sum + Lp.secLen p (i : Int) ∧ sum + Lp.secLen p (i : Int) ≤ ((st.length + 1 : Nat) : Int) * 1099511627776 from by omega)
  have q2 : IntKind.i64.wrap (sum + Lp.secLen p (i : Int)) = sum + Lp.secLen p (i : Int) := IntWalk.i64_in _ (by omega)
  have HNS := Lib.hid (show st.length = 0 → Value.slice B st.length d = .slice none 0 0 from fun h0 => by obtain ⟨rfl, rfl⟩ := hnil (List.eq_nil_of_length_eq_zero h0); rw [h0])
  obtain ⟨i0, hi, hz0, hz1, hz2⟩ := info_parts infoStp2
  have hlo := Wk.outs_len p (i : Int) f
  have HT2 := Lib.hid ht
  have HL := Lib.hid hl
  have hst : st.length ≤ 15 := by omega
  have hi0 : (0 : Int) ≤ (i : Int) := Int.natCast_nonneg i
  have hi1 : (i : Int) < (p.secs.length : Int) := by omega
  have HG := Lib.hid (fun s' f' st' (n' : Nat) => (Lp.enter_le p b way k s' f' st' (sum + Lp.secLen p (i : Int)) n').2)
  clear hT1 hT2 hsb hww hws hn4 hh ho IH hI hnil ht hl onS hll hlen hsum hf hm hway hnl
  generalize hgo : (fun (s' f' : Int) (st' : List Wk.Stp) (n' : Nat) => Lp.enter p b way k s' f' st' (sum + Lp.secLen p (i : Int)) n') = go
  have HGO := Lib.hid hgo
  clear hgo
  generalize Wk.outs p (i : Int) f = L at CO hlo ⊢
  go_enter Try.func66, Try.ntmps66
  go_wp2_with fail
  refine CW.out.mono ?_; rintro e w1 ⟨rfl, rfl⟩
  go_wp2_with fail
  refine CS.out.mono ?_; rintro e w1 ⟨rfl, rfl⟩
  go_wp2_with fail
  refine (CO.out _ HC.out.1.1).mono ?_; rintro e w5 ⟨Al, dl, rfl, hol, hb5⟩
  have H5 := Lib.hid (HC.out.1.below hb5)
  have T5 := Lib.hid (HC.out.2.trans (Below.tame hb5 _ _))
  have OL := Lib.hid (show OwnS w0.heap.size w5 Al dl L from own_mono hol HC.out.1.1.size)
  have OS := Lib.hid (ownsRow_below OC.out hb5)
  clear hol hb5 p0 p1 p2 p3 p4 p5 p6 p7 p8 f8 gg D E D16 q1 CO CW CS HC OC RW onl
  generalize sum + Lp.secLen p (i : Int) = sm at *
  have HSM := Lib.hid HSN.out
  go_wp2_with fail
  go_loopw [13] (fun v w' => ∃ (j m : Nat), j ≤ L.length ∧ v = .int .i64 j ∧ LookAt p (some ⟨bS, oS, none⟩) c A' c' b (.slice Aw way.length cw) g w0 w' m ∧ LTame w5 w' ∧ m ≤ n + 1 + j * (2 ^ (k + 1) - 1) ∧ Lp.seek p go i sm st L (n + 1) = Lp.seek p go i sm st (L.drop j) m) (fun v _ => L.length - (intOf v).toNat)
  case atStart => exact ⟨0, n + 1, Nat.zero_le _, rfl, H5.out, Tame.refl _ _ _, Nat.le_add_right _ _, by rw [List.drop_zero]⟩
  case round =>
    obtain ⟨j, m, hj, rfl, hH, hTm, hmn, hsk⟩ := hrel
    have HH := Lib.hid hH
    have HTm := Lib.hid hTm
    have HSK := Lib.hid hsk
    clear hH hTm hsk
    by_cases hlt : j < L.length
    · have hdr : L.drop j = L[j] :: L.drop (j + 1) := List.drop_eq_getElem_cons hlt
      have OLr := own_tame OL.out HTm.out (by decide) (by decide)
      have OSr := Lib.hid (own_tame OS.out HTm.out (by decide) (by decide))
      obtain ⟨bl, ol, rfl, hbl, on⟩ := (OwnS.row OLr).at hlt
      obtain ⟨a0, a1, a2⟩ := stp_on on
      rw [show j * LStp.m = j * 3 from rfl] at a0 a1 a2
      have HM := Lib.hid (show m + 2 ^ (k + 1) ≤ 1000000 from by
        have x1 := HT2.out
        rw [Nat.pow_succ 2 (k + 1)] at x1
        have hj1 : j ≤ 1 := by omega
        have y1 := Nat.mul_le_mul_right (2 ^ (k + 1) - 1) hj1
        have y3 : 1 ≤ 2 ^ (k + 1) := Nat.one_le_two_pow
        omega)
      have HMN := Lib.hid hmn
      rw [hdr] at HSK
      have HXI := Lib.hid (show True from trivial)
      generalize L[j] = x at a0 a1 a2 HSK
      have hws := HH.out.1.size
      clear OLr hdr on hmn HXI
      have HE0 := Lib.hid (Below.refl wr.heap.size wr)
      have KX := Lib.hid (fun W (hb : Below wr.heap.size wr W) => show W.cell? ⟨bl, ol + j * 3, none⟩ = some (.int .i64 x.s) ∧ W.cell? ⟨bl, ol + j * 3 + 1, none⟩ = some (.int .i64 x.f) ∧ W.cell? ⟨bl, ol + j * 3 + 2, none⟩ = some (.int .i64 x.t) from ⟨(hb.cell (p := ⟨bl, ol + j * 3, none⟩) hbl).trans a0, (hb.cell (p := ⟨bl, ol + j * 3 + 1, none⟩) hbl).trans a1, (hb.cell (p := ⟨bl, ol + j * 3 + 2, none⟩) hbl).trans a2⟩)
      go_upto_region 9 with fail
      go_cut [14] from 76 to 128 (fun s14 w' => w'.ownsRow wr.heap.size 39 3 s14 (st.length + 1) (LStp.all (st ++ [x])) ∧ Below wr.heap.size wr w')
      case first =>
        --[
        go_region_held3 (fun W => W.cell? ⟨bl, ol + j * 3, none⟩ = some (.int .i64 x.s) ∧ W.cell? ⟨bl, ol + j * 3 + 1, none⟩ = some (.int .i64 x.f) ∧ W.cell? ⟨bl, ol + j * 3 + 2, none⟩ = some (.int .i64 x.t))
          (first | with_reducible exact KX.out _ HE0.out.drew | with_reducible exact KX.out _ hb4 | with_reducible exact KX.out _ hb3 | (go_keep; done))
          (first
          | (refine step_append_rows (by rfl) (.tmp 82) (.tmp 83) 31 (by rfl) wr.heap.size 39 i0 _ 3 24 Try.underlying31 hi hz0 hz1 hz2 rfl (by decide) (.slice (some ⟨wr.heap.size, 0, none⟩) 0 0) 0 [] (by rfl) ((own_empty wr rfl (Nat.le_refl _)).drew) w0.heap.size (.slice B st.length d) st.length (LStp.all st) (by rfl) ((OSr.out.alloc _).drew) (LStp.all_single st) (by unfold maxLen; omega) (by omega) (by first | omega | (simp; done) | (simp; omega)) (fun h0 => HNS.out h0) ?_
             intro v1 w3 hown1 hg1
             have hb3 : Below wr.heap.size wr w3 := Below.grown (((Below.refl wr.heap.size wr).alloc (by first | omega | (simp; done) | (simp; omega)) _).drew) hg1 (by first | omega | (simp; done) | (simp; omega)) (fun k hk => by cases hk; first | omega | (simp; done) | (simp; omega))
             have hgl3 := hb3.size)
          | (refine step_append_rows (by rfl) (.tmp 82) (.tmp 83) 31 (by rfl) wr.heap.size 39 i0 _ 3 24 Try.underlying31 hi hz0 hz1 hz2 rfl (by decide) (.slice (some ⟨wr.heap.size, 0, none⟩) 0 0) 0 [] (by rfl) (((own_empty wr rfl (Nat.le_refl _)).alloc _).drew) w0.heap.size (.slice B st.length d) st.length (LStp.all st) (by rfl) (((OSr.out.alloc _).alloc _).drew) (LStp.all_single st) (by unfold maxLen; omega) (by omega) (by first | omega | (simp; done) | (simp; omega)) (fun h0 => HNS.out h0) ?_
             intro v1 w3 hown1 hg1
             have hb3 : Below wr.heap.size wr w3 := Below.grown ((((Below.refl wr.heap.size wr).alloc (by first | omega | (simp; done) | (simp; omega)) _).alloc (by first | omega | (simp; done) | (simp; omega)) _).drew) hg1 (by first | omega | (simp; done) | (simp; omega)) (fun k hk => by cases hk; first | omega | (simp; done) | (simp; omega))
             have hgl3 := hb3.size
             have hx3 : OwnS wr.heap.size w3 (some ⟨wr.heap.size + 1, 0, none⟩) 1 [x] := own_kept (World.ownsRow.drew (own_one (wr.alloc (.cells #[] 39)) x (g := wr.heap.size + 1) (base := wr.heap.size) (by simp))) (fun k hk => by cases hk; exact hg1.block _ (by first | omega | (simp; done) | (simp; omega)) (fun h => by simp [Value.ownBlock] at h)))
          | (refine step_append_rows (by rfl) (.tmp 82) (.tmp 83) 31 (by rfl) wr.heap.size 39 i0 _ 3 24 Try.underlying31 hi hz0 hz1 hz2 rfl (by decide) (.slice (some ⟨wr.heap.size + 1, 0, none⟩) 0 0) 0 [] (by rfl) ((own_empty (wr.alloc (.cells #[.int .i64 x.s, .int .i64 x.f, .int .i64 x.t] 39)) (by simp) (by simp)).drew) w0.heap.size (.slice B st.length d) st.length (LStp.all st) (by rfl) (((OSr.out.alloc _).alloc _).drew) (LStp.all_single st) (by unfold maxLen; omega) (by omega) (by first | omega | (simp; done) | (simp; omega)) (fun h0 => HNS.out h0) ?_
             intro v1 w3 hown1 hg1
             have hb3 : Below wr.heap.size wr w3 := Below.grown ((((Below.refl wr.heap.size wr).alloc (by first | omega | (simp; done) | (simp; omega)) _).alloc (by first | omega | (simp; done) | (simp; omega)) _).drew) hg1 (by first | omega | (simp; done) | (simp; omega)) (fun k hk => by cases hk; first | omega | (simp; done) | (simp; omega))
             have hgl3 := hb3.size
             have hx3 : OwnS wr.heap.size w3 (some ⟨wr.heap.size, 0, none⟩) 1 [x] := own_kept (World.ownsRow.drew (World.ownsRow.alloc (own_one wr x (g := wr.heap.size) (base := wr.heap.size) rfl (Nat.le_refl _)) _)) (fun k hk => by cases hk; exact hg1.block _ (by first | omega | (simp; done) | (simp; omega)) (fun h => by simp [Value.ownBlock] at h)))
          | (refine step_append_rows (by rfl) (.tmp 84) (.tmp 89) 31 (by rfl) wr.heap.size 39 i0 _ 3 24 Try.underlying31 hi hz0 hz1 hz2 rfl (by decide) v1 (0 + st.length) ([] ++ LStp.all st) (by rfl) (by first | exact hown1 | exact hown1.alloc _) wr.heap.size (.slice (some ⟨w3.heap.size, 0, none⟩) 1 1) 1 (LStp.all [x]) (by rfl) (own_one w3 x rfl hgl3) (LStp.all_single [x]) (by unfold maxLen; omega) (by omega) (by first | omega | (simp; done) | (simp; omega)) (fun h0 => by cases h0) ?_
             intro v2 w4 hown2 hg2
             have hb4 : Below wr.heap.size wr w4 := Below.grown (hb3.alloc hb3.size _) hg2 (by first | omega | (simp; done) | (simp; omega)) (fun k hk => (hown1.lt k hk).1))
          | (refine step_append_rows (by rfl) (.tmp 84) (.tmp 89) 31 (by rfl) wr.heap.size 39 i0 _ 3 24 Try.underlying31 hi hz0 hz1 hz2 rfl (by decide) v1 (0 + st.length) ([] ++ LStp.all st) (by rfl) (by first | exact hown1 | exact hown1.alloc _) wr.heap.size (.slice (some ⟨wr.heap.size + 1, 0, none⟩) 1 1) 1 (LStp.all [x]) (by rfl) (hx3) (LStp.all_single [x]) (by unfold maxLen; omega) (by omega) (by first | omega | (simp; done) | (simp; omega)) (fun h0 => by cases h0) ?_
             intro v2 w4 hown2 hg2
             have hb4 : Below wr.heap.size wr w4 := Below.grown (hb3) hg2 (by first | omega | (simp; done) | (simp; omega)) (fun k hk => (hown1.lt k hk).1))
          | (refine step_append_rows (by rfl) (.tmp 84) (.tmp 89) 31 (by rfl) wr.heap.size 39 i0 _ 3 24 Try.underlying31 hi hz0 hz1 hz2 rfl (by decide) v1 (0 + st.length) ([] ++ LStp.all st) (by rfl) (by first | exact hown1 | exact hown1.alloc _) wr.heap.size (.slice (some ⟨wr.heap.size, 0, none⟩) 1 1) 1 (LStp.all [x]) (by rfl) (hx3) (LStp.all_single [x]) (by unfold maxLen; omega) (by omega) (by first | omega | (simp; done) | (simp; omega)) (fun h0 => by cases h0) ?_
             intro v2 w4 hown2 hg2
             have hb4 : Below wr.heap.size wr w4 := Below.grown (hb3) hg2 (by first | omega | (simp; done) | (simp; omega)) (fun k hk => (hown1.lt k hk).1)))
        all_goals go_wp2_with fail
        all_goals go_meet
        all_goals (refine ⟨?_, hb4⟩; rw [LStp.all_append]; rw [Nat.zero_add, List.nil_append] at hown2; exact hown2)
        --]
      case rest =>
        obtain ⟨hq, hbq⟩ := hcut
        obtain ⟨-, Bq, dq, rfl, -, -⟩ := Lies.Row.of_own (E := LStp) (n := st.length + 1) (L := st ++ [x]) hq
        have HQ := Lib.hid (show OwnS w0.heap.size wc Bq dq (st ++ [x]) from by unfold OwnS; rw [List.length_append]; exact own_mono hq hws)
        have HHq := Lib.hid (HH.out.below hbq)
        have HTq := Lib.hid (HTm.out.trans (Below.tame hbq _ _))
        have e2 := (hbq.cell (p := ⟨bl, ol + j * 3 + 2, none⟩) hbl).trans a2
        have hblq : bl < wc.heap.size := Nat.lt_of_lt_of_le hbl hbq.size
        obtain ⟨⟨p0, p1, p2, p3, p4, p5, -, -, -⟩, -, gg⟩ := row9 HHq.out.2.2
        have CN := Lib.hid (fun W (hb : Below wc.heap.size wc W) => rwNext_any p (some ⟨bS, oS, none⟩) c A' c' (i : Int) x.t W (HI.out.below (HHq.out.1.trans (hb.mono HHq.out.1.size))))
        clear hq hbq a0 a1 a2 hbl HE0 KX
        generalize hnx : Wk.next p (i : Int) x.t = nx at CN
        have HNX := Lib.hid hnx
        obtain ⟨n1, n2, n3⟩ := nx
        clear hnx
        generalize wc = w7 at HQ HHq HTq e2 hblq p0 p1 p2 p3 p4 p5 gg CN ⊢
        have B7 := Lib.hid (Below.refl w7.heap.size w7)
        go_upto_region 10 with fail
        go_cut [15, 16, 17] from 76 to 128 (fun s15 s16 s17 w' => (s15 = .int .i64 n1 ∧ s16 = .int .i64 n2 ∧ s17 = .bool n3) ∧ Below w7.heap.size w7 w')
        case first =>
          --[
          have KS := Lib.hid (fun W (hb : Below w7.heap.size w7 W) => show (W.cell? ⟨g, 0, none⟩ = some (.int .i64 p.ov) ∧ W.cell? ⟨g, 1, none⟩ = some (.int .i64 p.ap) ∧ W.cell? ⟨g, 2, none⟩ = some (.int .i64 p.se) ∧ W.cell? ⟨g, 3, none⟩ = some (.int .i64 p.ho) ∧ W.cell? ⟨g, 4, none⟩ = some (.slice (some ⟨bS, oS, none⟩) p.secs.length c) ∧ W.cell? ⟨g, 5, none⟩ = some (.slice A' p.sigs.length c')) ∧ W.cell? ⟨bl, ol + j * 3 + 2, none⟩ = some (.int .i64 x.t) from ⟨⟨(hb.cell (p := ⟨g, 0, none⟩) gg).trans p0, (hb.cell (p := ⟨g, 1, none⟩) gg).trans p1, (hb.cell (p := ⟨g, 2, none⟩) gg).trans p2, (hb.cell (p := ⟨g, 3, none⟩) gg).trans p3, (hb.cell (p := ⟨g, 4, none⟩) gg).trans p4, (hb.cell (p := ⟨g, 5, none⟩) gg).trans p5⟩, (hb.cell (p := ⟨bl, ol + j * 3 + 2, none⟩) hblq).trans e2⟩)
          have CM := Lib.hid (fun W (hb : Below w7.heap.size w7 W) => Made.of (w := w7) hb (CN.out W hb))
          go_region_held3 (fun W => (W.cell? ⟨g, 0, none⟩ = some (.int .i64 p.ov) ∧ W.cell? ⟨g, 1, none⟩ = some (.int .i64 p.ap) ∧ W.cell? ⟨g, 2, none⟩ = some (.int .i64 p.se) ∧ W.cell? ⟨g, 3, none⟩ = some (.int .i64 p.ho) ∧ W.cell? ⟨g, 4, none⟩ = some (.slice (some ⟨bS, oS, none⟩) p.secs.length c) ∧ W.cell? ⟨g, 5, none⟩ = some (.slice A' p.sigs.length c')) ∧ W.cell? ⟨bl, ol + j * 3 + 2, none⟩ = some (.int .i64 x.t))
            (first | with_reducible exact KS.out _ B7.out.drew | with_reducible exact KS.out _ hacc)
            (first | (go_at_call 40; (with_reducible refine (CM.out _ B7.out.drew).mono ?_); rintro e w' ⟨rfl, hbl, hacc, hz⟩))
          all_goals go_wp2_with fail
          all_goals go_meet
          all_goals exact ⟨⟨rfl, rfl, rfl⟩, hacc⟩
          --]
        case rest =>
          obtain ⟨⟨rfl, rfl, rfl⟩, hb9⟩ := hcut
          have HQ9 := Lib.hid (ownsRow_below HQ.out hb9)
          have HH9 := Lib.hid (HHq.out.below hb9)
          have HTQ := Lib.hid (HTq.out.trans (Below.tame hb9 _ _))
          have HT9 := Lib.hid (T5.out.trans HTQ.out)
          clear hb9 e2 hblq p0 p1 p2 p3 p4 p5 gg CN HQ HHq HTq B7
          generalize wc = w9 at HQ9 HH9 HT9 HTQ ⊢
          have hlx : (st ++ [x]).length = st.length + 1 := by rw [List.length_append]; rfl
          have HLX := Lib.hid hlx
          obtain ⟨⟨r0, r1, r2, r3, r4, r5, -, -, -⟩, -, gg9⟩ := row9 HH9.out.2.2
          --[
          cases hls : Lp.lasts p sm i x with
          | true =>
            have HG2 := Lib.hid (show Lp.seek p go i sm st L (n + 1) = (some (st ++ [x]), m) from HSK.out.trans (Lp.seek_last hls))
            have FIN := Lib.hid (show LookGives p (some ⟨bS, oS, none⟩) c A' c' b (.slice Aw way.length cw) g w0 (Lp.seek p go i sm st L (n + 1)) w (.returned (.tuple #[.slice Bq (st.length + 1) dq, .bool true])) w9 from by
              rw [HG2.out, ← HLX.out]
              exact ⟨Bq, dq, rfl, HQ9.out, HH9.out, HT9.out⟩)
            have hway : n3 = false ∨ p.ov ≤ sm := by
              have := Lp.lasts_true hls
              rwa [HNX.out] at this
            clear hls hlx
            rcases (show n3 = false ∨ (n3 = true ∧ p.ov ≤ sm) by cases n3; exact .inl rfl; exact .inr ⟨rfl, hway.resolve_left (by decide)⟩) with rfl | ⟨rfl, h0⟩
            all_goals clear hway
            · go_wp2_with fail
              refine bodyPost_ret ?_ rfl FIN.out
              simp [results, Try.results66, go_sem]
            · have D : decide (p.ov ≤ sm) = true := dec_t h0
              clear h0
              go_wp2_with fail
              refine bodyPost_ret ?_ rfl FIN.out
              simp [results, Try.results66, go_sem]
          | false =>
            obtain ⟨h1', h0⟩ := Lp.lasts_false hls
            rw [HNX.out] at h1'
            have D : decide (p.ov ≤ sm) = false := dec_f (by omega)
            have hin := Lp.next_in HF.out (s := (i : Int)) (e := x.t) (by rw [HNX.out]; exact h1')
            rw [HNX.out] at hin
            obtain ⟨i2, f2, hi2, hl2, -, -⟩ := hin
            obtain rfl : n3 = true := h1'
            have ih := HIH.out n1 n2 (st ++ [x]) Bq dq sm m w9 HH9.out HQ9.out (fun h => by simp at h) (by have := HL.out; omega) HM.out ⟨i2, hi2, hl2⟩ (by rw [hlx]; exact HSM.out)
            have hgo : Lp.enter p b way k n1 n2 (st ++ [x]) sm m = go n1 n2 (st ++ [x]) m := by rw [← HGO.out]
            rw [hlx, hgo] at ih
            have HGB := Lib.hid (show (go n1 n2 (st ++ [x]) m).2 ≤ m + (2 ^ (k + 1) - 1) from by rw [← hgo]; exact HG.out _ _ _ _)
            have HGE := Lib.hid (show ∀ r, go n1 n2 (st ++ [x]) m = r → go (Wk.next p i x.t).1 (Wk.next p i x.t).2.1 (st ++ [x]) m = r from fun r hr => by rw [HNX.out]; exact hr)
            generalize hgr : go n1 n2 (st ++ [x]) m = r at ih HGB
            obtain ⟨o, m1⟩ := r
            have HGR := Lib.hid (HGE.out _ hgr)
            clear hgr hgo hlx h0 hi2 hl2
            cases o with
            | some r =>
              have HG2 := Lib.hid (show Lp.seek p go i sm st L (n + 1) = (some r, m1) from HSK.out.trans (Lp.seek_hit hls HGR.out))
              have CI := Lib.hid (show Calls Try.prog 66 #[.pointer (some ⟨g, 0, none⟩), .int .i64 n1, .int .i64 n2, .slice Bq (st.length + 1) dq, .int .i64 sm] w9 (fun e w' => ∃ B d, e = .returned (.tuple #[.slice B r.length d, .bool true]) ∧ OwnS w0.heap.size w' B d r ∧ LookAt p (some ⟨bS, oS, none⟩) c A' c' b (.slice Aw way.length cw) g w0 w' m1 ∧ LTame w9 w') from ih)
              clear ih hls
              go_wp2_with fail
              refine CI.out.mono ?_; rintro e w10 ⟨B1, d1, rfl, ho1, hL1, hT1⟩
              have FIN := Lib.hid (show LookGives p (some ⟨bS, oS, none⟩) c A' c' b (.slice Aw way.length cw) g w0 (Lp.seek p go i sm st L (n + 1)) w (.returned (.tuple #[.slice B1 r.length d1, .bool true])) w10 from by
                rw [HG2.out]
                exact ⟨B1, d1, rfl, ho1, hL1, HT9.out.trans hT1⟩)
              clear ho1 hL1 hT1
              go_wp2_with fail
              refine bodyPost_ret ?_ rfl FIN.out
              simp [results, Try.results66, go_sem]
            | none =>
              have HG2 := Lib.hid (show Lp.seek p go i sm st L (n + 1) = Lp.seek p go i sm st (L.drop (j + 1)) m1 from HSK.out.trans (Lp.seek_on hls HGR.out))
              have CI := Lib.hid (show Calls Try.prog 66 #[.pointer (some ⟨g, 0, none⟩), .int .i64 n1, .int .i64 n2, .slice Bq (st.length + 1) dq, .int .i64 sm] w9 (fun e w' => ∃ B d, e = .returned (.tuple #[.slice B 0 d, .bool false]) ∧ OwnS w0.heap.size w' B d [] ∧ LookAt p (some ⟨bS, oS, none⟩) c A' c' b (.slice Aw way.length cw) g w0 w' m1 ∧ LTame w9 w') from ih)
              clear ih hls
              go_wp2_with fail
              refine CI.out.mono ?_; rintro e w10 ⟨B1, d1, rfl, ho1, hL1, hT1⟩
              have H10 := Lib.hid hL1
              have T10 := Lib.hid hT1
              clear ho1 hL1 hT1
              go_wp2_with fail
              go_roundw
              case rel => exact ⟨j + 1, m1, by omega, by go_num, H10.out, HTQ.out.trans T10.out, by have h1 : m1 ≤ m + (2 ^ (k + 1) - 1) := HGB.out; have h2 := HMN.out; rw [Nat.succ_mul]; omega, HG2.out⟩
              case measure => simp [intOf]; omega
          --]
    · obtain rfl : j = L.length := by omega
      have FIN := Lib.hid (show LookGives p (some ⟨bS, oS, none⟩) c A' c' b (.slice Aw way.length cw) g w0 (Lp.seek p go i sm st L (n + 1)) w (.returned (.tuple #[.slice none 0 0, .bool false])) wr from by
        rw [HSK.out, List.drop_length]
        exact ⟨none, 0, rfl, World.ownsRow_nil _ _ _ _, HH.out, T5.out.trans HTm.out⟩)
      go_wp2_with fail
      refine bodyPost_ret ?_ rfl FIN.out
      simp [results, Try.results66, go_sem]
end
end Go.Proofs.Ytbmmcmdopekccaa
