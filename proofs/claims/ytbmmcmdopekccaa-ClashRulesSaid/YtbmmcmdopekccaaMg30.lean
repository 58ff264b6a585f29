/-
  Texts of this claim, merged: RtRef.
-/
import Derived.Test.YtbmmcmdopekccaaMg20
import Derived.Test.YtbmmcmdopekccaaMg24
import Derived.Test.YtbmmcmdopekccaaMg26
import Derived.Test.YtbmmcmdopekccaaMg29
import Derived.BigQuiet
import Derived.Deep.CutRange
import Derived.Deep.RegionHeld3
/-
  The walk of the document's layer 12: the route of a way.
-/
namespace Go.Proofs.Ytbmmcmdopekccaa
open Go.RowKit

set_option maxHeartbeats 16000000 in
set_option maxRecDepth 100000 in
theorem rtOf_any (p : Pl.Plan) (hf : Pl.Fit p) (hm : Lp.Meas p) (hap : 0 ≤ p.ap ∧ p.ap ≤ 1125899906842624) (hho : 0 ≤ p.ho ∧ p.ho ≤ 1125899906842624) (A : Option Addr) (c : Nat) (A' : Option Addr) (c' : Nat) (i : Nat) (hi : i < p.sigs.length) (y : Cr.Way) (hy : y ∈ (Cr.of p i).1) (Aw : Option Addr) (cw : Nat) (w : World) (h : PlanIn w p A A') (hway : TRow 39 LStp w Aw y.steps) :
    Calls Try.prog 25 #[planV p A c A' c', .int .i64 i, wayV Aw cw y] w (RouteYes (Rt.of p i y) w) := by
  obtain ⟨hP, hY, hZ, hB⟩ := three_puts w (planO p A c A' c') (wayO Aw y.steps.length cw y.exit) rtZ
  have hst := Cr.of_steps hy
  have X0 := Lib.hid hB
  have HI := Lib.hid (h.below hB)
  have HW := Lib.hid (hway.below hB)
  have CL := Lib.hid (rlOf_any p hf hm A c A' c' i y Aw cw _ (h.below hB) (hway.below hB).row (by omega))
  have hpos := Rt.own_pos hi hy
  have hl16 := Lp.of_steps (p := p) (i := i) (w := y)
  have HOF := Lib.hid (show Rt.of p i y = if (Lp.of p i y).2 = 0 then (Rt.fill p i y (Lp.of p i y).1, 0) else (Rt.zero, (Lp.of p i y).2) from rfl)
  obtain ⟨⟨p0, p1, p2, p3, p4, p5⟩, -, gp⟩ := row6 hP
  obtain ⟨⟨y0, y1⟩, -, gy⟩ := rowY hY
  obtain ⟨⟨z0, z1, z2, z3, z4, z5, z6, z7, z8⟩, ⟨e0, e1, e2, e3, e4, e5, e6, e7, e8⟩, gz⟩ := row9 hZ
  have HH := Lib.hid (And.intro hP (And.intro hY hZ))
  have HPO := Lib.hid hpos
  have ND := Rt.near_bd hf hm (i : Int)
  clear hP hY hZ hB h hway hpos
  generalize Lp.of p i y = u at CL hl16 HOF HPO
  obtain ⟨l, er⟩ := u
  simp only at hl16 HOF HPO
  obtain ⟨ys, yx⟩ := y
  simp only at hst y0 HPO
  generalize hw3 : ((w.alloc (planO p A c A' c')).alloc (wayO Aw ys.length cw yx)).alloc rtZ = w3 at X0 HI HW CL HH p0 p1 p2 p3 p4 p5 gp y0 y1 gy z0 z1 z2 z3 z4 z5 z6 z7 z8 e0 e1 e2 e3 e4 e5 e6 e7 e8 gz
  have hsz : w3.heap.size = w.heap.size + 1 + 1 + 1 := by rw [← hw3]; simp
  have hgo : ∀ Q : Ending → World → Prop, (Calls Try.prog 25 #[planV p A c A' c', .int .i64 i, wayV Aw cw ⟨ys, yx⟩] w Q) = (Calls Try.prog 25 #[.agg #[.int .i64 p.ov, .int .i64 p.ap, .int .i64 p.se, .int .i64 p.ho, .slice A p.secs.length c, .slice A' p.sigs.length c'], .int .i64 i, .agg #[.slice Aw ys.length cw, .int .i64 yx]] w Q) := fun _ => rfl
  rw [hgo]
  clear hgo
  go_enter Try.func25, Try.ntmps25
  go_upto_region 1 with fail
  clear hw3
  go_wp2_with fail
  refine CL.out.mono ?_; rintro e w4 ⟨B4, d4, rfl, hR4, hd4, hb4⟩
  have X4 := Lib.hid (X0.out.trans (hb4.mono X0.out.size))
  have HH4 := Lib.hid (And.intro ((hb4.block _ gp).trans HH.out.1) (And.intro ((hb4.block _ gy).trans HH.out.2.1) ((hb4.block _ gz).trans HH.out.2.2)))
  have R4 := Lib.hid hR4
  have W4 := Lib.hid (HW.out.below hb4)
  have I4 := Lib.hid (HI.out.below hb4)
  have S34 := hb4.size
  clear p0 p1 p2 p3 p4 p5 gp y0 y1 gy z0 z1 z2 z3 z4 z5 z6 z7 z8 e0 e1 e2 e3 e4 e5 e6 e7 e8 gz CL hR4 hb4 HW HI X0 HH
  obtain ⟨⟨p0, p1, p2, p3, p4, p5⟩, -, gp⟩ := row6 HH4.out.1
  obtain ⟨⟨y0, y1⟩, -, gy⟩ := rowY HH4.out.2.1
  obtain ⟨⟨z0, z1, z2, z3, z4, z5, z6, z7, z8⟩, ⟨e0, e1, e2, e3, e4, e5, e6, e7, e8⟩, gz⟩ := row9 HH4.out.2.2
  by_cases her : er = 0
  · --[
    subst her
    have E := Lib.hid (show Rt.of p i ⟨ys, yx⟩ = (Rt.fill p i ⟨ys, yx⟩ l, 0) from by rw [HOF.out, if_pos rfl])
    have X5 := (Below.refl w4.heap.size w4).alloc (Nat.le_refl _) (rtR i yx (.slice Aw ys.length cw) (.slice B4 l.length d4) (.slice none 0 0) (.slice none 0 0) (.slice none 0 0) 0 0)
    have RR5 := Lib.hid (heap_alloc_new w4 (rtR i yx (.slice Aw ys.length cw) (.slice B4 l.length d4) (.slice none 0 0) (.slice none 0 0) (.slice none 0 0) 0 0))
    have B45 := Lib.hid X5
    have S45 := Lib.hid (show w4.heap.size < (w4.alloc (rtR i yx (.slice Aw ys.length cw) (.slice B4 l.length d4) (.slice none 0 0) (.slice none 0 0) (.slice none 0 0) 0 0)).heap.size from by simp)
    go_upto_region 5 with fail
    generalize w4.alloc (rtR i yx (.slice Aw ys.length cw) (.slice B4 l.length d4) (.slice none 0 0) (.slice none 0 0) (.slice none 0 0) 0 0) = w5 at RR5 B45 S45 ⊢
    have KH := Lib.hid (fun W (hW : Below w4.heap.size w4 W) => And.intro ((hW.block _ gp).trans HH4.out.1) (And.intro ((hW.block _ gy).trans HH4.out.2.1) ((hW.block _ gz).trans HH4.out.2.2)))
    have KI := Lib.hid (fun W (hW : Below w4.heap.size w4 W) => I4.out.below hW)
    have KW := Lib.hid (fun W (hW : Below w4.heap.size w4 W) => And.intro (W4.out.below hW) (R4.out.below hW))
    have GS := Lib.hid (And.intro gp (And.intro gy gz))
    generalize hgr : w4.heap.size = gr at RR5 S45 ⊢
    have HGR := Lib.hid hgr
    clear hgr
    clear p0 p1 p2 p3 p4 p5 y0 y1 z0 z1 z2 z3 z4 z5 z6 z7 z8 e0 e1 e2 e3 e4 e5 e6 e7 e8 gp gy gz X5 HH4 I4 W4 R4
    obtain ⟨⟨p0, p1, p2, p3, p4, p5⟩, -, gp⟩ := row6 (KH.out _ B45.out).1
    obtain ⟨⟨y0, y1⟩, -, gy⟩ := rowY (KH.out _ B45.out).2.1
    have CF := Lib.hid (rfOf_any p hf A c A' c' ys l Aw B4 cw d4 w5 (KI.out _ B45.out) (KW.out _ B45.out).1.row (KW.out _ B45.out).2.row (by omega) HPO.out)
    have EF := Lib.hid (show Rt.fill p i ⟨ys, yx⟩ l = ⟨i, yx, ys, l, (Fl.of p (ys ++ l)).pts, (Fl.of p (ys ++ l)).fl, ints (Nr.of p i).1, (Nr.of p i).2, p.ho + (Nr.of p i).2 / 100000⟩ from rfl)
    generalize Fl.of p (ys ++ l) = gf at CF EF
    go_wp2_with fail
    refine CF.out.mono ?_; rintro e w6 ⟨B5, d5, B6, d6, rfl, hR5, hd5, hR6, hd6, hb6, hn5, hn6⟩
    have B46 := Lib.hid (B45.out.trans (hb6.mono B45.out.size))
    have RR6 := Lib.hid ((hb6.block gr S45.out).trans RR5.out)
    have P5 := Lib.hid (And.intro hR5 (And.intro hd5 hn5))
    have P6 := Lib.hid (And.intro hR6 (And.intro hd6 hn6))
    have S56 := Lib.hid hb6.size
    clear hR5 hd5 hR6 hd6 hb6 hn5 hn6 CF RR5 p0 p1 p2 p3 p4 p5 gp y0 y1 gy
    obtain ⟨⟨r0, r1, r2, r3, r4, r5, r6, r7, r8⟩, ⟨f0, f1, f2, f3, f4, f5, f6, f7, f8⟩, gr6⟩ := row9 RR6.out
    go_upto_region 6 with fail
    have hne5 : gf.pts ≠ [] → ∀ a, B5 = some a → a.block ≠ gr := fun hz a ha => by
      have := P5.out.2.2 hz a ha
      have := S45.out
      omega
    have hne6 : gf.fl ≠ [] → ∀ a, B6 = some a → a.block ≠ gr := fun hz a ha => by
      have := P6.out.2.2 hz a ha
      have := S45.out
      omega
    have Q5 := Lib.hid (show LDem.Row ((w6.setCell ⟨gr, 4, none⟩ (.slice B5 gf.pts.length d5)).setCell ⟨gr, 5, none⟩ (.slice B6 gf.fl.length d6)) B5 gf.pts from row_sameR P5.out.1 (by simp) fun hz a ha => by rw [heap_setCell_other _ _ _ _ (hne5 hz a ha), heap_setCell_other _ _ _ _ (hne5 hz a ha)])
    have Q6 := Lib.hid (show LNum.Row ((w6.setCell ⟨gr, 4, none⟩ (.slice B5 gf.pts.length d5)).setCell ⟨gr, 5, none⟩ (.slice B6 gf.fl.length d6)) B6 gf.fl from row_sameR P6.out.1 (by simp) fun hz a ha => by rw [heap_setCell_other _ _ _ _ (hne6 hz a ha), heap_setCell_other _ _ _ _ (hne6 hz a ha)])
    have RR7 := Lib.hid (show ((w6.setCell ⟨gr, 4, none⟩ (.slice B5 gf.pts.length d5)).setCell ⟨gr, 5, none⟩ (.slice B6 gf.fl.length d6)).heap[gr]? = some (rtR i yx (.slice Aw ys.length cw) (.slice B4 l.length d4) (.slice B5 gf.pts.length d5) (.slice B6 gf.fl.length d6) (.slice none 0 0) 0 0) from by
      rw [heap_setCell_same _ _ _ _ _ _ (heap_setCell_same _ _ _ _ _ _ RR6.out)]; rfl)
    have B47 := Lib.hid ((B46.out.setCell (p := ⟨gr, 4, none⟩) (by rw [HGR.out]; exact Nat.le_refl _) (.slice B5 gf.pts.length d5)).setCell (p := ⟨gr, 5, none⟩) (by rw [HGR.out]; exact Nat.le_refl _) (.slice B6 gf.fl.length d6))
    have N5 := Lib.hid (And.intro P5.out.2 P6.out.2)
    generalize (w6.setCell ⟨gr, 4, none⟩ (.slice B5 gf.pts.length d5)).setCell ⟨gr, 5, none⟩ (.slice B6 gf.fl.length d6) = w7 at Q5 Q6 RR7 B47 ⊢
    clear hne5 hne6 r0 r1 r2 r3 r4 r5 r6 r7 r8 f0 f1 f2 f3 f4 f5 f6 f7 f8 gr6 RR6 P5 P6 B46
    obtain ⟨⟨p0, p1, p2, p3, p4, p5⟩, -, gp⟩ := row6 (KH.out _ B47.out).1
    have CN := Lib.hid (rnOf_any p hf hm hap A c A' c' i w7 (KI.out _ B47.out))
    have HND := Lib.hid ND
    generalize Nr.of p i = nr at CN EF ND HND
    obtain ⟨nl, nd⟩ := nr
    simp only at ND
    go_wp2_with fail
    refine CN.out.mono ?_; rintro e w8 ⟨B7, d7, rfl, hR7, hb8, hn7⟩
    have B48 := Lib.hid (B47.out.trans (hb8.mono B47.out.size))
    have S67 := Lib.hid (show gr < w7.heap.size from (Array.getElem?_eq_some_iff.1 RR7.out).1)
    have RR8 := Lib.hid ((hb8.block gr S67.out).trans RR7.out)
    have N7 := Lib.hid hn7
    have Q58 := Lib.hid (Q5.out.below rfl hb8)
    have Q68 := Lib.hid (Q6.out.below rfl hb8)
    have Q78 := Lib.hid hR7
    clear hR7 hb8 hn7 CN RR7 Q5 Q6 p0 p1 p2 p3 p4 p5 gp
    obtain ⟨⟨r0, r1, r2, r3, r4, r5, r6, r7, r8⟩, ⟨f0, f1, f2, f3, f4, f5, f6, f7, f8⟩, gr8⟩ := row9 RR8.out
    go_upto_region 7 with fail
    have hne5 : gf.pts ≠ [] → ∀ a, B5 = some a → a.block ≠ gr := fun hz a ha => by
      have := N5.out.1.2 hz a ha
      have := S45.out
      omega
    have hne6 : gf.fl ≠ [] → ∀ a, B6 = some a → a.block ≠ gr := fun hz a ha => by
      have := N5.out.2.2 hz a ha
      have := S45.out
      omega
    have hne7 : ∀ a, B7 = some a → a.block ≠ gr := fun a ha => by
      have := N7.out a ha
      have := S67.out
      omega
    have Q5 := Lib.hid (show LDem.Row ((w8.setCell ⟨gr, 6, none⟩ (.slice B7 nl.length d7)).setCell ⟨gr, 7, none⟩ (.int .i64 nd)) B5 gf.pts from row_sameR Q58.out (by simp) fun hz a ha => by rw [heap_setCell_other _ _ _ _ (hne5 hz a ha), heap_setCell_other _ _ _ _ (hne5 hz a ha)])
    have Q6 := Lib.hid (show LNum.Row ((w8.setCell ⟨gr, 6, none⟩ (.slice B7 nl.length d7)).setCell ⟨gr, 7, none⟩ (.int .i64 nd)) B6 gf.fl from row_sameR Q68.out (by simp) fun hz a ha => by rw [heap_setCell_other _ _ _ _ (hne6 hz a ha), heap_setCell_other _ _ _ _ (hne6 hz a ha)])
    have Q7 := Lib.hid (show LNum.Row ((w8.setCell ⟨gr, 6, none⟩ (.slice B7 nl.length d7)).setCell ⟨gr, 7, none⟩ (.int .i64 nd)) B7 (ints nl) from row_sameR Q78.out (by simp) fun hz a ha => by rw [heap_setCell_other _ _ _ _ (hne7 a ha), heap_setCell_other _ _ _ _ (hne7 a ha)])
    have RR9 := Lib.hid (show ((w8.setCell ⟨gr, 6, none⟩ (.slice B7 nl.length d7)).setCell ⟨gr, 7, none⟩ (.int .i64 nd)).heap[gr]? = some (rtR i yx (.slice Aw ys.length cw) (.slice B4 l.length d4) (.slice B5 gf.pts.length d5) (.slice B6 gf.fl.length d6) (.slice B7 nl.length d7) nd 0) from by
      rw [heap_setCell_same _ _ _ _ _ _ (heap_setCell_same _ _ _ _ _ _ RR8.out)]; rfl)
    have B49 := Lib.hid ((B48.out.setCell (p := ⟨gr, 6, none⟩) (by rw [HGR.out]; exact Nat.le_refl _) (.slice B7 nl.length d7)).setCell (p := ⟨gr, 7, none⟩) (by rw [HGR.out]; exact Nat.le_refl _) (.int .i64 nd))
    generalize (w8.setCell ⟨gr, 6, none⟩ (.slice B7 nl.length d7)).setCell ⟨gr, 7, none⟩ (.int .i64 nd) = w9 at Q5 Q6 Q7 RR9 B49 ⊢
    clear r0 r1 r2 r3 r4 r5 r6 r7 r8 f0 f1 f2 f3 f4 f5 f6 f7 f8 gr8 RR8 Q58 Q68 Q78 B48
    obtain ⟨⟨r0, r1, r2, r3, r4, r5, r6, r7, r8⟩, ⟨f0, f1, f2, f3, f4, f5, f6, f7, f8⟩, gr9⟩ := row9 RR9.out
    obtain ⟨⟨-, -, -, p3, -, -⟩, -, gp⟩ := row6 (KH.out _ B49.out).1
    have TQ : Int.tdiv nd 100000 = nd / 100000 := Rt.quo nd ND.1
    have hq : 0 ≤ nd / 100000 ∧ nd / 100000 ≤ nd := ⟨by omega, by omega⟩
    have q1 : IntKind.i64.wrap (nd / 100000) = nd / 100000 := IntWalk.i64_in _ (by omega)
    have q2 : IntKind.i64.wrap (p.ho + nd / 100000) = p.ho + nd / 100000 := IntWalk.i64_in _ (by omega)
    go_upto_region 8 with fail
    have Z5 := Lib.hid (show LDem.Row (w9.setCell ⟨gr, 8, none⟩ (.int .i64 (p.ho + nd / 100000))) B5 gf.pts from row_sameR Q5.out (by simp) fun hz a ha => by rw [heap_setCell_other _ _ _ _ (hne5 hz a ha)])
    have Z6 := Lib.hid (show LNum.Row (w9.setCell ⟨gr, 8, none⟩ (.int .i64 (p.ho + nd / 100000))) B6 gf.fl from row_sameR Q6.out (by simp) fun hz a ha => by rw [heap_setCell_other _ _ _ _ (hne6 hz a ha)])
    have Z7 := Lib.hid (show LNum.Row (w9.setCell ⟨gr, 8, none⟩ (.int .i64 (p.ho + nd / 100000))) B7 (ints nl) from row_sameR Q7.out (by simp) fun hz a ha => by rw [heap_setCell_other _ _ _ _ (hne7 a ha)])
    have RR10 := Lib.hid (show (w9.setCell ⟨gr, 8, none⟩ (.int .i64 (p.ho + nd / 100000))).heap[gr]? = some (rtR i yx (.slice Aw ys.length cw) (.slice B4 l.length d4) (.slice B5 gf.pts.length d5) (.slice B6 gf.fl.length d6) (.slice B7 nl.length d7) nd (p.ho + nd / 100000)) from by
      rw [heap_setCell_same _ _ _ _ _ _ RR9.out]; rfl)
    have B410 := Lib.hid (B49.out.setCell (p := ⟨gr, 8, none⟩) (by rw [HGR.out]; exact Nat.le_refl _) (.int .i64 (p.ho + nd / 100000)))
    generalize w9.setCell ⟨gr, 8, none⟩ (.int .i64 (p.ho + nd / 100000)) = w10 at Z5 Z6 Z7 RR10 B410 ⊢
    clear hne5 hne6 hne7 Q5 Q6 Q7 r0 r1 r2 r3 r4 r5 r6 r7 r8 f0 f1 f2 f3 f4 f5 f6 f7 f8 gr9 RR9 B49 p3 gp TQ hq q1 q2
    obtain ⟨⟨r0, r1, r2, r3, r4, r5, r6, r7, r8⟩, -, gr9⟩ := row9 RR10.out
    have HZZ := Lib.hid (KH.out _ B410.out).2.2
    obtain ⟨⟨z0, z1, z2, z3, z4, z5, z6, z7, z8⟩, ⟨e0, e1, e2, e3, e4, e5, e6, e7, e8⟩, gz⟩ := row9 HZZ.out
    have hgw : w.heap.size + 1 + 1 < gr := by have := GS.out.2.2; have := HGR.out; omega
    have hne : gr ≠ w.heap.size + 1 + 1 := by omega
    have PN := Lib.hid (show PartsNew w w10 ⟨Aw, cw, B4, d4, B5, d5, B6, d6, B7, d7, ⟨i, yx, ys, l, gf.pts, gf.fl, ints nl, nd, p.ho + nd / 100000⟩⟩ from
      ⟨(KW.out _ B410.out).1, (KW.out _ B410.out).2, Z5.out, Z6.out, Z7.out, fun hz a ha => (by have := N5.out.1.2 hz a ha; have := S45.out; omega), fun hz a ha => (by have := N5.out.2.2 hz a ha; have := S45.out; omega), fun hz a ha => (by have := N7.out a ha; have := S67.out; omega)⟩)
    have FIN := Lib.hid (fun v0 v1 v2 v3 v4 v5 v6 v7 v8 => show RouteYes (Rt.of p i ⟨ys, yx⟩) w (.returned (.tuple #[rtV ⟨Aw, cw, B4, d4, B5, d5, B6, d6, B7, d7, ⟨i, yx, ys, l, gf.pts, gf.fl, ints nl, nd, p.ho + nd / 100000⟩⟩, .int .i64 0])) (((((((((w10.setCell ⟨w.heap.size + 1 + 1, 0, none⟩ v0).setCell ⟨w.heap.size + 1 + 1, 1, none⟩ v1).setCell ⟨w.heap.size + 1 + 1, 2, none⟩ v2).setCell ⟨w.heap.size + 1 + 1, 3, none⟩ v3).setCell ⟨w.heap.size + 1 + 1, 4, none⟩ v4).setCell ⟨w.heap.size + 1 + 1, 5, none⟩ v5).setCell ⟨w.heap.size + 1 + 1, 6, none⟩ v6).setCell ⟨w.heap.size + 1 + 1, 7, none⟩ v7).setCell ⟨w.heap.size + 1 + 1, 8, none⟩ v8) from by
      rw [E.out]
      refine ⟨⟨Aw, cw, B4, d4, B5, d5, B6, d6, B7, d7, ⟨i, yx, ys, l, gf.pts, gf.fl, ints nl, nd, p.ho + nd / 100000⟩⟩, EF.out.symm, rfl, PN.out.set9 HZZ.out (.inr ⟨fun hz a ha => ?_, fun hz a ha => ?_, fun hz a ha => ?_⟩), set9_below (X4.out.trans (B410.out.mono X4.out.size)) (by omega)⟩
      · have := N5.out.1.2 hz a ha; have := S45.out; omega
      · have := N5.out.2.2 hz a ha; have := S45.out; omega
      · have := N7.out a ha; have := S67.out; omega)
    have LI := ints_len nl
    go_wp2_with fail
    refine bodyPost_ret ?_ rfl (FIN.out _ _ _ _ _ _ _ _ _)
    simp [results, Try.results25, go_sem, *]
    --]
  · --[
    have D : (er != 0) = true := by rw [bne_iff_ne]; exact her
    have E := Lib.hid (show Rt.of p i ⟨ys, yx⟩ = (Rt.zero, er) from by rw [HOF.out, if_neg her])
    clear her
    go_wp2_with fail
    refine bodyPost_ret (v := .tuple #[rtV ⟨none, 0, none, 0, none, 0, none, 0, none, 0, Rt.zero⟩, .int .i64 er]) ?_ rfl (by
      rw [E.out]
      exact ⟨⟨none, 0, none, 0, none, 0, none, 0, none, 0, Rt.zero⟩, rfl, rfl, ⟨.inl rfl, .inl rfl, .inl rfl, .inl rfl, .inl rfl, fun h => absurd rfl h, fun h => absurd rfl h, fun h => absurd rfl h⟩, set9_below X4.out (by omega)⟩)
    simp [results, Try.results25, go_sem, Rt.zero, *]
    --]
end Go.Proofs.Ytbmmcmdopekccaa
