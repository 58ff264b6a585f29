/-
 Texts of this claim, merged: TableRightsWalk.
-/
import Derived.Test.YtncphjodaklleaaGreatMg27
import Derived.Test.YtncphjodaklleaaGreatMg46
import Derived.Test.YtncphjodaklleaaGreatMg47
set_option maxHeartbeats 16000000
set_option maxRecDepth 100000
namespace Go.Proofs.YtncphjodaklleaaGreat
open Lib (hid)
open Go.RowKit
theorem tableRights_walk (m:TableM) (W:World) (h:TableIn W m) (_hc:m.t.routes.length≤m.c4) :
 Calls Tryz.prog 4 #[tbV m] W fun e w'=>e=.returned (.bool true)∧Below W.heap.size W w':=by
 --[
 obtain ⟨A0,c0,A1,c1,A2,c2,A4,c4,A5,c5,t⟩:=m
 have XX:=(Below.refl W.heap.size W).alloc (Nat.le_refl _) (.cells #[.slice A0 t.names.length c0,.slice A1 t.points.length c1,.slice A2 t.sigs.length c2,.int .i64 t.settle,.slice A4 t.routes.length c4,.slice A5 t.bars.length c5] 34)
 have X:=hid XX
 have HI:=hid (h.below XX)
 have RP:=hid (heap_alloc_new W (.cells #[.slice A0 t.names.length c0,.slice A1 t.points.length c1,.slice A2 t.sigs.length c2,.int .i64 t.settle,.slice A4 t.routes.length c4,.slice A5 t.bars.length c5] 34))
 have CF:=hid (show Calls Tryz.prog 12 #[.agg #[.slice A0 t.names.length c0,.slice A1 t.points.length c1,.slice A2 t.sigs.length c2,.int .i64 t.settle,.slice A4 t.routes.length c4,.slice A5 t.bars.length c5]] (W.alloc (.cells #[.slice A0 t.names.length c0,.slice A1 t.points.length c1,.slice A2 t.sigs.length c2,.int .i64 t.settle,.slice A4 t.routes.length c4,.slice A5 t.bars.length c5] 34)) (FewIs t (W.alloc (.cells #[.slice A0 t.names.length c0,.slice A1 t.points.length c1,.slice A2 t.sigs.length c2,.int .i64 t.settle,.slice A4 t.routes.length c4,.slice A5 t.bars.length c5] 34))) from tbFew_any ⟨A0,c0,A1,c1,A2,c2,A4,c4,A5,c5,t⟩ _ HI.out)
 have AW:=hid tbAwake_any
 show Calls Tryz.prog 4 #[.agg #[.slice A0 t.names.length c0,.slice A1 t.points.length c1,.slice A2 t.sigs.length c2,.int .i64 t.settle,.slice A4 t.routes.length c4,.slice A5 t.bars.length c5]] W fun e w'=>e=.returned (.bool true)∧Below W.heap.size W w'
 clear h XX
 go_enter Tryz.func4,Tryz.ntmps4
 go_upto_region 1 with fail
 generalize W.alloc (.cells #[.slice A0 t.names.length c0,.slice A1 t.points.length c1,.slice A2 t.sigs.length c2,.int .i64 t.settle,.slice A4 t.routes.length c4,.slice A5 t.bars.length c5] 34)=w1 at X HI RP CF ⊢
 generalize W.heap.size=g at RP ⊢
 have gl:=(Array.getElem?_eq_some_iff.1 RP.out).1
 obtain ⟨⟨p0,p1,p2,p3,p4,p5⟩,-,gx⟩:=row6 RP.out
 go_wp2_with fail
 refine CF.out.mono ?_;rintro e w2 ⟨⟨z,rfl,hz⟩,hb2⟩
 have B2:=hid (X.out.trans (hb2.mono X.out.size))
 have KB:=hid (fun W (hW:Below w2.heap.size w2 W)=>(row6 ((hW.block _ (Nat.lt_of_lt_of_le gl hb2.size)).trans ((hb2.block _ gl).trans RP.out))).1)
 have I2:=hid (HI.out.below hb2)
 have HZ:=hid hz
 clear p0 p1 p2 p3 p4 p5 gx hb2 gl hz RP HI CF
 cases z with
 | false =>
   go_wp2_with fail
   refine (AW.out _).mono ?_;rintro e w8 ⟨rfl,hb8⟩
   go_wp2
   go_ret
   exact ⟨rfl,B2.out.trans (hb8.mono B2.out.size)⟩
 | true =>
   have HB:=HZ.out rfl
   have C1:=hid (OneIs.keep (w0:=w2) fun W hW=>show Calls Tryz.prog 8 #[] W (OneIs (.bool true) W) from AW.out W)
   have C2:=hid (OneIs.keep (w0:=w2) fun W hW=>show Calls Tryz.prog 13 #[.agg #[.slice A0 t.names.length c0,.slice A1 t.points.length c1,.slice A2 t.sigs.length c2,.int .i64 t.settle,.slice A4 t.routes.length c4,.slice A5 t.bars.length c5]] W (OneIs (.bool (Tb.right t)) W) from ptbRight_any ⟨A0,c0,A1,c1,A2,c2,A4,c4,A5,c5,t⟩ W (I2.out.below hW) HB)
   have C3:=hid (OneIs.keep (w0:=w2) fun W hW=>show Calls Tryz.prog 14 #[.agg #[.slice A0 t.names.length c0,.slice A1 t.points.length c1,.slice A2 t.sigs.length c2,.int .i64 t.settle,.slice A4 t.routes.length c4,.slice A5 t.bars.length c5]] W (OneIs (.bool (Tb.right t)) W) from rtbRight_any ⟨A0,c0,A1,c1,A2,c2,A4,c4,A5,c5,t⟩ W (I2.out.below hW) HB)
   generalize Tb.right t=z at C2 C3
   clear HB AW HZ I2
   go_upto_region 3 with fail
   refine region_in_text (fun W=>Below w2.heap.size w2 W) (by kernel_rfl) (by kernel_rfl) (Below.refl w2.heap.size w2).drew ?_
   repeat (first
    | (refine InText.dead ?_ ?_;(focus rfl);(try simp only [Act.put,List.setIfInBounds_toArray,List.set_cons_zero,List.set_cons_succ]))
    | (refine InText.val (v:=?_) ?_ ?_ ?_;rotate_left;(focus rfl);(focus (intro W hW;first | (go_simp;(try with_reducible rfl);done) | (obtain ⟨p0,p1,p2,p3,p4,p5⟩:=KB.out W hW;go_simp;(try with_reducible rfl);done)));(try simp only [Act.put,List.setIfInBounds_toArray,List.set_cons_zero,List.set_cons_succ]))
    | (refine InText.call (v:=?_) (f:=?_) (args:=?_) ?_ ?_ ?_ ?_;rotate_left 3;(focus rfl);(focus (intro W hW;go_simp;constructor;with_reducible rfl;with_reducible rfl));(focus (first | with_reducible exact C1.out | with_reducible exact C2.out | with_reducible exact C3.out));(try simp only [Act.put,List.setIfInBounds_toArray,List.set_cons_zero,List.set_cons_succ])))
   refine InText.end_ fun w4 hb4=>?_
   have BX:=hid (B2.out.trans (hb4.mono B2.out.size))
   clear hb4
   go_wp2_with fail
   go_ret
   exact ⟨rfl,BX.out⟩
 --]
end Go.Proofs.YtncphjodaklleaaGreat
