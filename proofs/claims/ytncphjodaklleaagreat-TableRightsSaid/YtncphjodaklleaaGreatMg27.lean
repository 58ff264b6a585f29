/-
 Texts of this claim, merged: TbRefG, RtSame, TbUp, RtSmall, HeldBy, TbPlain.
-/
import Derived.Test.YtncphjodaklleaaGreatMg02
import Derived.Test.YtncphjodaklleaaGreatMg04
import Derived.Test.YtncphjodaklleaaGreatMg10
import Derived.Test.YtncphjodaklleaaGreatMg15
import Derived.Test.YtncphjodaklleaaGreatMg16
import Derived.Test.YtncphjodaklleaaGreatMg17
import Derived.Test.YtncphjodaklleaaGreatMg21
import Derived.Test.YtncphjodaklleaaGreatMg23
import Derived.Test.YtncphjodaklleaaGreatMg26
import Derived.Deep.RegionHeld
import Derived.Deep.RegionHeld3
import Derived.Deep.RegionLaw
import Derived.Deep.RegionWith
set_option maxHeartbeats 16000000
set_option maxRecDepth 100000
namespace Go.Proofs.YtncphjodaklleaaGreat
open Lib (hid)
open Go.RowKit
structure Tb.Bound (t:Tb.Table):Prop where
 names:t.names.length≤1000000
 points:t.points.length≤1000000
 sigs:t.sigs.length≤1000000
 routes:t.routes.length≤1000000
 name:∀ x∈t.names,x.length≤1000000
 sig:∀ x∈t.sigs,x.length≤1000000
 route:∀ r∈t.routes,Tb.Few r
 bar:∀ x∈t.bars,x.length≤1000000
 bars:t.bars.length≤1000000
theorem Tb.Few.tiny {r:Rt.Route} (h:Tb.Few r):Cl.Tiny r:=⟨h.1,h.2.1,h.2.2.1⟩
theorem Tb.right_eq (t:Tb.Table):Tb.right t=(!decide (24<(t.names.length:Int)) && !((t.points.length:Int) != (t.names.length:Int)) && !decide (12<(t.sigs.length:Int)) && !decide (30<(t.routes.length:Int)) && Tb.namesOk t.names && Tb.namesOk t.sigs && !decide (t.settle<0) && !decide (1000<t.settle) && (Tb.ups (Tb.routeOk t) 0 t.routes.length && decide (t.bars=Cl.rows t.routes))):=by
 have n:∀ a b:Int,(!decide (a<b))=decide (b≤a):=fun a b=>by
  by_cases h:a<b
  ·rw[decide_eq_true h,decide_eq_false (p:=b≤a) (by omega)];rfl
  ·rw[decide_eq_false h,decide_eq_true (p:=b≤a) (by omega)];rfl
 unfold Tb.right Tb.sizesOk
 rw [n,n,n,n,n,show (!((t.points.length:Int) != (t.names.length:Int)))=((t.points.length:Int) == (t.names.length:Int)) from by unfold bne;rw[Bool.not_not]]
 simp only [Bool.and_assoc]
theorem rtbRight_any (m:TableM) (w:World) (h:TableIn w m) (hB:Tb.Bound m.t) :
 Calls Tryz.prog 14 #[tbV m] w (OneIs (.bool (Tb.right m.t)) w):=by
 --[
 obtain ⟨A0,c0,A1,c1,A2,c2,A4,c4,A5,c5,t⟩:=m
 show Calls Tryz.prog 14 #[.agg #[.slice A0 t.names.length c0,.slice A1 t.points.length c1,.slice A2 t.sigs.length c2,.int .i64 t.settle,.slice A4 t.routes.length c4,.slice A5 t.bars.length c5]] w (OneIs (.bool (Tb.right t)) w)
 have XX:=(Below.refl w.heap.size w).alloc (Nat.le_refl _) (.cells #[.slice A0 t.names.length c0,.slice A1 t.points.length c1,.slice A2 t.sigs.length c2,.int .i64 t.settle,.slice A4 t.routes.length c4,.slice A5 t.bars.length c5] 34)
 have X:=hid XX
 have HI:=hid (h.below XX)
 have HB0:=hid hB
 have RP:=hid (heap_alloc_new w (.cells #[.slice A0 t.names.length c0,.slice A1 t.points.length c1,.slice A2 t.sigs.length c2,.int .i64 t.settle,.slice A4 t.routes.length c4,.slice A5 t.bars.length c5] 34))
 have V:=hid (Tb.right_eq t)
 have C1:=hid (fun W (hW:Below (w.alloc (.cells #[.slice A0 t.names.length c0,.slice A1 t.points.length c1,.slice A2 t.sigs.length c2,.int .i64 t.settle,.slice A4 t.routes.length c4,.slice A5 t.bars.length c5] 34)).heap.size (w.alloc (.cells #[.slice A0 t.names.length c0,.slice A1 t.points.length c1,.slice A2 t.sigs.length c2,.int .i64 t.settle,.slice A4 t.routes.length c4,.slice A5 t.bars.length c5] 34)) W)=>rtbNames_any A0 c0 t.names W (HI.out.p0.below rfl hW) hB.names hB.name)
 have C2:=hid (fun W (hW:Below (w.alloc (.cells #[.slice A0 t.names.length c0,.slice A1 t.points.length c1,.slice A2 t.sigs.length c2,.int .i64 t.settle,.slice A4 t.routes.length c4,.slice A5 t.bars.length c5] 34)).heap.size (w.alloc (.cells #[.slice A0 t.names.length c0,.slice A1 t.points.length c1,.slice A2 t.sigs.length c2,.int .i64 t.settle,.slice A4 t.routes.length c4,.slice A5 t.bars.length c5] 34)) W)=>rtbNames_any A2 c2 t.sigs W (HI.out.p2.below rfl hW) hB.sigs hB.sig)
 have C3:=hid (fun W (hW:Below (w.alloc (.cells #[.slice A0 t.names.length c0,.slice A1 t.points.length c1,.slice A2 t.sigs.length c2,.int .i64 t.settle,.slice A4 t.routes.length c4,.slice A5 t.bars.length c5] 34)).heap.size (w.alloc (.cells #[.slice A0 t.names.length c0,.slice A1 t.points.length c1,.slice A2 t.sigs.length c2,.int .i64 t.settle,.slice A4 t.routes.length c4,.slice A5 t.bars.length c5] 34)) W)=>rxMatrix_any A4 c4 t.routes W (HI.out.p4.below hW) (fun r hr=>(hB.route r hr).tiny) hB.routes)
 have C4:=hid (fun B d W (hW:Below (w.alloc (.cells #[.slice A0 t.names.length c0,.slice A1 t.points.length c1,.slice A2 t.sigs.length c2,.int .i64 t.settle,.slice A4 t.routes.length c4,.slice A5 t.bars.length c5] 34)).heap.size (w.alloc (.cells #[.slice A0 t.names.length c0,.slice A1 t.points.length c1,.slice A2 t.sigs.length c2,.int .i64 t.settle,.slice A4 t.routes.length c4,.slice A5 t.bars.length c5] 34)) W) (hS:SetsIn W B (Cl.rows t.routes))=>rxSame_any A5 c5 t.bars B d (Cl.rows t.routes) W (HI.out.p5.below hW) hB.bar hS hB.bars)
 rw [V.out]
 generalize hz5:Tb.namesOk t.names=z5 at C1 ⊢
 generalize hz6:Tb.namesOk t.sigs=z6 at C2 ⊢
 generalize hq:(Tb.ups (Tb.routeOk t) 0 t.routes.length && decide (t.bars=Cl.rows t.routes))=q
 have HQ:=hid hq
 generalize hbb:decide (t.bars=Cl.rows t.routes)=zb at C4 HQ
 have hy1:decide (24<t.names.length)=decide (24<(t.names.length:Int)):=by congr 1;rw[eq_iff_iff];omega
 have hy3:decide (12<t.sigs.length)=decide (12<(t.sigs.length:Int)):=by congr 1;rw[eq_iff_iff];omega
 have hy4:decide (30<t.routes.length)=decide (30<(t.routes.length:Int)):=by congr 1;rw[eq_iff_iff];omega
 generalize hz1:decide (24<(t.names.length:Int))=z1 at hy1 ⊢
 generalize hz2:((t.points.length:Int) != (t.names.length:Int))=z2
 generalize hz3:decide (12<(t.sigs.length:Int))=z3 at hy3 ⊢
 generalize hz4:decide (30<(t.routes.length:Int))=z4 at hy4 ⊢
 generalize hz7:decide (t.settle<0)=z7
 generalize hz8:decide (1000<t.settle)=z8
 have HZ:=hid (And.intro (And.intro hz1 hy1) (And.intro hz2 (And.intro (And.intro hz3 hy3) (And.intro (And.intro hz4 hy4) (And.intro hz7 hz8)))))
 clear h hq XX V hz1 hy1 hz2 hz3 hy3 hz4 hy4 hz5 hz6 hz7 hz8 hbb hB
 go_enter Tryz.func14,Tryz.ntmps14
 go_upto_region 1 with fail
 generalize w.alloc (.cells #[.slice A0 t.names.length c0,.slice A1 t.points.length c1,.slice A2 t.sigs.length c2,.int .i64 t.settle,.slice A4 t.routes.length c4,.slice A5 t.bars.length c5] 34)=w1 at X HI RP C1 C2 C3 C4 ⊢
 generalize hg:w.heap.size=g at RP ⊢
 have gl:=(Array.getElem?_eq_some_iff.1 RP.out).1
 have KB:=hid (fun W (hW:Below w1.heap.size w1 W)=>show W.cell? ⟨g,0,none⟩ = some (.slice A0 t.names.length c0)∧W.cell? ⟨g,1,none⟩ = some (.slice A1 t.points.length c1)∧W.cell? ⟨g,2,none⟩ = some (.slice A2 t.sigs.length c2)∧W.cell? ⟨g,3,none⟩ = some (.int .i64 t.settle)∧W.cell? ⟨g,4,none⟩ = some (.slice A4 t.routes.length c4)∧W.cell? ⟨g,5,none⟩ = some (.slice A5 t.bars.length c5) from (tb_row (m:=⟨A0,c0,A1,c1,A2,c2,A4,c4,A5,c5,t⟩) ((hW.block _ gl).trans RP.out)).1)
 have B0:=hid (Below.refl w1.heap.size w1)
 obtain ⟨p0,p1,p2,p3,p4,p5⟩:=KB.out _ B0.out
 clear gl hg
 obtain ⟨⟨hz1,hy1⟩,hz2,⟨hz3,hy3⟩,⟨hz4,hy4⟩,hz7,hz8⟩:=HZ.out
 clear HZ
 cases z1 with
 | true =>
   go_wp2_with fail
   go_ret
   exact ⟨rfl,X.out⟩
 | false =>
 cases z2 with
 | true =>
   go_wp2_with fail
   go_ret
   exact ⟨rfl,X.out⟩
 | false =>
 cases z3 with
 | true =>
   go_wp2_with fail
   go_ret
   exact ⟨rfl,X.out⟩
 | false =>
 cases z4 with
 | true =>
   go_wp2_with fail
   go_ret
   exact ⟨rfl,X.out⟩
 | false =>
 go_wp2_with fail
 refine (C1.out _ B0.out).mono ?_;rintro e w2 ⟨rfl,hb⟩
 have B1:=hid hb
 have F1:=hid (X.out.trans (hb.mono X.out.size))
 clear hb p0 p1 p2 p3 p4 p5 C1
 cases z5 with
 | false =>
   go_wp2_with fail
   go_ret
   exact ⟨rfl,F1.out⟩
 | true =>
 obtain ⟨p0,p1,p2,p3,p4,p5⟩:=KB.out _ B1.out
 go_wp2_with fail
 refine (C2.out _ B1.out).mono ?_;rintro e w3 ⟨rfl,hb⟩
 have B2:=hid (B1.out.trans (hb.mono B1.out.size))
 have F2:=hid (F1.out.trans (hb.mono F1.out.size))
 clear hb p0 p1 p2 p3 p4 p5 C2
 cases z6 with
 | false =>
   go_wp2_with fail
   go_ret
   exact ⟨rfl,F2.out⟩
 | true =>
 obtain ⟨p0,p1,p2,p3,p4,p5⟩:=KB.out _ B2.out
 cases z7 with
 | true =>
   go_wp2_with fail
   go_ret
   exact ⟨rfl,F2.out⟩
 | false =>
 cases z8 with
 | true =>
   go_wp2_with fail
   go_ret
   exact ⟨rfl,F2.out⟩
 | false =>
 have HQ2:=hid (show (Tb.ups (Tb.routeOk t) 0 t.routes.length && zb)=q from HQ.out)
 go_wp2_with fail
 go_loopw [3] (fun v w'=>∃ j:Nat,j≤t.routes.length∧v=.int .i64 j∧(Tb.ups (Tb.routeOk t) j t.routes.length && zb)=q∧Below w1.heap.size w1 w') (fun v _=>t.routes.length - (intOf v).toNat)
 case atStart=>exact ⟨0,Nat.zero_le _,rfl,HQ2.out,B2.out⟩
 case round =>
  clear HQ HQ2
  obtain ⟨j,hj,rfl,hp,hb⟩:=hrel
  have HX:=hid (X.out.trans (hb.mono X.out.size))
  have HX1:=hid hb
  obtain ⟨p0,p1,p2,p3,p4,p5⟩:=KB.out _ hb
  by_cases hlt:j<t.routes.length
  ·have hy := List.getElem?_eq_getElem hlt
   have d1:decide ((j:Int)<(t.routes.length:Int))=true:=dec_t (by omega)
   have j0:(0:Int)≤(j:Int):=Int.natCast_nonneg j
   have j1:(j:Int)<(t.routes.length:Int):=by omega
   rw [Tb.ups_step _ hlt] at hp
   have HP:=hid hp
   obtain ⟨b,o,mj,hA,hbb,hmj,on,hP⟩:=(HI.out.p4.below hb).at hy
   have hfew:=HB0.out.route _ (List.getElem_mem hlt)
   rw [← hmj] at hfew
   have CF:=hid (fun W (hW:Below wr.heap.size wr W)=>show Calls Tryz.prog 31 #[.agg #[.slice A0 t.names.length c0,.slice A1 t.points.length c1,.slice A2 t.sigs.length c2,.int .i64 t.settle,.slice A4 t.routes.length c4,.slice A5 t.bars.length c5],rtV mj] W (OneIs (.bool (Tb.fits t mj.r)) W) from rtbFits_any ⟨A0,c0,A1,c1,A2,c2,A4,c4,A5,c5,t⟩ mj W (HI.out.p1.below rfl (hb.trans (hW.mono hb.size))) (hP.below hW) hfew HB0.out.points)
   have HK:=hid (show Tb.routeOk t j=(Tb.fits t mj.r && (decide (j=0) || decide ((t.routes.getD (j - 1) Rt.zero).entry≤mj.r.entry))) from by
    unfold Tb.routeOk
    rw [Tb.getD_at hy,← hmj])
   have hA2:A4=some ⟨b,o,none⟩:=hA
   subst hA2
   obtain ⟨x0,x1,x2,x3,x4,x5,x6,x7,x8⟩:=rt_on on
   have V0:=hid (Below.refl wr.heap.size wr)
   generalize Tb.fits t mj.r=z at CF HK
   have KR:=hid (fun W (hW:Below wr.heap.size wr W)=>KB.out W (HX1.out.trans (hW.mono HX1.out.size)))
   have KA:=hid (fun W (hW:Below wr.heap.size wr W)=>And.intro (KR.out W hW) (rt_on (rx_on hW hbb on)))
   have CFK:=hid (fun W (hW:Below wr.heap.size wr W)=>(CF.out W hW).mono fun e w' h=>(⟨h.1,hW.trans (h.2.mono hW.size)⟩:e=.returned (.bool z)∧Below wr.heap.size wr w'))
   clear hA hp hy hfew hmj hP CF
   cases j with
   | zero =>
     have D2:decide ((0:Int)<((0:Nat):Int))=false:=by decide
     have HK2:=hid (show Tb.routeOk t 0=z from by rw[HK.out,decide_eq_true (p:=0=0) rfl,Bool.true_or,Bool.and_true])
     rw [Nat.zero_mul,Nat.add_zero] at KA
     clear HK hb on hbb x0 x1 x2 x3 x4 x5 x6 x7 x8
     go_upto_region 6 with fail
     cases z with
     | false =>
       have HF:=hid (show false=q from by have:=HP.out;rw[HK2.out] at this;exact this)
       clear HP HK2
       refine region_in_text (fun W=>Below wr.heap.size wr W) (by kernel_rfl) (by kernel_rfl) (Below.refl wr.heap.size wr).drew ?_
       repeat (first
        | (refine InText.dead ?_ ?_;(focus rfl);(try simp only [Act.put,List.setIfInBounds_toArray,List.set_cons_zero,List.set_cons_succ]))
        | (refine InText.val (v:=?_) ?_ ?_ ?_;rotate_left;(focus rfl);(focus (intro W hW;obtain ⟨⟨p0,p1,p2,p3,p4,p5⟩,x0,x1,x2,x3,x4,x5,x6,x7,x8⟩:=KA.out W hW;go_simp;(try with_reducible rfl);done));(try simp only [Act.put,List.setIfInBounds_toArray,List.set_cons_zero,List.set_cons_succ]))
        | (refine InText.call (v:=?_) (f:=?_) (args:=?_) ?_ ?_ ?_ ?_;rotate_left 3;(focus rfl);(focus (intro W hW;go_simp;constructor;with_reducible rfl;with_reducible rfl));(focus (exact CFK.out));(try simp only [Act.put,List.setIfInBounds_toArray,List.set_cons_zero,List.set_cons_succ])))
       refine InText.end_ fun w4 hb4=>?_
       have HX4:=hid (HX.out.trans (hb4.mono HX.out.size))
       clear hb4
       go_wp2_with fail
       go_ret
       exact ⟨by rw[← HF.out] <;> rfl,HX4.out⟩
     | true =>
       have HT:=hid (show (Tb.ups (Tb.routeOk t) (0+1) t.routes.length && zb)=q from by have:=HP.out;rw[HK2.out] at this;exact this)
       clear HP HK2
       refine region_in_text (fun W=>Below wr.heap.size wr W) (by kernel_rfl) (by kernel_rfl) (Below.refl wr.heap.size wr).drew ?_
       repeat (first
        | (refine InText.dead ?_ ?_;(focus rfl);(try simp only [Act.put,List.setIfInBounds_toArray,List.set_cons_zero,List.set_cons_succ]))
        | (refine InText.val (v:=?_) ?_ ?_ ?_;rotate_left;(focus rfl);(focus (intro W hW;obtain ⟨⟨p0,p1,p2,p3,p4,p5⟩,x0,x1,x2,x3,x4,x5,x6,x7,x8⟩:=KA.out W hW;go_simp;(try with_reducible rfl);done));(try simp only [Act.put,List.setIfInBounds_toArray,List.set_cons_zero,List.set_cons_succ]))
        | (refine InText.call (v:=?_) (f:=?_) (args:=?_) ?_ ?_ ?_ ?_;rotate_left 3;(focus rfl);(focus (intro W hW;go_simp;constructor;with_reducible rfl;with_reducible rfl));(focus (exact CFK.out));(try simp only [Act.put,List.setIfInBounds_toArray,List.set_cons_zero,List.set_cons_succ])))
       refine InText.end_ fun w4 hb4=>?_
       have HX4:=hid (HX1.out.trans (hb4.mono HX1.out.size))
       clear hb4
       go_wp2_with fail
       go_roundw
       case rel=>exact ⟨0+1,by omega,by go_num,HT.out,HX4.out⟩
       case measure=>simp [intOf];omega
   | succ i =>
     have hli:i<t.routes.length:=by omega
     have hyi:=List.getElem?_eq_getElem hli
     obtain ⟨b',o',mi,hA',-,hmi,oni,-⟩:=(HI.out.p4.below hb).at hyi
     cases hA'
     have HK2:=hid (show Tb.routeOk t (i+1)=(z && decide (mi.r.entry≤mj.r.entry)) from by
      rw [HK.out,decide_eq_false (p:=i+1=0) (by omega),Bool.false_or,Nat.add_sub_cancel,Tb.getD_at hyi,← hmi])
     have KC:=hid (fun W (hW:Below wr.heap.size wr W)=>And.intro (KA.out W hW) ((hW.cell (p:=⟨b,o+i * 9,none⟩) hbb).trans (rt_on oni).1))
     have e1:((i+1:Nat):Int) - 1=(i:Int):=by omega
     have hrl:=HB0.out.routes
     have ww1:IntKind.i64.wrap (((i+1:Nat):Int) - 1)=(i:Int):=by rw[IntWalk.i64_in _ (by omega)];omega
     have ww2:IntKind.i64.wrap (i:Int)=(i:Int):=IntWalk.i64_in _ (by omega)
     have i0:(0:Int)≤(i:Int):=Int.natCast_nonneg i
     have i1:(i:Int)<(t.routes.length:Int):=by omega
     have D2:decide ((0:Int)<((i+1:Nat):Int))=true:=dec_t (by omega)
     have D4:decide (0<i+1)=true:=dec_t (by omega)
     clear HK hb on hbb hyi hmi oni hli KA x0 x1 x2 x3 x4 x5 x6 x7 x8
     generalize hji:i+1=j at *
     obtain ⟨ze,hze⟩:∃ ze,decide (mj.r.entry<mi.r.entry)=ze:=⟨_,rfl⟩
     have HZE:=hid (show decide (mi.r.entry≤mj.r.entry) = !ze from by
      rw [← hze]
      by_cases h:mj.r.entry<mi.r.entry
      ·rw[decide_eq_true h,decide_eq_false (p:=mi.r.entry≤mj.r.entry) (by omega)];rfl
      ·rw[decide_eq_false h,decide_eq_true (p:=mi.r.entry≤mj.r.entry) (by omega)];rfl)
     clear hji
     go_upto_region 6 with fail
     by_cases hzz:(z && !ze)=true
     ·rw [Bool.and_eq_true,Bool.not_eq_true'] at hzz
      obtain ⟨rfl,rfl⟩:=hzz
      have HT:=hid (show (Tb.ups (Tb.routeOk t) (j+1) t.routes.length && zb)=q from by have:=HP.out;rw[HK2.out,HZE.out] at this;exact this)
      clear HP HK2 HZE
      refine region_in_text (fun W=>Below wr.heap.size wr W) (by kernel_rfl) (by kernel_rfl) (Below.refl wr.heap.size wr).drew ?_
      repeat (first
       | (refine InText.dead ?_ ?_;(focus rfl);(try simp only [Act.put,List.setIfInBounds_toArray,List.set_cons_zero,List.set_cons_succ]))
       | (refine InText.val (v:=?_) ?_ ?_ ?_;rotate_left;(focus rfl);(focus (intro W hW;obtain ⟨⟨⟨p0,p1,p2,p3,p4,p5⟩,x0,x1,x2,x3,x4,x5,x6,x7,x8⟩,y0⟩:=KC.out W hW;go_simp;(try with_reducible rfl);done));(try simp only [Act.put,List.setIfInBounds_toArray,List.set_cons_zero,List.set_cons_succ]))
       | (refine InText.call (v:=?_) (f:=?_) (args:=?_) ?_ ?_ ?_ ?_;rotate_left 3;(focus rfl);(focus (intro W hW;go_simp;constructor;with_reducible rfl;with_reducible rfl));(focus (exact CFK.out));(try simp only [Act.put,List.setIfInBounds_toArray,List.set_cons_zero,List.set_cons_succ])))
      refine InText.end_ fun w4 hb4=>?_
      have HX4:=hid (HX1.out.trans (hb4.mono HX1.out.size))
      clear hb4
      go_wp2_with fail
      go_roundw
      case rel=>exact ⟨j+1,by omega,by go_num,HT.out,HX4.out⟩
      case measure=>simp [intOf];omega
     ·have HF:=hid (show false=q from by
       have:=HP.out
       rw [HK2.out,HZE.out,Bool.eq_false_iff.2 hzz] at this
       exact this)
      clear HP HK2 HZE
      cases z with
      | false =>
        refine region_in_text (fun W=>Below wr.heap.size wr W) (by kernel_rfl) (by kernel_rfl) (Below.refl wr.heap.size wr).drew ?_
        repeat (first
         | (refine InText.dead ?_ ?_;(focus rfl);(try simp only [Act.put,List.setIfInBounds_toArray,List.set_cons_zero,List.set_cons_succ]))
         | (refine InText.val (v:=?_) ?_ ?_ ?_;rotate_left;(focus rfl);(focus (intro W hW;obtain ⟨⟨⟨p0,p1,p2,p3,p4,p5⟩,x0,x1,x2,x3,x4,x5,x6,x7,x8⟩,y0⟩:=KC.out W hW;go_simp;(try with_reducible rfl);done));(try simp only [Act.put,List.setIfInBounds_toArray,List.set_cons_zero,List.set_cons_succ]))
         | (refine InText.call (v:=?_) (f:=?_) (args:=?_) ?_ ?_ ?_ ?_;rotate_left 3;(focus rfl);(focus (intro W hW;go_simp;constructor;with_reducible rfl;with_reducible rfl));(focus (exact CFK.out));(try simp only [Act.put,List.setIfInBounds_toArray,List.set_cons_zero,List.set_cons_succ])))
        refine InText.end_ fun w4 hb4=>?_
        have HX4:=hid (HX.out.trans (hb4.mono HX.out.size))
        clear hb4
        go_wp2_with fail
        go_ret
        exact ⟨by rw[← HF.out] <;> rfl,HX4.out⟩
      | true =>
        obtain rfl:true=ze:=by cases ze with | true=>rfl | false=>exact absurd rfl hzz
        refine region_in_text (fun W=>Below wr.heap.size wr W) (by kernel_rfl) (by kernel_rfl) (Below.refl wr.heap.size wr).drew ?_
        repeat (first
         | (refine InText.dead ?_ ?_;(focus rfl);(try simp only [Act.put,List.setIfInBounds_toArray,List.set_cons_zero,List.set_cons_succ]))
         | (refine InText.val (v:=?_) ?_ ?_ ?_;rotate_left;(focus rfl);(focus (intro W hW;obtain ⟨⟨⟨p0,p1,p2,p3,p4,p5⟩,x0,x1,x2,x3,x4,x5,x6,x7,x8⟩,y0⟩:=KC.out W hW;go_simp;(try with_reducible rfl);done));(try simp only [Act.put,List.setIfInBounds_toArray,List.set_cons_zero,List.set_cons_succ]))
         | (refine InText.call (v:=?_) (f:=?_) (args:=?_) ?_ ?_ ?_ ?_;rotate_left 3;(focus rfl);(focus (intro W hW;go_simp;constructor;with_reducible rfl;with_reducible rfl));(focus (exact CFK.out));(try simp only [Act.put,List.setIfInBounds_toArray,List.set_cons_zero,List.set_cons_succ])))
        refine InText.end_ fun w4 hb4=>?_
        have HX4:=hid (HX.out.trans (hb4.mono HX.out.size))
        clear hb4
        go_wp2_with fail
        go_ret
        exact ⟨by rw[← HF.out] <;> rfl,HX4.out⟩
  ·obtain rfl:j=t.routes.length:=by omega
   have d1:decide ((t.routes.length:Int)<(t.routes.length:Int))=false:=dec_f (by omega)
   rw [Tb.ups_end,Bool.true_and] at hp
   have HP:=hid hp
   have V0:=hid (Below.refl wr.heap.size wr)
   have CM:=hid (fun W (hW:Below wr.heap.size wr W)=>C3.out W (HX1.out.trans (hW.mono HX1.out.size)))
   have CS:=hid (fun B d W (hW:Below wr.heap.size wr W) (hS:SetsIn W B (Cl.rows t.routes))=>C4.out B d W (HX1.out.trans (hW.mono HX1.out.size)) hS)
   have KR:=hid (fun W (hW:Below wr.heap.size wr W)=>KB.out W (HX1.out.trans (hW.mono HX1.out.size)))
   clear hp hb C3 C4
   go_upto_region 8 with fail
   go_region_with (first
    | (go_at_call 18;(with_reducible refine (CM.out _ V0.out.drew).mono ?_);rintro e5 w5 ⟨B,d,rfl,hS5,hb5⟩;have h5:=V0.out.drew.trans (hb5.mono V0.out.drew.size);obtain ⟨r0,r1,r2,r3,r4,r5⟩:=KR.out _ h5)
    | (go_at_call 17;(with_reducible refine (CS.out B d _ h5 hS5).mono ?_);rintro e6 w6 ⟨rfl,hb6⟩;have h6:=h5.trans (hb6.mono h5.size)))
   all_goals go_wp2_with fail
   all_goals go_ret
   all_goals exact ⟨by rw[← HP.out] <;> rfl,HX.out.trans (h6.mono HX.out.size)⟩
 --]
theorem RoutesIn.two {w:World} {A:Option Addr} {L:List Rt.Route} (h:RoutesIn w A L) {k:Nat} {y:Rt.Route} (hk:L[k]? = some y):∃ (b o:Nat) (m:RouteM),A=some ⟨b,o,none⟩∧b<w.heap.size∧m.r=y∧(∀ W,Below w.heap.size w W→LRt.On W b (o+k * 9) m)∧PartsIn w m:=by
 obtain ⟨b,o,m,h1,h2,h3,h4,h5⟩:=h.at hk
 exact ⟨b,o,m,h1,h2,h3,fun W hW=>h4.below h2 hW,h5⟩
structure TbBut (g:Nat) (w w':World):Prop where
 os:w'.os=w.os
 tape:w'.tape=w.tape
 output:w'.output=w.output
 size:w.heap.size≤w'.heap.size
 block:∀ k,k<w.heap.size→k≠g→w'.heap[k]? = w.heap[k]?
section
variable {g : Nat} {w a b : World}
theorem TbBut.refl (g:Nat) (w:World):TbBut g w w:=⟨rfl,rfl,rfl,Nat.le_refl _,fun _ _ _=>rfl⟩
theorem TbBut.below (h:TbBut g w a) (hb:Below a.heap.size a b):TbBut g w b :=
 ⟨hb.os.trans h.os,hb.tape.trans h.tape,hb.output.trans h.output,Nat.le_trans h.size hb.size,fun k hk hg=>(hb.block k (Nat.lt_of_lt_of_le hk h.size)).trans (h.block k hk hg)⟩
theorem TbBut.trans (h:TbBut g w a) (h':TbBut g a b):TbBut g w b :=
 ⟨h'.os.trans h.os,h'.tape.trans h.tape,h'.output.trans h.output,Nat.le_trans h.size h'.size,fun k hk hg=>(h'.block k (Nat.lt_of_lt_of_le hk h.size) hg).trans (h.block k hk hg)⟩
theorem TbBut.grown (h:TbBut g w a) {row:Option Nat} (hg:a.grownBy b row) (hr:∀ k,row=some k→w.heap.size≤k):TbBut g w b :=
 ⟨hg.os.trans h.os,hg.tape.trans h.tape,hg.output.trans h.output,Nat.le_trans h.size hg.size,fun k hk hn=>(hg.block k (Nat.lt_of_lt_of_le hk h.size) fun e=>by have:=hr k e.symm;omega).trans (h.block k hk hn)⟩
theorem TbBut.setCell (h:TbBut g w a) (o:Nat) (v:Value):TbBut g w (a.setCell ⟨g,o,none⟩ v) :=
 ⟨h.os,h.tape,h.output,by simpa [World.setCell] using h.size,fun k hk hn=>(heap_setCell_other _ _ _ _ hn).trans (h.block k hk hn)⟩
theorem TbBut.to (h:TbBut g w a) {N:Nat} (hN:N≤g) (hw:N≤w.heap.size):Below N w a :=
 ⟨h.os,h.tape,h.output,h.size,fun k hk=>h.block k (by omega) (by omega)⟩
theorem TbBut.row {α:Type} {E:Lies α} {A:Option Addr} {L:List α} (h:TbBut g w a) (hr:ApartR E w (some g) A L):E.Row a A L:=(hr.off h.size h.block).1
theorem TbBut.sets {N:Nat} {A:Option Addr} {R:List (List Nat)} (h:TbBut g w a) (hs:SetsAp N w (some g) A R):SetsNew N a A R:=(hs.off h.size h.block).new
end
structure TbB (g:Nat) (w5 w:World) (cs:Array Value) (v0:Value) (N:List Pl.Nm) (v1:Value) (P:List Bool):Prop where
 tab:w.heap[g]? = some (.cells cs 34)
 own0:w.ownsRow w5.heap.size 9 LTx.m v0 N.length (LTx.all N)
 own1:w.ownsRow w5.heap.size 4 LBo.m v1 P.length (LBo.all P)
 but:TbBut g w5 w
 lt:g<w5.heap.size
section
variable {g : Nat} {w5 w w1 w2 : World} {cs : Array Value} {v0 v1 v : Value} {N : List Pl.Nm} {P : List Bool}
theorem TbB.below (h:TbB g w5 w cs v0 N v1 P) (hb:Below w.heap.size w w1):TbB g w5 w1 cs v0 N v1 P :=
 ⟨(hb.block _ (Nat.lt_of_lt_of_le h.lt h.but.size)).trans h.tab,ownsRow_below h.own0 hb,ownsRow_below h.own1 hb,h.but.below hb,h.lt⟩
theorem TbB.name (h:TbB g w5 w cs v0 N v1 P) {x:Pl.Nm} {n:Nat} {xs:List Value} (hg:w.grownBy w2 v0.ownBlock) (ho:w2.ownsRow w5.heap.size 9 LTx.m v n xs) (hn:n=N.length+1) (hx:xs=LTx.all N++LTx.all [x]):TbB g w5 w2 cs v (N++[x]) v1 P:=by
 subst hn hx
 have h0:v0.ownBlock≠some g:=fun e=>by
  have:=(h.own0.lt _ e).1
  have:=h.lt
  omega
 refine ⟨(hg.block _ (Nat.lt_of_lt_of_le h.lt h.but.size) fun e=>h0 e.symm).trans h.tab,by rw[List.length_append,LTx.all_append];exact ho,own_kept h.own1 fun b hb=>hg.block _ (h.own1.lt b hb).2 fun e=>own_types h.own0 h.own1 (by decide) b e.symm hb,h.but.grown hg fun k hk=>(h.own0.lt k hk).1,h.lt⟩
theorem TbB.point (h:TbB g w5 w cs v0 N v1 P) {x:Bool} {n:Nat} {xs:List Value} (hg:w.grownBy w2 v1.ownBlock) (ho:w2.ownsRow w5.heap.size 4 LBo.m v n xs) (hn:n=P.length+1) (hx:xs=LBo.all P++LBo.all [x]):TbB g w5 w2 cs v0 N v (P++[x]):=by
 subst hn hx
 have h0:v1.ownBlock≠some g:=fun e=>by
  have:=(h.own1.lt _ e).1
  have:=h.lt
  omega
 refine ⟨(hg.block _ (Nat.lt_of_lt_of_le h.lt h.but.size) fun e=>h0 e.symm).trans h.tab,own_kept h.own0 fun b hb=>hg.block _ (h.own0.lt b hb).2 fun e=>own_types h.own1 h.own0 (by decide) b e.symm hb,by rw[List.length_append,LBo.all_append];exact ho,h.but.grown hg fun k hk=>(h.own1.lt k hk).1,h.lt⟩
theorem TbB.put (h:TbB g w5 w cs v0 N v1 P) (o:Nat) (v:Value):TbB g w5 (w.setCell ⟨g,o,none⟩ v) (cs.setIfInBounds o v) v0 N v1 P:=by
 have off:∀ b,w5.heap.size≤b→(w.setCell ⟨g,o,none⟩ v).heap[b]? = w.heap[b]?:=fun b hb=>heap_setCell_other _ _ _ _ fun e=>by
  have:=h.lt
  simp only at e
  omega
 exact ⟨heap_setCell_same w g o _ _ v h.tab,own_kept h.own0 fun b hb=>off b (h.own0.lt b hb).1,own_kept h.own1 fun b hb=>off b (h.own1.lt b hb).1,h.but.setCell o v,h.lt⟩
theorem TbB.n0 (h:TbB g w5 w cs v0 N v1 P) {i:Nat} (hi:N.length=i):w.ownsRow w5.heap.size 9 LTx.m v0 i (LTx.all N):=hi ▸ h.own0
theorem TbB.n1 (h:TbB g w5 w cs v0 N v1 P) {i:Nat} (hi:P.length=i):w.ownsRow w5.heap.size 4 LBo.m v1 i (LBo.all P):=hi ▸ h.own1
theorem TbB.start (hg:w5.heap[g]? = some (.cells cs 34)):TbB g w5 w5 cs (.slice none 0 0) [] (.slice none 0 0) [] :=
 ⟨hg,World.ownsRow_nil _ _ _ _,World.ownsRow_nil _ _ _ _,TbBut.refl _ _,(Array.getElem?_eq_some_iff.1 hg).1⟩
theorem TbB.cell (h:TbB g w5 w cs v0 N v1 P) {o:Nat} {x:Value} (hx:cs[o]? = some x):w.cell? ⟨g,o,none⟩ = some x∧w.frozen? ⟨g,o,none⟩ = false∧g<w.heap.size :=
 ⟨(cell_of_row w g o _ _ _ h.tab).trans hx,frozen_of_row w g o _ _ h.tab,(Array.getElem?_eq_some_iff.1 h.tab).1⟩
end
theorem own_cap {w:World} {base size k n c:Nat} {e:TypeId} {A:Option Addr} {xs:List Value} (h:w.ownsRow base e size (.slice A k c) n xs):n≤c:=by
 rcases h.2 with ⟨h1,h2⟩ | ⟨g,cap,cur,h1,-,-,h2,-⟩
 ·cases h1;omega
 ·cases h1;exact h2
structure TableFar (N:Nat) (w:World) (m:TableM):Prop where
 p0:LTx.Row w m.A0 m.t.names∧NewR N m.A0 m.t.names
 p1:LBo.Row w m.A1 m.t.points∧NewR N m.A1 m.t.points
 p2:LTx.Row w m.A2 m.t.sigs∧NewR N m.A2 m.t.sigs
 p4:RoutesFar N w m.A4 m.t.routes
 p5:SetsNew N w m.A5 m.t.bars
 q:m.t.names.length≤m.c0
section
variable {N : Nat} {w w' : World} {m : TableM}
theorem TableFar.in_ (h:TableFar N w m):TableIn w m:=⟨h.p0.1,h.p1.1,h.p2.1,h.p4.in_,h.p5.in_⟩
theorem TableFar.below (h:TableFar N w m) (hb:Below w.heap.size w w'):TableFar N w' m:=⟨⟨h.p0.1.below rfl hb,h.p0.2⟩,⟨h.p1.1.below rfl hb,h.p1.2⟩,⟨h.p2.1.below rfl hb,h.p2.2⟩,h.p4.below hb,h.p5.below hb,h.q⟩
theorem TableFar.base (h:TableFar N w m) {N':Nat} (hn:N'≤N):TableFar N' w m:=⟨⟨h.p0.1,h.p0.2.base hn⟩,⟨h.p1.1,h.p1.2.base hn⟩,⟨h.p2.1,h.p2.2.base hn⟩,h.p4.base hn,h.p5.base hn,h.q⟩
theorem TableFar.off (h:TableFar N w m) {B:Nat} {cs:Array Value} {t:TypeId} {fr:Nat × Nat} (hB:w.heap[B]? = some (.cells cs t fr)) (ht:t≠123) (hN:B<N) (hs:w.heap.size≤w'.heap.size) (hk:∀ b,b≠B→w'.heap[b]? = w.heap[b]?):TableFar N w' m:=by
 have hk':∀ b,b<w.heap.size→b≠B→w'.heap[b]? = w.heap[b]?:=fun b _ hb=>hk b hb
 have row:∀ {α:Type} {E:Lies α} {A:Option Addr} {L:List α},E.Row w A L∧NewR N A L→E.Row w' A L∧NewR N A L:=fun h=>⟨(ApartR.new h.1 h.2 (k:=some B) (fun j hj=>by cases hj;exact hN)).off hs hk' |>.1,h.2⟩
 refine ⟨row h.p0,row h.p1,row h.p2,?_,(h.p5.apart (k:=some B) (fun j hj=>by cases hj;exact hN)).off hs hk' |>.new,h.q⟩
 obtain ⟨M,h1,h2,h3⟩:=h.p4
 refine ⟨M,h1,row h2,fun m hm=>?_⟩
 obtain ⟨hp,hf⟩:=h3 m hm
 refine ⟨⟨((hf.p1.apart hp.p1 hB ht hN).off hs hk').1,((hf.p2.apart hp.p2 hB ht hN).off hs hk').1,((hf.p3.apart hp.p3 hB ht hN).off hs hk').1,((hf.p4.apart hp.p4 hB ht hN).off hs hk').1,((hf.p5.apart hp.p5 hB ht hN).off hs hk').1,hp.q⟩,hf.kept fun b cs' fr' e=>hk b fun e'=>?_⟩
 subst e'
 rw [hB] at e
 cases e
 exact ht rfl
end
theorem TableFar.up {N g:Nat} {w2 w5 w6 w:World} {A0 A1 A2 A4 A5:Option Addr} {c0 c1 c2 c4 c5:Nat} {cs cs':Array Value} {v1:Value} {Ns Ss:List Pl.Nm} {Ps:List Bool} {se:Int} {R:List Rt.Route} {B:List (List Nat)} {n s k:Nat} (hn:Ns.length=n) (hk:Ps.length=k) (hs:Ss.length=s)
 (h:TbB g w5 w6 cs (.slice A0 n c0) Ns (.slice A1 k c1) Ps) (h':TbB g w6 w cs' (.slice A2 s c2) Ss v1 []) (hR:RoutesFar N w2 A4 R) (hb:Below w2.heap.size w2 w5) (hg:w2.heap.size≤g) (hS:SetsAp w2.heap.size w5 (some g) A5 B) (hN:N≤w2.heap.size):TableFar N w ⟨A0,c0,A1,c1,A2,c2,A4,c4,A5,c5,⟨Ns,Ps,Ss,se,R,B⟩⟩:=by
 have h25:=hb.size
 have hl:=h.lt
 have hw:=h.but.trans h'.but
 have row:∀ {α:Type} {E:Lies α} {t:TypeId} {A:Option Addr} {c n:Nat} {L:List α},L.length=n→w6.ownsRow w5.heap.size t E.m (.slice A n c) L.length (E.all L)→E.Row w A L∧NewR N A L:=fun hn ho=>by
  subst hn
  obtain ⟨-,A',c',e,-,hr⟩:=Lies.Row.of_own ho
  cases e
  have hnew:=own_new ho
  exact ⟨h'.but.row (ApartR.new hr hnew (fun j hj=>by cases hj;exact hl)),hnew.base (by omega)⟩
 refine ⟨row hn h.own0,row hk h.own1,?_,?_,(hw.sets hS).base hN,?_⟩
 ·subst hs
  obtain ⟨-,A',c',e,-,hr⟩:=Lies.Row.of_own h'.own0
  cases e
  exact ⟨hr,(own_new h'.own0).base (by have:=h.but.size;omega)⟩
 ·exact hR.below (hb.trans (hw.to hg h25))
 ·exact own_cap h.own0
def TableMade (x:Tb.Table × Int) (w:World) (e:Ending) (w':World):Prop:=∃ m:TableM,m.t=x.1∧e=.returned (.tuple #[tbV m,.int .i64 x.2])∧TableFar w.heap.size w' m∧Below w.heap.size w w'
theorem TableMade.yes {x:Tb.Table × Int} {w:World} {e:Ending} {w':World} (h:TableMade x w e w'):TableYes x w e w':=by
 obtain ⟨m,h1,h2,h3,h4⟩:=h
 exact ⟨m,h1,h2,h3.in_,h4⟩
abbrev tbZ:Obj:=.cells #[.slice none 0 0,.slice none 0 0,.slice none 0 0,.int .i64 0,.slice none 0 0,.slice none 0 0] 34
theorem TableFar.zero (N:Nat) (w:World):TableFar N w ⟨none,0,none,0,none,0,none,0,none,0,Tb.zero⟩ :=
 ⟨⟨.inl rfl,fun h=>absurd rfl h⟩,⟨.inl rfl,fun h=>absurd rfl h⟩,⟨.inl rfl,fun h=>absurd rfl h⟩,.nil _ _,.nil _ _,Nat.le_refl _⟩
theorem put6_heap {W:World} {B b:Nat} {v0 v1 v2 v3 v4 v5:Value} (h:b≠B) :
 ((((((W.setCell ⟨B,0,none⟩ v0).setCell ⟨B,1,none⟩ v1).setCell ⟨B,2,none⟩ v2).setCell ⟨B,3,none⟩ v3).setCell ⟨B,4,none⟩ v4).setCell ⟨B,5,none⟩ v5).heap[b]? = W.heap[b]?:=by
 repeat (rw[heap_setCell_other _ _ _ _ h])
theorem put6_below {n:Nat} {w W:World} {B:Nat} {v0 v1 v2 v3 v4 v5:Value} (h:Below n w W) (hB:n≤B) :
 Below n w ((((((W.setCell ⟨B,0,none⟩ v0).setCell ⟨B,1,none⟩ v1).setCell ⟨B,2,none⟩ v2).setCell ⟨B,3,none⟩ v3).setCell ⟨B,4,none⟩ v4).setCell ⟨B,5,none⟩ v5) :=
 (((((h.setCell (p:=⟨B,0,none⟩) hB _).setCell (p:=⟨B,1,none⟩) hB _).setCell (p:=⟨B,2,none⟩) hB _).setCell (p:=⟨B,3,none⟩) hB _).setCell (p:=⟨B,4,none⟩) hB _).setCell (p:=⟨B,5,none⟩) hB _
theorem SetsNew.laid {N N':Nat} {w:World} {A:Option Addr} {R:List (List Nat)} (h:SetsNew N w A R) (hn:N'≤N) (o:Obj):SetsAp N' (w.alloc o) (some w.heap.size) A R :=
 ((h.next (Nat.le_refl _)).below ((Below.refl _ _).alloc (Nat.le_refl _) _)).base hn
theorem SetsNew.put6 {N N':Nat} {W:World} {A:Option Addr} {R:List (List Nat)} (h:SetsNew N W A R) {B:Nat} (hB:B<N) (hn:N'≤N) {v0 v1 v2 v3 v4 v5:Value}:SetsAp N' ((((((W.setCell ⟨B,0,none⟩ v0).setCell ⟨B,1,none⟩ v1).setCell ⟨B,2,none⟩ v2).setCell ⟨B,3,none⟩ v3).setCell ⟨B,4,none⟩ v4).setCell ⟨B,5,none⟩ v5) (some B) A R :=
 ((h.apart (k:=some B) (fun j hj=>by cases hj;exact hB)).off (by simp) (fun b _ hb=>put6_heap hb)).base hn
theorem put6_same {W:World} {B:Nat} {x0 x1 x2 x3 x4 x5 v0 v1 v2 v3 v4 v5:Value} {t:TypeId} (h:W.heap[B]? = some (.cells #[x0,x1,x2,x3,x4,x5] t (0,0))) :
 ((((((W.setCell ⟨B,0,none⟩ v0).setCell ⟨B,1,none⟩ v1).setCell ⟨B,2,none⟩ v2).setCell ⟨B,3,none⟩ v3).setCell ⟨B,4,none⟩ v4).setCell ⟨B,5,none⟩ v5).heap[B]? = some (.cells #[v0,v1,v2,v3,v4,v5] t (0,0)) :=
 heap_setCell_same _ _ _ _ _ _ (heap_setCell_same _ _ _ _ _ _ (heap_setCell_same _ _ _ _ _ _ (heap_setCell_same _ _ _ _ _ _ (heap_setCell_same _ _ _ _ _ _ (heap_setCell_same _ _ _ _ _ _ h)))))
theorem TableMade.put {x:Tb.Table × Int} {w W:World} {N B:Nat} {m:TableM} {cs:Array Value} {fr:Nat × Nat} {v0 v1 v2 v3 v4 v5:Value} (hm:m.t=x.1) (h:TableFar N W m) (hB:W.heap[B]? = some (.cells cs 34 fr)) (hN:B<N) (hw:w.heap.size≤B) (hb:Below w.heap.size w W) :
 TableMade x w (.returned (.tuple #[tbV m,.int .i64 x.2])) ((((((W.setCell ⟨B,0,none⟩ v0).setCell ⟨B,1,none⟩ v1).setCell ⟨B,2,none⟩ v2).setCell ⟨B,3,none⟩ v3).setCell ⟨B,4,none⟩ v4).setCell ⟨B,5,none⟩ v5) :=
 ⟨m,hm,rfl,(h.off hB (by decide) hN (by simp) fun b hb=>put6_heap hb).base (by omega),put6_below hb hw⟩
open Go.RowKit
theorem madeP_route {l:List UInt8} {p:Pl.Plan} (h:madeP l=some p):Pl.Fit p∧Lp.Meas p∧(0≤p.ap∧p.ap≤1125899906842624)∧(0≤p.ho∧p.ho≤1099511627776):=by
 obtain ⟨hf,L,hL,hS,e⟩:=madeP_some h
 refine ⟨hf,?_⟩
 rw [e]
 have h1:=Nr.ap_fin hL
 exact ⟨Lp.meas_fin hL hS,⟨h1.1,by omega⟩,Rt.ho_fin hL⟩
namespace Rt
def Small (r:Route):Prop:=r.steps.length≤1000∧r.lap.length≤1000∧r.pts.length≤1000∧r.fl.length≤1000∧r.near.length≤1000
theorem zero_small:Small zero:=⟨by decide,by decide,by decide,by decide,by decide⟩
theorem fill_small {p:Pl.Plan} (hf:Pl.Fit p) {i:Nat} {w:Cr.Way} (hw:w∈(Cr.of p i).1):Small (fill p i w (Lp.of p i w).1):=by
 have h1:=Cr.of_steps hw
 have h2:=Lp.of_steps (p:=p) (i:=i) (w:=w)
 have h3:=Fl.of_len p (w.steps++(Lp.of p i w).1)
 have h4:=Dm.ofSteps_len p (w.steps++(Lp.of p i w).1) (w.steps++(Lp.of p i w).1).length
 rw [List.take_length] at h4
 have h5:(w.steps++(Lp.of p i w).1).length=w.steps.length+(Lp.of p i w).1.length:=List.length_append
 have h6:=Nr.of_len hf (i:=(i:Int))
 refine ⟨?_,?_,?_,?_,?_⟩
 ·show w.steps.length≤1000;omega
 ·show (Lp.of p i w).1.length≤1000;omega
 ·show (Fl.of p (w.steps++(Lp.of p i w).1)).pts.length≤1000;omega
 ·show (Fl.of p (w.steps++(Lp.of p i w).1)).fl.length≤1000;omega
 ·show ((Nr.of p i).1.map _).length≤1000;rw[List.length_map];omega
theorem of_small {p:Pl.Plan} (hf:Pl.Fit p) {i:Nat} {w:Cr.Way} (hw:w∈(Cr.of p i).1):Small (of p i w).1:=by
 by_cases h:(Lp.of p i w).2=0
 ·rw[of_ok h];exact fill_small hf hw
 ·rw[of_bad h];exact zero_small
theorem all_small {p:Pl.Plan} (hf:Pl.Fit p):∀ r∈(all p).1,Small r:=all_each fun _ _ _ hw _=>of_small hf hw
end Rt
open Go
def goesOn (P:Program) (md:Region.Mode) (ops:Array Oper) (Q:Exit→Act→World→Prop) (S:Array Bool→World→Prop) (fuel:Nat) (l:Array Bool) (a:Act) (w:World):Prop :=
 match fuel with
 | 0=>Region.ready md ops l=[]∧Q .normal a w
 | n+1=>(Region.ready md ops l=[]→Q .normal a w)∧∀ j,j∈Region.ready md ops l→wpOp P ops Q j (fun b u=>S (l.setIfInBounds j true) u∧goesOn P md ops Q S n (l.setIfInBounds j true) b u) a w
section
variable {P : Program} {md : Region.Mode} {ops : Array Oper} {Q : Exit → Act → World → Prop} {S : Array Bool → World → Prop}
theorem goesOn.any {n:Nat}:∀ {l:Array Bool} {a:Act} {w:World},goesOn P md ops Q S n l a w→wpAny P md ops Q n l a w:=by
 induction n with
 | zero=>intro l a w h;exact h
 | succ n ih=>intro l a w h;exact ⟨h.1,fun j hj=>wpOp_mono (fun b u hb=>ih hb.2) (h.2 j hj)⟩
def waits (md:Region.Mode) (ops:Array Oper) (i:Nat) (U:List Nat):Bool:=U.all fun u=>decide (u≠i) && ((ops[u]?).map fun o=>o.after.any fun e=>Region.binds md e && (e.on == i || U.contains e.on)).getD false
theorem waits.not_ready {i:Nat} {U:List Nat} (hU:waits md ops i U=true) {l:Array Bool} (h:∀ u∈U,l.getD u true=false) (hi:l.getD i true=false) {u:Nat} (hu:u∈U):u ∉ Region.ready md ops l:=fun hr=>by
 obtain ⟨-,o,ho,hall⟩:=mem_ready.1 hr
 have h1:=List.all_eq_true.1 hU u hu
 rw [ho,Bool.and_eq_true] at h1
 obtain ⟨e,he,h2⟩:=Array.any_eq_true'.1 h1.2
 rw [Bool.and_eq_true,Bool.or_eq_true,beq_iff_eq] at h2
 have h3:=hall e he h2.1
 have h4:l.getD e.on true=false:=by
  rcases h2.2 with h5 | h5
  ·rw[h5];exact hi
  ·exact h _ (List.contains_iff_mem.1 h5)
 rw [Array.getD_eq_getD_getElem?] at h3 h4
 cases hx:l[e.on]? with
 | none=>rw[hx] at h4;cases h4
 | some x=>rw[hx] at h3 h4;cases h3.symm.trans h4
theorem goesOn.pull {i:Nat} {oi:Oper} {v:Value} {U:List Nat} (hi:ops[i]? = some oi) (hsel:∀ (j:Nat) (o:Oper) cs b,ops[j]? = some o→o.op≠.select cs b)
 (hQ:∀ c a w,Q (.panic c) (a.put oi.dst v) w→Q (.panic c) a w) (hU:waits md ops i U=true) (hSi:∀ l w,S (l.setIfInBounds i true) w→S l w) {n:Nat} :
 ∀ {l:Array Bool} {a:Act} {w:World},(∀ u∈U,l.getD u true=false)→(∀ j oj,ops[j]? = some oj→j≠i→l.getD j true=false→(∀ e∈oj.after,Region.binds md e=true→e.on≠i)→oi.apart ops oj=true) →
   i∈Region.ready md ops l→YieldsIf P ops (fun w=>∃ l',(∀ u∈U,l'.getD u true=false)∧S l' w) oi v a→S (l.setIfInBounds i true) w →
   goesOn P md ops Q S n (l.setIfInBounds i true) (a.put oi.dst v) w→goesOn P md ops Q S (n+1) l a w:=by
 have hne:∀ u∈U,u≠i:=fun u hu=>by
  have:=List.all_eq_true.1 hU u hu
  rw [Bool.and_eq_true,decide_eq_true_iff] at this
  exact this.1
 have hs:∀ {l:Array Bool},(∀ u∈U,l.getD u true=false)→∀ u∈U,(l.setIfInBounds i true).getD u true=false:=fun h u hu=>by
  rw [getD_set_ne true (Ne.symm (hne u hu))]
  exact h u hu
 induction n with
 | zero =>
   intro l a w hl _ hr hy hS H
   refine ⟨fun h=>(by rw[h] at hr;cases hr),fun j hj=>?_⟩
   by_cases hji:j=i
   ·subst hji;exact hy.wpOp hi ⟨_,hs hl,hS⟩ ⟨hS,H⟩
   ·have:=ready_mono hj hji
    rw [H.1] at this
    cases this
 | succ n ih =>
   intro l a w hl hfree hr hy hS H
   refine ⟨fun h=>(by rw[h] at hr;cases hr),fun j hj=>?_⟩
   by_cases hji:j=i
   ·subst hji;exact hy.wpOp hi ⟨_,hs hl,hS⟩ ⟨hS,H⟩
   ·obtain ⟨hjl,oj,hoj,hall⟩:=mem_ready.1 hj
    have hil:=(mem_ready.1 hr).1
    have hno:∀ e∈oj.after,Region.binds md e=true→e.on≠i:=fun e he hb heq=>by
     have h1:=hall e he hb
     rw [heq,Array.getD_eq_getD_getElem?] at h1
     rw [Array.getD_eq_getD_getElem?] at hil
     cases hx:l[i]? with
     | none=>rw[hx] at hil;cases hil
     | some x=>rw[hx] at h1 hil;cases h1.symm.trans hil
    have hjU:j ∉ U:=fun hu=>waits.not_ready hU hl hil hu hj
    have step:=wpOp_putIf hoj (hfree j oj hoj hji hjl hno) (fun cs b=>hsel i oi cs b hi) (fun cs b=>hsel j oj cs b hoj) hQ hy (H.2 j (ready_mono hj hji))
    refine wpOp_mono (fun b u hb=>?_) step
    obtain ⟨hy',hS',H'⟩:=hb
    have hl':∀ x∈U,(l.setIfInBounds j true).getD x true=false:=fun x hx=>by
     rw [getD_set_ne true (fun e=>hjU (by rw[e];exact hx))]
     exact hl x hx
    rw [Array.setIfInBounds_comm _ _ (Ne.symm hji)] at hS' H'
    refine ⟨hSi _ _ hS',ih hl' (fun k ok hk hki hun hn=>hfree k ok hk hki ?_ hn) (ready_mono hr (Ne.symm hji)) hy' hS' H'⟩
    by_cases hjk:j=k
    ·subst hjk;exact hjl
    ·rwa [getD_set_ne true hjk] at hun
theorem goesOn.take {i:Nat} {oi:Oper} {v:Value} (U:List Nat) {n:Nat} {l:Array Bool} {a:Act} {w:World} (hi:ops[i]? = some oi) (hs:Region.noSelect ops=true) (hf:Region.free md ops l i=true) (hr:(Region.ready md ops l).contains i=true)
 (hQ:∀ c a w,Q (.panic c) (a.put oi.dst v) w→Q (.panic c) a w) (hU:waits md ops i U=true) (hl:(U.all fun u=>!l.getD u true)=true) (hSi:∀ l w,S (l.setIfInBounds i true) w→S l w)
 (hy:YieldsIf P ops (fun w=>∃ l',(∀ u∈U,l'.getD u true=false)∧S l' w) oi v a) (hS:S (l.setIfInBounds i true) w) (h:goesOn P md ops Q S n (l.setIfInBounds i true) (a.put oi.dst v) w):goesOn P md ops Q S (n+1) l a w :=
 goesOn.pull hi (Region.noSelect_spec hs) hQ hU hSi (fun u hu=>by simpa using List.all_eq_true.1 hl u hu) (Region.free_spec hi hf) (by simpa using hr) hy hS h
def EachOn (P:Program) (md:Region.Mode) (ops:Array Oper) (Q:Exit→Act→World→Prop) (S:Array Bool→World→Prop) (n:Nat) (l:Array Bool) (a:Act) (w:World) (rs:List Nat):Prop :=
 ∀ j∈rs,wpOp P ops Q j (fun b u=>S (l.setIfInBounds j true) u∧goesOn P md ops Q S n (l.setIfInBounds j true) b u) a w
theorem EachOn.nil {n:Nat} {l:Array Bool} {a:Act} {w:World}:EachOn P md ops Q S n l a w []:=fun _ h=>by cases h
theorem EachOn.cons {n:Nat} {l:Array Bool} {a:Act} {w:World} {j:Nat} {o:Oper} {rs:List Nat} (ho:ops[j]? = some o)
 (h:∀ K':Act→World→Prop,Go.Shut (∀ b u,S (l.setIfInBounds j true) u→goesOn P md ops Q S n (l.setIfInBounds j true) b u→K' b u)→if Region.wanted o (yielded ops a.tmps)=true then Oper.wp P o a w K' Q else K' (a.put o.dst undef) w)
 (hs:EachOn P md ops Q S n l a w rs):EachOn P md ops Q S n l a w (j :: rs):=fun k hk=>by
 rcases List.mem_cons.1 hk with rfl | hk
 ·exact wpOp_step ho fun K' hK=>h K' fun b u h1 h2=>hK b u ⟨h1,h2⟩
 ·exact hs k hk
theorem goesOn.each {rs:List Nat} {n:Nat} {l:Array Bool} {a:Act} {w:World} (hr:Region.ready md ops l=rs) (hne:rs≠[]) (h:EachOn P md ops Q S n l a w rs):goesOn P md ops Q S (n+1) l a w :=
 ⟨fun h0=>absurd (hr ▸ h0) hne,hr ▸ h⟩
theorem goesOn.done {l:Array Bool} {a:Act} {w:World} (hr:Region.ready md ops l=[]) (h:Q .normal a w):∀ n,goesOn P md ops Q S n l a w
 | 0=>⟨hr,h⟩
 | _+1=>⟨fun _=>h,by rw[hr];simp⟩
theorem goesOn.region {id:Nat} {a:Act} {w:World} (hm:P.follows .mixedOrders=true) (h:goesOn P .any ops Q S ops.size (Array.replicate ops.size false) a w.drew):(Code.region id ops true).wp P Q a w :=
 wp_region_any hm h.any
end
def TwoS (C:World→Prop) (k0:Nat) (D0:World→Prop) (k1:Nat) (D1:World→Prop) (l:Array Bool) (w:World):Prop:=C w∧(l.getD k0 true=false→D0 w)∧(l.getD k1 true=false→D1 w)
section
variable {C D0 D1 : World → Prop} {k0 k1 : Nat} {l : Array Bool} {w : World} {U : List Nat}
theorem TwoS.less {i:Nat} (h0:i≠k0) (h1:i≠k1):∀ l w,TwoS C k0 D0 k1 D1 (l.setIfInBounds i true) w→TwoS C k0 D0 k1 D1 l w:=fun l w h =>
 ⟨h.1,fun e=>h.2.1 (by rw[getD_set_ne true h0];exact e),fun e=>h.2.2 (by rw[getD_set_ne true h1];exact e)⟩
theorem TwoS.any (h:∃ l',(∀ u∈U,l'.getD u true=false)∧TwoS C k0 D0 k1 D1 l' w):C w:=h.elim fun _ h=>h.2.1
theorem TwoS.d0 (h:∃ l',(∀ u∈U,l'.getD u true=false)∧TwoS C k0 D0 k1 D1 l' w) (hk:k0∈U):D0 w:=h.elim fun _ h=>h.2.2.1 (h.1 _ hk)
theorem TwoS.d1 (h:∃ l',(∀ u∈U,l'.getD u true=false)∧TwoS C k0 D0 k1 D1 l' w) (hk:k1∈U):D1 w:=h.elim fun _ h=>h.2.2.2 (h.1 _ hk)
theorem TwoS.of (hc:C w) (h0:D0 w) (h1:D1 w):TwoS C k0 D0 k1 D1 l w:=⟨hc,fun _=>h0,fun _=>h1⟩
end
end Go.Proofs.YtncphjodaklleaaGreat
namespace Go.Proofs.YtncphjodaklleaaGreat.Tb
open Go Pl Wk
def rises (l:List Int):Bool:=ups (fun i=>decide (l.getD (i - 1) 0<l.getD i 0)) 1 l.length
def risesN (l:List Nm):Bool:=ups (fun i=>decide (l.getD (i - 1) []<l.getD i [])) 1 l.length
def isIn (x n:Int):Bool:=decide (0≤x) && decide (x<n)
def upTo (x n:Int):Bool:=decide (0≤x) && decide (x≤n)
theorem isIn_iff {x n:Int}:isIn x n=true ↔ 0≤x∧x<n:=by unfold isIn;rw[Bool.and_eq_true,decide_eq_true_iff,decide_eq_true_iff]
theorem ups_over (f:Nat→Bool) {j n:Nat} (h:n≤j):ups f j n=true:=by
 unfold ups
 rw [Nat.sub_eq_zero_of_le h]
 rfl
theorem no_any {α:Type} {l:List α} {q:α→Bool}:(!l.any fun x=>!q x)=true ↔ ∀ x∈l,q x=true:=by
 rw [Bool.not_eq_true',List.any_eq_false]
 exact ⟨fun h x hx=>by have:=h x hx;simpa using this,fun h x hx=>by rw[h x hx];decide⟩
theorem all_at {α:Type} {l:List α} {p:α→Prop} (d:α):(∀ x∈l,p x) ↔ ∀ i,i<l.length→p (l.getD i d):=by
 constructor
 ·intro h i hi
  rw [getD_at (List.getElem?_eq_getElem hi)]
  exact h _ (List.getElem_mem hi)
 ·intro h x hx
  obtain ⟨i,hi,rfl⟩:=List.getElem_of_mem hx
  have:=h i hi
  rwa [getD_at (List.getElem?_eq_getElem hi)] at this
theorem split_first (n:Nat) {p r:Nat→Prop}:(∀ i,0≤i→i<n→p i∧(i=0∨r i)) ↔ (∀ i,1≤i→i<n→r i)∧∀ i,i<n→p i :=
 ⟨fun h=>⟨fun i hi hn=>(h i (Nat.zero_le _) hn).2.elim (fun e=>by omega) id,fun i hi=>(h i (Nat.zero_le _) hi).1⟩,fun h i _ hi=>⟨h.2 i hi,(Nat.eq_zero_or_pos i).imp id fun h0=>h.1 i h0 hi⟩⟩
theorem places_eq (l:List Int) (n:Int):(rises l && !l.any fun x=>!isIn x n)=risingOk l n:=by
 rw [Bool.eq_iff_iff,Bool.and_eq_true,no_any,all_at 0,rises,risingOk,ups_iff,ups_iff]
 simp only [riseOk,isIn_iff,Bool.and_eq_true,Bool.or_eq_true,decide_eq_true_iff]
 exact (split_first l.length (p:=fun i=>0≤l.getD i 0∧l.getD i 0<n) (r:=fun i=>l.getD (i - 1) 0<l.getD i 0)).symm
theorem named_eq (l:List Nm):(risesN l && !l.any fun x=>!Fig.nameB x)=namesOk l:=by
 rw [Bool.eq_iff_iff,Bool.and_eq_true,no_any,all_at [],risesN,namesOk,ups_iff,ups_iff]
 simp only [nameOk,Bool.and_eq_true,Bool.or_eq_true,decide_eq_true_iff]
 exact (split_first l.length (p:=fun i=>Fig.nameB (l.getD i [])=true) (r:=fun i=>l.getD (i - 1) []<l.getD i [])).symm
def askedOk (pts:List Bool) (n:Int) (x:Dm.Dem):Bool:=isIn x.pt n && pts.getD x.pt.toNat false && ((x.pos == 1) || (x.pos == 2))
theorem asked_eq (pts:List Bool) (l:List Dm.Dem):(l.all (askedOk pts pts.length) && rises (l.map Dm.Dem.pt))=demandsOk pts l:=by
 have hm:∀ i,i<l.length→(l.map Dm.Dem.pt).getD i 0=(l.getD i dem0).pt:=fun i hi=>by
  rw [getD_at (List.getElem?_eq_getElem hi),getD_at (x:=l[i].pt)]
  rw [List.getElem?_map,List.getElem?_eq_getElem hi];rfl
 rw [Bool.eq_iff_iff,Bool.and_eq_true,List.all_eq_true,all_at dem0,rises,demandsOk,ups_iff,ups_iff,List.length_map]
 simp only [demOk,askedOk,isIn_iff,Bool.and_eq_true,Bool.or_eq_true,decide_eq_true_iff]
 constructor
 ·intro h i _ hi
  obtain ⟨⟨⟨h1,h2⟩,h3⟩,h4⟩:=h.1 i hi
  refine ⟨⟨⟨⟨h1,h2⟩,h3⟩,h4⟩,(Nat.eq_zero_or_pos i).imp id fun h0=>?_⟩
  have:=h.2 i h0 hi
  rwa [hm i hi,hm (i - 1) (by omega)] at this
 ·intro h
  refine ⟨fun i hi=>?_,fun i h0 hi=>?_⟩
  ·obtain ⟨⟨⟨⟨h1,h2⟩,h3⟩,h4⟩,-⟩:=h i (Nat.zero_le _) hi
   exact ⟨⟨⟨h1,h2⟩,h3⟩,h4⟩
  ·rw [hm i hi,hm (i - 1) (by omega)]
   exact (h i (Nat.zero_le _) hi).2.elim (fun e=>by omega) id
def throughOk (pt:Bool) (x:Stp):Bool:=(min x.f x.t == 0) && decide (0<max x.f x.t) && decide (max x.f x.t≤if pt=true then 2 else 1)
theorem through_eq (pts:List Bool) (x:Stp):throughOk (pts.getD x.s.toNat false) x=goesOk pts x:=by
 unfold throughOk goesOk
 generalize pts.getD x.s.toNat false=z
 generalize max x.f x.t=k
 rw [Bool.eq_iff_iff]
 simp only [Bool.and_eq_true,Bool.or_eq_true,decide_eq_true_iff,beq_iff_eq]
 cases z
 ·simp only [Bool.false_eq_true,if_false,and_false,or_false]
  omega
 ·simp only [if_true,and_true]
  omega
def passOk (pts:List Bool) (l:List Stp) (i:Nat):Bool:=isIn (l.getD i stp0).s pts.length && !within (l.take i) (l.getD i stp0).s && throughOk (pts.getD (l.getD i stp0).s.toNat false) (l.getD i stp0)
def passes (pts:List Bool) (l:List Stp):Bool:=decide ((l.length:Int)≤16) && ups (passOk pts l) 0 l.length
theorem passes_eq (pts:List Bool) (l:List Stp):passes pts l=stepsOk pts l []:=by
 have h:passOk pts l=stepOk pts l []:=funext fun i=>by
  unfold passOk stepOk isIn
  rw [through_eq]
  show _=(_ && _ && _ && !false && _)
  rw [Bool.not_false,Bool.and_true]
 unfold passes stepsOk
 rw [h,Bool.and_comm]
theorem steps_split (pts:List Bool) (l o:List Stp):stepsOk pts l o=(stepsOk pts l [] && !o.any fun x=>within l x.s):=by
 have hw:∀ (l:List Stp) (s:Int),within l s=true ↔ ∃ x∈l,x.s=s:=fun l s=>by
  unfold within
  rw [List.any_eq_true]
  simp only [decide_eq_true_iff]
 rw [Bool.eq_iff_iff,Bool.and_eq_true,Bool.not_eq_true',List.any_eq_false]
 unfold stepsOk
 rw [Bool.and_eq_true,Bool.and_eq_true,ups_iff,ups_iff]
 have hn:∀ s,within [] s=false:=fun _=>rfl
 simp only [stepOk,Bool.and_eq_true,hn,Bool.not_false,and_true,Bool.not_eq_true']
 constructor
 ·rintro ⟨h,h16⟩
  refine ⟨⟨fun i h0 hi=>?_,h16⟩,fun x hx=>?_⟩
  ·obtain ⟨⟨h1,-⟩,h2⟩:=h i h0 hi
   exact ⟨h1,h2⟩
  ·intro hwx
   obtain ⟨y,hy,hys⟩:=(hw _ _).1 hwx
   obtain ⟨i,hi,rfl⟩:=List.getElem_of_mem hy
   have:=(h i (Nat.zero_le _) hi).1.2
   rw [getD_at (List.getElem?_eq_getElem hi),hys] at this
   rw [(hw o x.s).2 ⟨x,hx,rfl⟩] at this
   cases this
 ·rintro ⟨⟨h,h16⟩,ha⟩
  refine ⟨fun i h0 hi=>?_,h16⟩
  obtain ⟨h1,h2⟩:=h i h0 hi
  refine ⟨⟨h1,?_⟩,h2⟩
  cases hz:within o (l.getD i stp0).s with
  | false=>rfl
  | true =>
    obtain ⟨y,hy,hys⟩:=(hw _ _).1 hz
    refine absurd ((hw _ _).2 ⟨l[i],List.getElem_mem hi,?_⟩) (ha y hy)
    rw [hys,getD_at (List.getElem?_eq_getElem hi)]
def possible (t:Table) (r:Rt.Route):Bool :=
 isIn r.entry t.sigs.length && ((r.exit == -1) || isIn r.exit t.sigs.length) && decide (0<(r.steps.length:Int)) && passes t.points r.steps && passes t.points r.lap && (!r.steps.any fun x=>within r.lap x.s) && (r.pts.all (askedOk t.points t.points.length) && rises (r.pts.map Dm.Dem.pt)) &&
  asksOk t.points r.pts r.steps && asksOk t.points r.pts r.lap && (rises r.fl && !r.fl.any fun x=>!isIn x t.sigs.length) && (rises r.near && !r.near.any fun x=>!isIn x t.names.length) && upTo r.dist 281474976710655 && upTo r.timer 4294967295
theorem possible_eq (t:Table) (r:Rt.Route):possible t r=fits t r:=by
 unfold possible fits
 rw [asked_eq,places_eq,places_eq,passes_eq,passes_eq,steps_split t.points r.lap r.steps]
 generalize (!r.steps.any fun x=>within r.lap x.s)=a1
 generalize stepsOk t.points r.steps []=a2
 generalize stepsOk t.points r.lap []=a3
 generalize demandsOk t.points r.pts=a4
 generalize asksOk t.points r.pts r.steps=a5
 generalize asksOk t.points r.pts r.lap=a6
 generalize risingOk r.fl _=a7
 generalize risingOk r.near _=a8
 rw [Bool.eq_iff_iff]
 unfold isIn upTo
 simp only [Bool.and_eq_true,Bool.or_eq_true,decide_eq_true_iff,beq_iff_eq]
 constructor
 ·rintro ⟨⟨⟨⟨⟨⟨⟨⟨⟨⟨⟨⟨h1,h2⟩,h3⟩,h4⟩,h5⟩,h6⟩,h7⟩,h8⟩,h9⟩,h10⟩,h11⟩,h12⟩,h13⟩
  refine ⟨⟨⟨⟨⟨⟨⟨⟨⟨⟨⟨⟨⟨⟨⟨h1.1,h1.2⟩,?_⟩,?_⟩,h3⟩,h4⟩,h5,h6⟩,h7⟩,h8⟩,h9⟩,h10⟩,h11⟩,h12.1⟩,?_⟩,h13.1⟩,?_⟩ <;> omega
 ·rintro ⟨⟨⟨⟨⟨⟨⟨⟨⟨⟨⟨⟨⟨⟨⟨h1,h1'⟩,h2⟩,h2'⟩,h3⟩,h4⟩,h5,h6⟩,h7⟩,h8⟩,h9⟩,h10⟩,h11⟩,h12⟩,h12'⟩,h13⟩,h13'⟩
  refine ⟨⟨⟨⟨⟨⟨⟨⟨⟨⟨⟨⟨⟨h1,h1'⟩,?_⟩,h3⟩,h4⟩,h5⟩,h6⟩,h7⟩,h8⟩,h9⟩,h10⟩,h11⟩,h12,?_⟩,h13,?_⟩ <;> omega
end Go.Proofs.YtncphjodaklleaaGreat.Tb
