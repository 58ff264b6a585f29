/- Lemmas. -/
import Derived.Test.YtjofpclmbjpgjaaGreatMk46
set_option maxHeartbeats 16000000
set_option maxRecDepth 100000
namespace Go.Proofs.YtjofpclmbjpgjaaGreat
open Lib (hid)
open Go.RowKit
theorem tableMakes_walk (s:ByteArray) (W:World) (_ws:s.size<=maxLen) :
 Calls Tryz.prog 3 #[.string s] W λe w'=>e=.returned (.bool true)/\Below W.heap.size W w':=by
 --[
 have AW:=hid zS
 cases hm:fY s.data.toList with
 | none =>
   have CM:=hid (λW=>AgW hm W)
   clear hm
   go_enter Tryz.func3,Tryz.ntmps3
   go_wp2_with fail
   refine(CM.out _).mono ?_;rintro e w1 ⟨p,A,c,A',c',rfl,hb1⟩
   have B1:=hid (hb1.alloc hb1.size (aD p A c A' c'))
   clear hb1 CM
   go_wp2_with fail
   refine(AW.out _).mono ?_;rintro e w8 ⟨rfl,hb8⟩
   go_wp2
   go_ret
   exact⟨rfl,B1.out.trans (hb8.mono B1.out.size)⟩
 | some p =>
   obtain⟨hfit,hmeas,hap,hho⟩:=gN hm
   have hho2:0<=p.ho/\p.ho<=1125899906842624:=by omega
   have HT:=hid (Tb.qG hfit (mU hm))
   have CM:=hid (λW=>rR hm W)
   clear hm
   go_enter Tryz.func3,Tryz.ntmps3
   go_wp2_with fail
   refine(CM.out _).mono ?_;rintro e w1 ⟨A,c,A',c',rfl,pin,hb1⟩
   have X1:=(AtB w1).alloc (ArR _) (aD p A c A' c')
   have B2:=hid (hb1.trans (X1.mono hb1.size))
   have RP:=hid (AsW w1 (aD p A c A' c'))
   have I2:=hid (pin.below X1)
   obtain⟨⟨p0,p1,p2,p3,p4,p5⟩,-,gx⟩:=row6 RP.out
   clear pin hb1 X1 CM
   go_upto_region 4 with fail
   generalize w1.alloc (aD p A c A' c')=w2 at B2 RP I2 p0 p1 p2 p3 p4 p5 gx ⊢
   generalize w1.heap.size=gq at RP p0 p1 p2 p3 p4 p5 gx ⊢
   have C3:=hid (mR p hfit hmeas hap hho2 A c A' c' w2 I2.out)
   have CR:=hid (λW (hW:Below w2.heap.size w2 W)=>yL p hfit hmeas hap hho2 A c A' c' W (I2.out.below hW))
   generalize Tb.make p=x at C3 CR HT
   obtain⟨T,er⟩:=x
   clear hfit hmeas hap hho hho2
   go_wp2_with fail
   refine C3.out.mono ?_;rintro e w3 ⟨m,hm,rfl,hI,hb3⟩
   have HM:=hid hm
   clear hm
   have H4:=AsW w3 (tbO m)
   have X4:=(AtB w3).alloc (ArR _) (tbO m)
   have Y4:=hb3.trans (X4.mono hb3.size)
   have I4:=hid (hI.in_.below X4)
   have Z4:=hid Y4
   have R4:=hid H4
   have B4:=hid (B2.out.trans (Y4.mono B2.out.size))
   clear p0 p1 p2 p3 p4 p5
   have RQ:=hid ((Y4.block _ gx).trans RP.out)
   obtain⟨⟨p0,p1,p2,p3,p4,p5⟩,-,gq4⟩:=row6 RQ.out
   clear hI hb3 X4 Y4 H4 gx RP C3
   go_upto_region 5 with fail
   generalize w3.alloc (tbO m)=w4 at I4 Z4 R4 B4 RQ p0 p1 p2 p3 p4 p5 gq4 ⊢
   generalize w3.heap.size=g4 at R4 ⊢
   go_wp2_with fail
   refine(CR.out _ Z4.out).mono ?_;rintro e w5 ⟨m',hm',rfl,hI,hb5⟩
   have HM':=hid hm'
   clear hm'
   have X6:=(AtB w5).alloc (ArR _) (tbO m')
   have Y6:=hb5.trans (X6.mono hb5.size)
   have I6:=hid (hI.in_.below X6)
   have R6:=hid (AsW w5 (tbO m'))
   have Z6:=hid Y6
   clear hI hb5 X6 Y6 p0 p1 p2 p3 p4 p5 gq4 RQ CR Z4 B2 I2
   go_upto_region 6 with fail
   generalize w5.alloc (tbO m')=w6 at I6 Z6 R6 ⊢
   generalize w5.heap.size=g6 at R6 ⊢
   have g4l:=(cA R4.out).2
   have g6l:=(cA R6.out).2
   have KB:=hid (λW (hW:Below w6.heap.size w6 W)=>AsG (cA ((hW.block _ (AsE g4l Z6.out.size)).trans ((Z6.out.block _ g4l).trans R4.out))).1 (cA ((hW.block _ g6l).trans R6.out)).1)
   have ht:Tb.Tight T:=HT.out
   have hm:m.t=T:=HM.out
   have hm':m'.t=T:=HM'.out
   rw[<-hm] at ht
   have C1:=hid (OneIs.keep (w0:=w6) λW hW=>show Calls Tryz.prog 5 #[] W (OneIs (.bool true) W) from AW.out W)
   have C2:=hid (OneIs.keep (w0:=w6) λW hW=>show Calls Tryz.prog 8 #[tbV m,tbV m'] W (OneIs (.bool true) W) from yK m m' W (hm.trans hm'.symm) ((I4.out.below Z6.out).below hW) (I6.out.below hW) (ArS ht.routes (by decide)) ht.route (λx hx=>ArS (ht.bar x hx) (by decide)) (ArS ht.bars (by decide)) (ArS ht.names (by decide)) (ArS ht.points (by decide)) (ArS ht.sigs (by decide)))
   have BX:=hid (B4.out.trans (Z6.out.mono B4.out.size))
   clear g4l g6l ht hm hm' HM HM' AW R4 R6 I4 I6 Z6 B4 HT
   refine dO (λW=>Below w6.heap.size w6 W) (Below.refl _ _) ?_
   repeat ((first
    | refine InText.dead ?_
    | (refine InText.val (v:=?_) ?_ ?_;rotate_left;(focus (intro W hW;first|(go_simp;(try with_reducible rfl);done)|(obtain⟨⟨p0,p1,p2,p3,p4,p5⟩,q0,q1,q2,q3,q4,q5⟩:=KB.out W hW;go_simp;(try with_reducible rfl);done))))
    | (refine InText.call (v:=?_) (f:=?_) (args:=?_) ?_ ?_ ?_;rotate_left 3;(focus (intro W hW;go_simp;constructor;with_reducible rfl;with_reducible rfl));(focus (first|with_reducible exact C1.out|with_reducible exact C2.out))));(try simp only[Act.put,ArO,ArP,ArQ]))
   refine InText.end_ λw4 hb4=>?_
   have F8:=hid (BX.out.trans (hb4.mono BX.out.size))
   clear hb4
   go_wp2
   go_ret
   exact⟨rfl,F8.out⟩
 --]
end Go.Proofs.YtjofpclmbjpgjaaGreat
