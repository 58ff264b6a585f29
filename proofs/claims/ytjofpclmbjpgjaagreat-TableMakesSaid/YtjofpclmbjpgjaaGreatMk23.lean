/- Lemmas. -/
import Derived.Test.YtjofpclmbjpgjaaGreatMk15
import Derived.Test.YtjofpclmbjpgjaaGreatMk20
import Derived.Test.YtjofpclmbjpgjaaGreatMk22
import Derived.Laws.BitsAllLaws
import Derived.Lib.TrailingZeros
set_option maxHeartbeats 16000000
set_option maxRecDepth 100000
namespace Go.Proofs.YtjofpclmbjpgjaaGreat
open Lib (hid)
open Go.RowKit
theorem AlS (p:Pl.Plan) (hf:Pl.Fit p) (hm:Lp.Meas p) (hap:0<=p.ap/\p.ap<=1125899906842624) (hho:0<=p.ho/\p.ho<=1125899906842624) (A:Option Addr) (c:Nat) (A':Option Addr) (c':Nat) (i:Nat) (hi:i<p.sigs.length) (y:Cr.Way) (hy:y∈(Cr.of p i).1) (Aw:Option Addr) (cw:Nat) (w:World) (h:PlanIn w p A A') (hway:TRow 129 aE w Aw y.steps) (hcw:y.steps.length<=cw) :
 Calls Tryz.prog 36 #[aR p A c A' c',.int .i64 i,AhJ Aw cw y] w (RouteYes (Rt.of p i y) w):=by
 obtain⟨hP,hY,hZ,hB⟩:=pG w (aD p A c A' c') (eW Aw y.steps.length cw y.exit) rtZ
 have HCW:=hid hcw
 clear hcw
 have hst:=Cr.of_steps hy
 have X0:=hid hB
 have HI:=hid (h.below hB)
 have HW:=hid (hway.below hB)
 have CL:=hid (AlR p hf hm A c A' c' i y Aw cw _ (h.below hB) (hway.below hB).row (by omega))
 have hpos:=Rt.own_pos hi hy
 have hl16:=Lp.of_steps (p:=p) (i:=i) (w:=y)
 have HOF:=hid (show Rt.of p i y=if (Lp.of p i y).2=0 then(Rt.fill p i y (Lp.of p i y).1,0) else(Rt.zero,(Lp.of p i y).2) from rfl)
 obtain⟨⟨p0,p1,p2,p3,p4,p5⟩,-,gp⟩:=row6 hP
 obtain⟨⟨y0,y1⟩,-,gy⟩:=pI hY
 obtain⟨⟨z0,z1,z2,z3,z4,z5,z6,z7,z8⟩,⟨e0,e1,e2,e3,e4,e5,e6,e7,e8⟩,gz⟩:=row9 hZ
 have HH:=hid (AsG hP (AsG hY hZ))
 have HPO:=hid hpos
 have ND:=Rt.near_bd hf hm (i:Int)
 clear hP hY hZ hB h hway hpos
 generalize Lp.of p i y=u at CL hl16 HOF HPO
 obtain⟨l,er⟩:=u
 simp only at hl16 HOF HPO
 obtain⟨ys,yx⟩:=y
 simp only at hst y0 HPO
 generalize hw3:((w.alloc (aD p A c A' c')).alloc (eW Aw ys.length cw yx)).alloc rtZ=w3 at X0 HI HW CL HH p0 p1 p2 p3 p4 p5 gp y0 y1 gy z0 z1 z2 z3 z4 z5 z6 z7 z8 e0 e1 e2 e3 e4 e5 e6 e7 e8 gz
 have hsz:w3.heap.size=w.heap.size+1+1+1:=by rw[<-hw3];simp
 have hgo:∀ Q:Ending->World->Prop,(Calls Tryz.prog 36 #[aR p A c A' c',.int .i64 i,AhJ Aw cw ⟨ys,yx⟩] w Q)=(Calls Tryz.prog 36 #[.agg #[.int .i64 p.ov,.int .i64 p.ap,.int .i64 p.se,.int .i64 p.ho,.slice A p.secs.length c,.slice A' p.sigs.length c'],.int .i64 i,.agg #[.slice Aw ys.length cw,.int .i64 yx]] w Q):=λ_=>rfl
 rw[hgo]
 clear hgo
 go_enter Tryz.func36,Tryz.ntmps36
 go_upto_region 1 with fail
 clear hw3
 go_wp2_with fail
 refine CL.out.mono ?_;rintro e w4 ⟨B4,d4,rfl,hR4,hd4,hb4⟩
 have HD4:=hid hd4
 have X4:=hid (X0.out.trans (hb4.mono X0.out.size))
 have HH4:=hid (AsG ((hb4.block _ gp).trans HH.out.1) (AsG ((hb4.block _ gy).trans HH.out.2.1) ((hb4.block _ gz).trans HH.out.2.2)))
 have R4:=hid hR4
 have W4:=hid (HW.out.below hb4)
 have I4:=hid (HI.out.below hb4)
 have S34:=hb4.size
 clear p0 p1 p2 p3 p4 p5 gp y0 y1 gy z0 z1 z2 z3 z4 z5 z6 z7 z8 e0 e1 e2 e3 e4 e5 e6 e7 e8 gz CL hR4 hb4 HW HI X0 HH
 obtain⟨⟨p0,p1,p2,p3,p4,p5⟩,-,gp⟩:=row6 HH4.out.1
 obtain⟨⟨y0,y1⟩,-,gy⟩:=pI HH4.out.2.1
 obtain⟨⟨z0,z1,z2,z3,z4,z5,z6,z7,z8⟩,⟨e0,e1,e2,e3,e4,e5,e6,e7,e8⟩,gz⟩:=row9 HH4.out.2.2
 by_cases her:er=0
 ·--[
  subst her
  have E:=hid (show Rt.of p i ⟨ys,yx⟩=(Rt.fill p i ⟨ys,yx⟩ l,0) from by rw[HOF.out,ArZ rfl])
  have X5:=(AtB w4).alloc (ArR _) (rtR i yx (.slice Aw ys.length cw) (.slice B4 l.length d4) (.slice none 0 0) (.slice none 0 0) (.slice none 0 0) 0 0)
  have RR5:=hid (AsW w4 (rtR i yx (.slice Aw ys.length cw) (.slice B4 l.length d4) (.slice none 0 0) (.slice none 0 0) (.slice none 0 0) 0 0))
  have B45:=hid X5
  have S45:=hid (show w4.heap.size<(w4.alloc (rtR i yx (.slice Aw ys.length cw) (.slice B4 l.length d4) (.slice none 0 0) (.slice none 0 0) (.slice none 0 0) 0 0)).heap.size from by simp)
  go_upto_region 5 with fail
  generalize w4.alloc (rtR i yx (.slice Aw ys.length cw) (.slice B4 l.length d4) (.slice none 0 0) (.slice none 0 0) (.slice none 0 0) 0 0)=w5 at RR5 B45 S45 ⊢
  have KH:=hid (λW (hW:Below w4.heap.size w4 W)=>AsG ((hW.block _ gp).trans HH4.out.1) (AsG ((hW.block _ gy).trans HH4.out.2.1) ((hW.block _ gz).trans HH4.out.2.2)))
  have KI:=hid (λW (hW:Below w4.heap.size w4 W)=>I4.out.below hW)
  have KW:=hid (λW (hW:Below w4.heap.size w4 W)=>AsG (W4.out.below hW) (R4.out.below hW))
  have GS:=hid (AsG gp (AsG gy gz))
  generalize hgr:w4.heap.size=gr at RR5 S45 ⊢
  have HGR:=hid hgr
  clear hgr
  clear p0 p1 p2 p3 p4 p5 y0 y1 z0 z1 z2 z3 z4 z5 z6 z7 z8 e0 e1 e2 e3 e4 e5 e6 e7 e8 gp gy gz X5 HH4 I4 W4 R4
  obtain⟨⟨p0,p1,p2,p3,p4,p5⟩,-,gp⟩:=row6 (KH.out _ B45.out).1
  obtain⟨⟨y0,y1⟩,-,gy⟩:=pI (KH.out _ B45.out).2.1
  have CF:=hid (AlN p hf A c A' c' ys l Aw B4 cw d4 w5 (KI.out _ B45.out) (KW.out _ B45.out).1.row (KW.out _ B45.out).2.row (by omega) HPO.out)
  have EF:=hid (show Rt.fill p i ⟨ys,yx⟩ l=⟨i,yx,ys,l,(Fl.of p (ys++l)).pts,(Fl.of p (ys++l)).fl,ints (Nr.of p i).1,(Nr.of p i).2,p.ho+(Nr.of p i).2 / 100000⟩ from rfl)
  generalize Fl.of p (ys++l)=gf at CF EF
  go_wp2_with fail
  refine CF.out.mono ?_;rintro e w6 ⟨B5,d5,B6,d6,rfl,hR5,hd5,hR6,hd6,hb6,hn5,hn6⟩
  have B46:=hid (B45.out.trans (hb6.mono B45.out.size))
  have RR6:=hid ((hb6.block gr S45.out).trans RR5.out)
  have P5:=hid (AsG hR5 (AsG hd5 hn5))
  have P6:=hid (AsG hR6 (AsG hd6 hn6))
  have S56:=hid hb6.size
  clear hR5 hd5 hR6 hd6 hb6 hn5 hn6 CF RR5 p0 p1 p2 p3 p4 p5 gp y0 y1 gy
  obtain⟨⟨r0,r1,r2,r3,r4,r5,r6,r7,r8⟩,⟨f0,f1,f2,f3,f4,f5,f6,f7,f8⟩,gr6⟩:=row9 RR6.out
  go_upto_region 6 with fail
  have hne5:gf.pts≠[]->∀ a,B5=some a->a.block≠gr:=λhz a ha=>by
   have:=P5.out.2.2 hz a ha
   have:=S45.out
   omega
  have hne6:gf.fl≠[]->∀ a,B6=some a->a.block≠gr:=λhz a ha=>by
   have:=P6.out.2.2 hz a ha
   have:=S45.out
   omega
  have Q5:=hid (show aJ.Row ((w6.setCell ⟨gr,4,none⟩ (.slice B5 gf.pts.length d5)).setCell ⟨gr,5,none⟩ (.slice B6 gf.fl.length d6)) B5 gf.pts from bC P5.out.1 (by simp) λhz a ha=>by rw[AsX _ _ _ _ (hne5 hz a ha),AsX _ _ _ _ (hne5 hz a ha)])
  have Q6:=hid (show aF.Row ((w6.setCell ⟨gr,4,none⟩ (.slice B5 gf.pts.length d5)).setCell ⟨gr,5,none⟩ (.slice B6 gf.fl.length d6)) B6 gf.fl from bC P6.out.1 (by simp) λhz a ha=>by rw[AsX _ _ _ _ (hne6 hz a ha),AsX _ _ _ _ (hne6 hz a ha)])
  have RR7:=hid (show ((w6.setCell ⟨gr,4,none⟩ (.slice B5 gf.pts.length d5)).setCell ⟨gr,5,none⟩ (.slice B6 gf.fl.length d6)).heap[gr]?=some (rtR i yx (.slice Aw ys.length cw) (.slice B4 l.length d4) (.slice B5 gf.pts.length d5) (.slice B6 gf.fl.length d6) (.slice none 0 0) 0 0) from by
   rw[AtA _ _ _ _ _ _ (AtA _ _ _ _ _ _ RR6.out)];rfl)
  have B47:=hid ((B46.out.setCell (p:=⟨gr,4,none⟩) (by rw[HGR.out];exact ArR _) (.slice B5 gf.pts.length d5)).setCell (p:=⟨gr,5,none⟩) (by rw[HGR.out];exact ArR _) (.slice B6 gf.fl.length d6))
  have N5:=hid (AsG P5.out.2 P6.out.2)
  generalize (w6.setCell ⟨gr,4,none⟩ (.slice B5 gf.pts.length d5)).setCell ⟨gr,5,none⟩ (.slice B6 gf.fl.length d6)=w7 at Q5 Q6 RR7 B47 ⊢
  clear hne5 hne6 r0 r1 r2 r3 r4 r5 r6 r7 r8 f0 f1 f2 f3 f4 f5 f6 f7 f8 gr6 RR6 P5 P6 B46
  obtain⟨⟨p0,p1,p2,p3,p4,p5⟩,-,gp⟩:=row6 (KH.out _ B47.out).1
  have CN:=hid (AlQ p hf hm hap A c A' c' i w7 (KI.out _ B47.out))
  have HND:=hid ND
  generalize Nr.of p i=nr at CN EF ND HND
  obtain⟨nl,nd⟩:=nr
  simp only at ND
  go_wp2_with fail
  refine CN.out.mono ?_;rintro e w8 ⟨B7,d7,rfl,hR7,hb8,hn7⟩
  have B48:=hid (B47.out.trans (hb8.mono B47.out.size))
  have S67:=hid (show gr<w7.heap.size from(ArL RR7.out).1)
  have RR8:=hid ((hb8.block gr S67.out).trans RR7.out)
  have N7:=hid hn7
  have Q58:=hid (Q5.out.below rfl hb8)
  have Q68:=hid (Q6.out.below rfl hb8)
  have Q78:=hid hR7
  clear hR7 hb8 hn7 CN RR7 Q5 Q6 p0 p1 p2 p3 p4 p5 gp
  obtain⟨⟨r0,r1,r2,r3,r4,r5,r6,r7,r8⟩,⟨f0,f1,f2,f3,f4,f5,f6,f7,f8⟩,gr8⟩:=row9 RR8.out
  go_upto_region 7 with fail
  have hne5:gf.pts≠[]->∀ a,B5=some a->a.block≠gr:=λhz a ha=>by
   have:=N5.out.1.2 hz a ha
   have:=S45.out
   omega
  have hne6:gf.fl≠[]->∀ a,B6=some a->a.block≠gr:=λhz a ha=>by
   have:=N5.out.2.2 hz a ha
   have:=S45.out
   omega
  have hne7:∀ a,B7=some a->a.block≠gr:=λa ha=>by
   have:=N7.out a ha
   have:=S67.out
   omega
  have Q5:=hid (show aJ.Row ((w8.setCell ⟨gr,6,none⟩ (.slice B7 nl.length d7)).setCell ⟨gr,7,none⟩ (.int .i64 nd)) B5 gf.pts from bC Q58.out (by simp) λhz a ha=>by rw[AsX _ _ _ _ (hne5 hz a ha),AsX _ _ _ _ (hne5 hz a ha)])
  have Q6:=hid (show aF.Row ((w8.setCell ⟨gr,6,none⟩ (.slice B7 nl.length d7)).setCell ⟨gr,7,none⟩ (.int .i64 nd)) B6 gf.fl from bC Q68.out (by simp) λhz a ha=>by rw[AsX _ _ _ _ (hne6 hz a ha),AsX _ _ _ _ (hne6 hz a ha)])
  have Q7:=hid (show aF.Row ((w8.setCell ⟨gr,6,none⟩ (.slice B7 nl.length d7)).setCell ⟨gr,7,none⟩ (.int .i64 nd)) B7 (ints nl) from bC Q78.out (by simp) λhz a ha=>by rw[AsX _ _ _ _ (hne7 a ha),AsX _ _ _ _ (hne7 a ha)])
  have RR9:=hid (show ((w8.setCell ⟨gr,6,none⟩ (.slice B7 nl.length d7)).setCell ⟨gr,7,none⟩ (.int .i64 nd)).heap[gr]?=some (rtR i yx (.slice Aw ys.length cw) (.slice B4 l.length d4) (.slice B5 gf.pts.length d5) (.slice B6 gf.fl.length d6) (.slice B7 nl.length d7) nd 0) from by
   rw[AtA _ _ _ _ _ _ (AtA _ _ _ _ _ _ RR8.out)];rfl)
  have B49:=hid ((B48.out.setCell (p:=⟨gr,6,none⟩) (by rw[HGR.out];exact ArR _) (.slice B7 nl.length d7)).setCell (p:=⟨gr,7,none⟩) (by rw[HGR.out];exact ArR _) (.int .i64 nd))
  generalize (w8.setCell ⟨gr,6,none⟩ (.slice B7 nl.length d7)).setCell ⟨gr,7,none⟩ (.int .i64 nd)=w9 at Q5 Q6 Q7 RR9 B49 ⊢
  clear r0 r1 r2 r3 r4 r5 r6 r7 r8 f0 f1 f2 f3 f4 f5 f6 f7 f8 gr8 RR8 Q58 Q68 Q78 B48
  obtain⟨⟨r0,r1,r2,r3,r4,r5,r6,r7,r8⟩,⟨f0,f1,f2,f3,f4,f5,f6,f7,f8⟩,gr9⟩:=row9 RR9.out
  obtain⟨⟨-,-,-,p3,-,-⟩,-,gp⟩:=row6 (KH.out _ B49.out).1
  have TQ:Int.tdiv nd 100000=nd / 100000:=Rt.quo nd ND.1
  have hq:0<=nd / 100000/\nd / 100000<=nd:=⟨by omega,by omega⟩
  have q1:IntKind.i64.wrap (nd / 100000)=nd / 100000:=IntWalk.i64_in _ (by omega)
  have q2:IntKind.i64.wrap (p.ho+nd / 100000)=p.ho+nd / 100000:=IntWalk.i64_in _ (by omega)
  go_upto_region 8 with fail
  have Z5:=hid (show aJ.Row (w9.setCell ⟨gr,8,none⟩ (.int .i64 (p.ho+nd / 100000))) B5 gf.pts from bC Q5.out (by simp) λhz a ha=>by rw[AsX _ _ _ _ (hne5 hz a ha)])
  have Z6:=hid (show aF.Row (w9.setCell ⟨gr,8,none⟩ (.int .i64 (p.ho+nd / 100000))) B6 gf.fl from bC Q6.out (by simp) λhz a ha=>by rw[AsX _ _ _ _ (hne6 hz a ha)])
  have Z7:=hid (show aF.Row (w9.setCell ⟨gr,8,none⟩ (.int .i64 (p.ho+nd / 100000))) B7 (ints nl) from bC Q7.out (by simp) λhz a ha=>by rw[AsX _ _ _ _ (hne7 a ha)])
  have RR10:=hid (show (w9.setCell ⟨gr,8,none⟩ (.int .i64 (p.ho+nd / 100000))).heap[gr]?=some (rtR i yx (.slice Aw ys.length cw) (.slice B4 l.length d4) (.slice B5 gf.pts.length d5) (.slice B6 gf.fl.length d6) (.slice B7 nl.length d7) nd (p.ho+nd / 100000)) from by
   rw[AtA _ _ _ _ _ _ RR9.out];rfl)
  have B410:=hid (B49.out.setCell (p:=⟨gr,8,none⟩) (by rw[HGR.out];exact ArR _) (.int .i64 (p.ho+nd / 100000)))
  generalize w9.setCell ⟨gr,8,none⟩ (.int .i64 (p.ho+nd / 100000))=w10 at Z5 Z6 Z7 RR10 B410 ⊢
  clear hne5 hne6 hne7 Q5 Q6 Q7 r0 r1 r2 r3 r4 r5 r6 r7 r8 f0 f1 f2 f3 f4 f5 f6 f7 f8 gr9 RR9 B49 p3 gp TQ hq q1 q2
  obtain⟨⟨r0,r1,r2,r3,r4,r5,r6,r7,r8⟩,-,gr9⟩:=row9 RR10.out
  have HZZ:=hid (KH.out _ B410.out).2.2
  obtain⟨⟨z0,z1,z2,z3,z4,z5,z6,z7,z8⟩,⟨e0,e1,e2,e3,e4,e5,e6,e7,e8⟩,gz⟩:=row9 HZZ.out
  have hgw:w.heap.size+1+1<gr:=by have:=GS.out.2.2;have:=HGR.out;omega
  have hne:gr≠w.heap.size+1+1:=by omega
  have PN:=hid (show PartsNew w w10 ⟨Aw,cw,B4,d4,B5,d5,B6,d6,B7,d7,⟨i,yx,ys,l,gf.pts,gf.fl,ints nl,nd,p.ho+nd / 100000⟩⟩ from
   ⟨(KW.out _ B410.out).1,(KW.out _ B410.out).2,Z5.out,Z6.out,Z7.out,λhz a ha=>(by have:=N5.out.1.2 hz a ha;have:=S45.out;omega),λhz a ha=>(by have:=N5.out.2.2 hz a ha;have:=S45.out;omega),λhz a ha=>(by have:=N7.out a ha;have:=S67.out;omega),HCW.out,HD4.out⟩)
  have FIN:=hid (λv0 v1 v2 v3 v4 v5 v6 v7 v8=>show RouteYes (Rt.of p i ⟨ys,yx⟩) w (.returned (.tuple #[rtV ⟨Aw,cw,B4,d4,B5,d5,B6,d6,B7,d7,⟨i,yx,ys,l,gf.pts,gf.fl,ints nl,nd,p.ho+nd / 100000⟩⟩,.int .i64 0])) (((((((((w10.setCell ⟨w.heap.size+1+1,0,none⟩ v0).setCell ⟨w.heap.size+1+1,1,none⟩ v1).setCell ⟨w.heap.size+1+1,2,none⟩ v2).setCell ⟨w.heap.size+1+1,3,none⟩ v3).setCell ⟨w.heap.size+1+1,4,none⟩ v4).setCell ⟨w.heap.size+1+1,5,none⟩ v5).setCell ⟨w.heap.size+1+1,6,none⟩ v6).setCell ⟨w.heap.size+1+1,7,none⟩ v7).setCell ⟨w.heap.size+1+1,8,none⟩ v8) from by
   rw[E.out]
   refine⟨⟨Aw,cw,B4,d4,B5,d5,B6,d6,B7,d7,⟨i,yx,ys,l,gf.pts,gf.fl,ints nl,nd,p.ho+nd / 100000⟩⟩,EF.out.symm,rfl,PN.out.set9 HZZ.out (.inr ⟨λhz a ha=>?_,λhz a ha=>?_,λhz a ha=>?_⟩),dE (X4.out.trans (B410.out.mono X4.out.size)) (by omega)⟩
   ·have:=N5.out.1.2 hz a ha;have:=S45.out;omega
   ·have:=N5.out.2.2 hz a ha;have:=S45.out;omega
   have:=N7.out a ha;have:=S67.out;omega)
  have LI:=xS nl
  go_wp2_with fail
  refine bodyPost_ret ?_ rfl (FIN.out _ _ _ _ _ _ _ _ _)
  simp[results,Tryz.results36,go_sem, *]
  --]
 --[
 have D:(er != 0)=true:=by rw[AsV];exact her
 have E:=hid (show Rt.of p i ⟨ys,yx⟩=(Rt.zero,er) from by rw[HOF.out,ArY her])
 clear her
 go_wp2_with fail
 refine bodyPost_ret (v:=.tuple #[rtV ⟨none,0,none,0,none,0,none,0,none,0,Rt.zero⟩,.int .i64 er]) ?_ rfl (by
  rw[E.out]
  exact⟨⟨none,0,none,0,none,0,none,0,none,0,Rt.zero⟩,rfl,rfl,⟨.inl rfl,.inl rfl,.inl rfl,.inl rfl,.inl rfl,λh=>absurd rfl h,λh=>absurd rfl h,λh=>absurd rfl h,ArR _,ArR _⟩,dE X4.out (by omega)⟩)
 simp[results,Tryz.results36,go_sem,Rt.zero, *]
 --]
theorem AhK (p:Pl.Plan) (hf:Pl.Fit p) (hm:Lp.Meas p) (hap:0<=p.ap/\p.ap<=1125899906842624) (hho:0<=p.ho/\p.ho<=1125899906842624) (A:Option Addr) (c:Nat) (A':Option Addr) (c':Nat) (w:World) (h:PlanIn w p A A') :
 Calls Tryz.prog 15 #[aR p A c A' c'] w (RoutesMade (Rt.all p) w):=by
 have XA:=(AtB w).alloc (ArR _) (aD p A c A' c')
 have X0:=hid XA
 have RP:=hid (AsW w (aD p A c A' c'))
 have HI:=hid (h.below XA)
 have gp:=(ArL RP.out).1
 have hfew:=hf.gfew
 have HALL:=hid (show Rt.all p=Rt.from_ p ((List.range p.sigs.length).drop 0) [] from rfl)
 have COF:=hid (λ(i:Nat) (hi:i<p.sigs.length) (y:Cr.Way) (hy:y∈(Cr.of p i).1) (Aw:Option Addr) (cw:Nat) (W:World) (hI:PlanIn W p A A') (hw:TRow 129 aE W Aw y.steps) (hcw:y.steps.length<=cw)=>AlS p hf hm hap hho A c A' c' i hi y hy Aw cw W hI hw hcw)
 have HL:=hid (λ(i:Nat)=>Cr.of_len p i)
 clear XA h hf hm hap hho
 go_enter Tryz.func15,Tryz.ntmps15
 go_upto_region 1 with fail
 generalize w.alloc (aD p A c A' c')=w1 at X0 RP HI gp ⊢
 generalize w.heap.size=gq at RP gp ⊢
 have KP:=hid (λW (hW:Below w1.heap.size w1 W)=>(row6 ((hW.block _ gp).trans RP.out)).1)
 have B0:=hid (AtB w1)
 have GPL:=hid gp
 clear RP gp
 generalize hall:Rt.all p=al at HALL
 have HAL:=hid hall
 clear hall
 go_wp2_with fail
 go_loopw [4,5,6,7,8,10] (λv4 v5 _ _ _ _ w'=>∃ (i:Nat) (acc:List Rt.Route),i<=p.sigs.length/\v5=.int .i64 i/\acc.length<=30/\OwnR w1.heap.size w' v4 acc/\al=Rt.from_ p ((List.range p.sigs.length).drop i) acc/\Below w1.heap.size w1 w') (λ_ v5 _ _ _ _ _=>p.sigs.length-(intOf v5).toNat)
 case atStart=>exact⟨0,[],AsD _,rfl,AsD _,OwnR.nil _ _,HALL.out,B0.out⟩
 case round =>
  clear HALL
  obtain⟨i,acc,hi,rfl,hacc,hO,hA,hB⟩:=hrel
  obtain⟨Ao,co,rfl,hco,hRI⟩:=hO.routes
  have HO:=hid hO
  have HA:=hid hA
  have HB:=hid hB
  have HRI:=hid hRI
  clear hO hA hB hRI
  obtain⟨p0,p1,p2,p3,p4,p5⟩:=KP.out _ HB.out
  have gp:=AsE GPL.out HB.out.size
  by_cases hlt:i<p.sigs.length
  ·--[
   have d1:decide ((i:Int)<(p.sigs.length:Int))=true:=aC (by omega)
   have CC:=hid (ApV p A c A' c' i wr (HI.out.below HB.out))
   have EA:=hid (HA.out.trans (Rt.from_at hlt acc))
   have hlen:=HL.out i
   have CO2:=hid (COF.out i hlt)
   generalize Cr.of p i=u at CC EA hlen CO2
   obtain⟨L,er⟩:=u
   simp only at hlen CO2
   go_wp2_with fail
   refine CC.out.mono ?_;rintro e w2 ⟨B,d,rfl,hW2,hb2⟩
   have HW2:=hid hW2
   have B2:=hid (HB.out.trans (hb2.mono HB.out.size))
   have O2:=hid (HO.out.below hb2)
   clear hW2 hb2 CC p0 p1 p2 p3 p4 p5 gp HO HB HRI
   by_cases her:er=0
   ·subst her
    have EA2:=hid (show al=(if (Rt.ways p i L acc).2=0 then Rt.from_ p ((List.range p.sigs.length).drop (i+1)) (Rt.ways p i L acc).1 else([],(Rt.ways p i L acc).2)) from EA.out)
    clear EA HA
    go_wp2_with fail
    go_loopw [4,8,10] (λv4 v8 _ w'=>∃ (k:Nat) (ac:List Rt.Route),k<=L.length/\v8=.int .i64 k/\ac.length<=30/\OwnR w1.heap.size w' v4 ac/\Rt.ways p i L acc=Rt.ways p i (L.drop k) ac/\WaysT w' B L/\Below w1.heap.size w1 w') (λ_ v8 _ _=>L.length-(intOf v8).toNat)
    case atStart=>exact⟨0,acc,AsD _,rfl,hacc,O2.out,rfl,HW2.out,B2.out⟩
    case round =>
     clear O2 B2 HW2
     obtain⟨k,ac,hk,rfl,hac,hO,hE,hW,hB⟩:=hrel
     obtain⟨Ap,cp,rfl,hcp,-⟩:=hO.routes
     have HO:=hid hO
     have HE:=hid hE
     have HW:=hid hW
     have HB:=hid hB
     clear hO hE hW hB
     by_cases hkl:k<L.length
     ·have d2:decide ((k:Int)<(L.length:Int))=true:=aC (by omega)
      have hy:=ArN hkl
      have HE2:=hid (HE.out.trans (Rt.ways_at hy ac))
      have hmem:=List.getElem_mem hkl
      obtain⟨b,o,Sy,dy,rfl,hb,c0,c1,hS,hdy⟩:=HW.out.at hy
      have CO3:=hid (CO2.out (L[k]'hkl) hmem)
      have HDY:=hid hdy
      clear hdy
      generalize L[k]=y at c0 c1 hS HE2 CO3 HDY
      obtain⟨ys,yx⟩:=y
      simp only at c0 c1 hS
      by_cases h30:ac.length=30
      ·have D:((ac.length:Int) == 30)=true:=by rw[beq_iff_eq];omega
       have EZ:=hid (show al=([],9) from by
        rw[EA2.out,HE2.out,ArZ h30];rfl)
       clear h30
       go_wp2_with fail
       refine bodyPost_ret (v:=.tuple #[.slice none 0 0,.int .i64 9]) ?_ rfl (by
        rw[HAL.out,EZ.out]
        exact⟨none,0,rfl,ArR _,RoutesFar.nil _ _,X0.out.trans (HB.out.mono X0.out.size)⟩)
       simp[results,Tryz.results15,go_sem]
      have D:((ac.length:Int) == 30)=false:=by rw[ArU];omega
      have E3:=hid (show Rt.ways p i L acc=if (Rt.of p i ⟨ys,yx⟩).2=0 then Rt.ways p i (L.drop (k+1)) (ac++[(Rt.of p i ⟨ys,yx⟩).1]) else([],(Rt.of p i ⟨ys,yx⟩).2) from by rw[HE2.out,ArY h30])
      have CO:=hid (λW (hW:Below wr.heap.size wr W)=>CO3.out Sy dy W (HI.out.below (HB.out.trans (hW.mono HB.out.size))) (hS.below hW) HDY.out)
      generalize Rt.of p i ⟨ys,yx⟩=ro at E3 CO
      obtain⟨r,e2⟩:=ro
      have T0:=hid (AtB wr)
      have KS:=hid (λW (hW:Below wr.heap.size wr W)=>AsG (KP.out _ (HB.out.trans (hW.mono HB.out.size))) (AsG ((hW.cell (p:=⟨b,o+k*2,none⟩) hb).trans c0) ((hW.cell (p:=⟨b,o+k*2+1,none⟩) hb).trans c1)))
      have i0:(0:Int)<=(k:Int):=ArT k
      have i1:(k:Int)<(L.length:Int):=by omega
      have h29:ac.length<=29:=by omega
      clear h30 HE HE2 hy hmem CO3 hS hac c0 c1
      go_upto_region 13 with fail
      obtain⟨⟨p0,p1,p2,p3,p4,p5⟩,c0,c1⟩:=KS.out _ T0.out
      clear p0 p1 p2 p3 p4 p5 c0 c1
      go_cut [9,10] from 27 to 52 (λs9 s10 w'=>AqV wr r e2 s9 s10 w')
      case first =>
       go_region_held3 (λW'=>(W'.cell? ⟨gq,0,none⟩=some (.int .i64 p.ov)/\W'.cell? ⟨gq,1,none⟩=some (.int .i64 p.ap)/\W'.cell? ⟨gq,2,none⟩=some (.int .i64 p.se)/\W'.cell? ⟨gq,3,none⟩=some (.int .i64 p.ho)/\W'.cell? ⟨gq,4,none⟩=some (.slice A p.secs.length c)/\W'.cell? ⟨gq,5,none⟩=some (.slice A' p.sigs.length c'))/\W'.cell? ⟨b,o+k*2,none⟩=some (.slice Sy ys.length dy)/\W'.cell? ⟨b,o+k*2+1,none⟩=some (.int .i64 yx))
        (first|with_reducible exact KS.out _ T0.out.drew|with_reducible exact KS.out _ (T0.out.alloc T0.out.size _).drew|with_reducible exact KS.out _ h5|with_reducible exact KS.out _ (h5.alloc h5.size _)|with_reducible exact KS.out _ (dE h5 (ArR _))|(go_keep;done))
        (first
         | (go_at_call 36;(with_reducible refine(CO.out _ T0.out.drew).mono ?_);rintro e5 w5 ⟨m,hmr,rfl,hPN,hl5⟩;have HMR:=hid hmr;clear hmr;have h5:=T0.out.drew.trans (hl5.mono T0.out.drew.size);have hPW:=hPN.base T0.out.drew.size)
         | (go_at_call 36;(with_reducible refine(CO.out _ (T0.out.alloc T0.out.size rtZ).drew).mono ?_);rintro e5 w5 ⟨m,hmr,rfl,hPN,hl5⟩;have HMR:=hid hmr;clear hmr;have h5:=(T0.out.alloc T0.out.size rtZ).drew.trans (hl5.mono (T0.out.alloc T0.out.size rtZ).drew.size);have hpz:=(hl5.block wr.heap.size (by simp)).trans (AsW wr rtZ);obtain⟨⟨z0,z1,z2,z3,z4,z5,z6,z7,z8⟩,⟨y0,y1,y2,y3,y4,y5,y6,y7,y8⟩,zg⟩:=row9 hpz))
       all_goals go_wp2_with fail
       all_goals go_meet
       all_goals refine⟨_,m,rfl,rfl,HMR.out,?_,?_,?_⟩
       all_goals first
        | with_reducible exact AsW _ _
        | with_reducible exact hPW.below ((Below.refl _ _).alloc (ArR _) _)
        | with_reducible exact h5.alloc h5.size _
        | with_reducible exact rY hpz
        | with_reducible exact PartsNew.base (PartsNew.set9 hPN hpz (.inl (by simp))) (by simp)
        | with_reducible exact dE h5 (ArR _)
      case rest =>
       obtain⟨g,m,rfl,rfl,hmr,hg,hPN,hB6⟩:=hcut
       have B6:=hid (HB.out.trans (hB6.mono HB.out.size))
       have HW6:=hid (HW.out.below hB6)
       by_cases he2:e2=0
       ·subst he2
        have E4:=hid (show Rt.ways p i L acc=Rt.ways p i (L.drop (k+1)) (ac++[r]) from by rw[E3.out];exact ArZ rfl)
        obtain⟨M,hM,hrow,hparts⟩:=(HO.out.below hB6).ex
        subst hM
        have hj:∀ j,(Value.slice Ap (M.map RouteM.r).length cp).ownBlock=some j->j<wr.heap.size:=λj hj=>HO.out.lt hj
        have HR:=hid (AsG hrow (AsG hparts (AsG hPN (AsG hj hmr))))
        have O7:=hid (hrow.alloc (rtO m))
        have R7:=hid (show LRt.Row (wc.alloc (rtO m)) (some ⟨wc.heap.size,0,none⟩) [m] from Lies.Row.fresh (E:=LRt) wc [m] 92)
        have X7:=hid ((AtB wc).alloc (ArR _) (rtO m))
        have S16:=B6.out.size
        obtain⟨⟨r0,r1,r2,r3,r4,r5,r6,r7,r8⟩,-,gr⟩:=row9 hg
        obtain⟨i0',hi',hz0,hz1,hz2⟩:=info_parts AeG
        clear hB6 hrow hparts hPN hj hmr E3 CO T0 KS
        go_wp2_with (at_builtin;refine aG LRt _ rfl (.tmp 49) (.tmp 51) 31 rfl w1.heap.size 92 i0' _ 152 Tryz.underlying31 hi' hz0 hz1 hz2 rfl (.slice Ap (M.map RouteM.r).length cp) (M.map RouteM.r).length (LRt.all M) rfl O7.out (some ⟨wc.heap.size,0,none⟩) 1 1 [m] rfl (by decide) rfl R7.out (by omega) (by omega) (by simp;omega) ?_;intro g1 cap1 w8 hown hg1 hgr;have HN:=hid hown;have HG:=hid hg1;have HGR:=hid hgr;clear hown hg1 hgr)
        have O8:=hid (OwnR.snoc HR.out.1 HR.out.2.1 HR.out.2.2.1 HB.out.size HR.out.2.2.2.1 X7.out HN.out HG.out (λj hj=>by
         cases hj
         rcases HGR.out with h|h
         ·exact .inl h
         exact .inr (by rw[h];exact ArR _)))
        rw[HR.out.2.2.2.2] at O8
        have W8:=hid ((HW6.out.below X7.out).grown O7.out HG.out)
        have B8:=hid ((B6.out.trans (X7.out.mono B6.out.size)).grown HG.out (B6.out.trans (X7.out.mono B6.out.size)).size λj hj=>(O7.out.lt j hj).1)
        go_roundw
        case rel=>exact⟨k+1,M.map RouteM.r++[r],by omega,by go_num,by rw[ArV,List.length_singleton];omega,by have h:=O8.out;rw[AsH] at h;exact h,E4.out,W8.out,B8.out⟩
        case measure=>simp[intOf];omega
       have D2:(e2 != 0)=true:=by rw[AsV];exact he2
       have EZ:=hid (show al=([],e2) from by
        have:Rt.ways p i L acc=([],e2):=by rw[E3.out];exact ArY he2
        rw[EA2.out,this];exact ArY he2)
       clear he2
       go_wp2_with fail
       refine bodyPost_ret (v:=.tuple #[.slice none 0 0,.int .i64 e2]) ?_ rfl (by
        rw[HAL.out,EZ.out]
        exact⟨none,0,rfl,ArR _,RoutesFar.nil _ _,X0.out.trans (B6.out.mono X0.out.size)⟩)
       simp[results,Tryz.results15,go_sem]
     obtain rfl:k=L.length:=by omega
     have d2:decide ((L.length:Int)<(L.length:Int))=false:=aB (by omega)
     have HE3:=hid (show Rt.ways p i L acc=(ac,0) from by rw[HE.out,List.drop_length];rfl)
     have EA3:=hid (show al=Rt.from_ p ((List.range p.sigs.length).drop (i+1)) ac from by rw[EA2.out,HE3.out,ArZ rfl])
     go_wp2
     go_roundw
     case rel=>exact⟨i+1,ac,by omega,by go_num,hac,HO.out,EA3.out,HB.out⟩
     case measure=>simp[intOf];omega
   ·have D:(er != 0)=true:=by rw[AsV];exact her
    have EZ:=hid (show al=([],er) from by rw[EA.out];exact ArY her)
    clear her
    go_wp2_with fail
    refine bodyPost_ret (v:=.tuple #[.slice none 0 0,.int .i64 er]) ?_ rfl (by
     rw[HAL.out,EZ.out]
     exact⟨none,0,rfl,ArR _,RoutesFar.nil _ _,X0.out.trans (B2.out.mono X0.out.size)⟩)
    simp[results,Tryz.results15,go_sem]
   --]
  --[
  obtain rfl:i=p.sigs.length:=by omega
  have d1:decide ((p.sigs.length:Int)<(p.sigs.length:Int))=false:=aB (by omega)
  have EA:=hid (show al=(acc,0) from by rw[HA.out,List.drop_of_length_le (by rw[List.length_range];exact ArR _)];rfl)
  go_wp2_with fail
  refine bodyPost_ret (v:=.tuple #[.slice Ao acc.length co,.int .i64 0]) ?_ rfl (by
   rw[HAL.out,EA.out]
   exact⟨Ao,co,rfl,hco,HRI.out.base X0.out.size,X0.out.trans (HB.out.mono X0.out.size)⟩)
  simp[results,Tryz.results15,go_sem]
  --]
end Go.Proofs.YtjofpclmbjpgjaaGreat
namespace Go.Proofs.YtjofpclmbjpgjaaGreat.Bs
open Lib (hid)
def W32 (L:List Nat):Prop:=∀ x∈L,x<4294967296
def fits (L:List Nat) (n:Int):Bool:=decide (0<=n) && decide (n.toNat / 32<L.length)
def has (L:List Nat) (n:Int):Bool:=decide (0<=n) && (L.getD (n.toNat / 32) 0).testBit (n.toNat % 32)
def put (L:List Nat) (n:Int):List Nat:=if fits L n=true then L.set (n.toNat / 32) (L.getD (n.toNat / 32) 0 ||| 2 ^ (n.toNat % 32)) else L
def new (n:Int):List Nat:=if n<1 then [] else List.replicate ((n-1).toNat / 32+1) 0
def ofL (n:Int) (l:List Int):List Nat:=l.foldl (λs x=>if x<n then put s x else s) (new n)
def told (L:List Nat) (n:Nat):List Int:=((List.range n).filter λ(k:Nat)=>has L (k:Int)).map λ(k:Nat)=>(k:Int)
def list (L:List Nat):List Int:=told L (32*L.length)
theorem fits_iff {L:List Nat} {n:Int}:fits L n=true ↔ 0<=n/\n.toNat / 32<L.length:=by
 unfold fits
 rw[AsF,decide_eq_true_eq,decide_eq_true_eq]
theorem W32.at {L:List Nat} (h:W32 L) (i:Nat):L.getD i 0<4294967296:=by
 rw[List.getD_eq_getElem?_getD]
 cases hx:L[i]? with
 | none=>show 0<_;omega
 | some y=>exact h y (ArX hx)
theorem AqY {a j:Nat} (h:a<4294967296) (hj:j<32):a ||| 2 ^ j<4294967296:=by
 have h2:(2:Nat) ^ j<2 ^ 32:=Nat.pow_lt_pow_right (by decide) hj
 exact Nat.or_lt_two_pow (n:=32) h h2
theorem W32.put {L:List Nat} (h:W32 L) (n:Int):W32 (put L n):=by
 unfold Bs.put
 split
 ·intro x hx
  rcases List.mem_or_eq_of_mem_set hx with hx|rfl
  ·exact h x hx
  exact AqY (h.at _) (Nat.mod_lt _ (by decide))
 exact h
theorem W32.new (n:Int):W32 (new n):=by
 unfold Bs.new
 split
 ·intro x hx;cases hx
 intro x hx
 rw[(List.mem_replicate.1 hx).2];decide
theorem W32.ofL (n:Int) (l:List Int):W32 (ofL n l):=by
 unfold Bs.ofL
 have : ∀ (l:List Int) (s:List Nat),W32 s->W32 (l.foldl (λs x=>if x<n then Bs.put s x else s) s):=by
  intro l
  induction l with
  | nil=>intro s hs;exact hs
  | cons x l ih =>
    intro s hs
    rw[List.foldl_cons]
    split
    ·exact ih _ (hs.put x)
    exact ih _ hs
 exact this l _ (W32.new n)
theorem jR (L:List Nat) (n:Int):(put L n).length=L.length:=by
 unfold put
 split
 ·exact List.length_set
 rfl
theorem yE (n:Int):∀ (l:List Int) (s:List Nat),(l.foldl (λs x=>if x<n then put s x else s) s).length=s.length
 | [],_=>rfl
 | x :: l,s=>by
   rw[List.foldl_cons,yE n l]
   split
   ·exact jR _ _
   rfl
theorem ofL_len (n:Int) (l:List Int):(ofL n l).length=(new n).length:=yE n l _
theorem new_len (n:Int):(new n).length=if n<1 then 0 else(n-1).toNat / 32+1:=by
 unfold new
 split <;> simp
theorem ofL_take {n:Int} {l:List Int} {k:Nat} {x:Int} (h:l[k]?=some x):ofL n (l.take (k+1))=if x<n then put (ofL n (l.take k)) x else ofL n (l.take k):=by
 unfold ofL
 rw[List.take_add_one,h,List.foldl_append]
 rfl
end Go.Proofs.YtjofpclmbjpgjaaGreat.Bs
namespace Go.Proofs.YtjofpclmbjpgjaaGreat.Cl
open Lib (hid)
open Go Pl Wk
def share (a b:List Stp):Bool:=a.any λx=>within b x.s
def opp (a b:List Dm.Dem):Bool:=Dm.opposed a b || Dm.opposed b a
def leads (r s:Rt.Route):Bool:=decide (0<=r.exit) && (r.exit == s.entry)
def meets (r s:Rt.Route):Bool:=!leads r s && (share r.lap s.steps || share r.lap s.lap)
def bars (r s:Rt.Route):Bool:=(r.entry == s.entry) || share r.steps s.steps || opp r.pts s.pts || meets r s || meets s r
def hit (L:List Rt.Route) (i k:Nat):Bool:=decide (k≠i) && bars (L.getD i Rt.zero) (L.getD k Rt.zero)
def barred (L:List Rt.Route) (i n:Nat):List Int:=((List.range n).filter λk=>hit L i k).map λ(k:Nat)=>(k:Int)
def row (L:List Rt.Route) (i:Nat):List Nat:=Bs.ofL (L.length:Int) (barred L i L.length)
def rows (L:List Rt.Route):List (List Nat):=(List.range L.length).map (row L)
theorem barred_succ (L:List Rt.Route) (i n:Nat):barred L i (n+1)=barred L i n++if hit L i n=true then [(n:Int)] else []:=by
 unfold barred
 rw[List.range_succ,List.filter_append,List.map_append]
 congr 1
 cases h:hit L i n <;> simp[h]
theorem barred_len (L:List Rt.Route) (i n:Nat):(barred L i n).length<=n:=by
 unfold barred
 rw[AsH]
 exact ArS (List.length_filter_le _ _) (by rw[List.length_range];exact ArR _)
theorem mem_barred {L:List Rt.Route} {i n:Nat} {x:Int}:x∈barred L i n ↔ ∃ k:Nat,k<n/\hit L i k=true/\(k:Int)=x:=by
 unfold barred
 simp[and_assoc]
theorem rows_len (L:List Rt.Route):(rows L).length=L.length:=by unfold rows;rw[AsH,List.length_range]
theorem AoJ (L:List Rt.Route) {i:Nat} (hi:i<L.length):(rows L)[i]?=some (row L i):=by
 unfold rows
 rw[List.getElem?_map,List.getElem?_range hi]
 rfl
theorem row_len (L:List Rt.Route) (i:Nat):(row L i).length<=L.length:=by
 unfold row
 rw[Bs.ofL_len,Bs.new_len]
 split <;> omega
theorem rows_take (L:List Rt.Route) {i:Nat} (hi:i<L.length):(rows L).take (i+1)=(rows L).take i++[row L i]:=by
 rw[List.take_add_one,AoJ L hi]
 rfl
def Tiny (r:Rt.Route):Prop:=r.steps.length<=1000000/\r.lap.length<=1000000/\r.pts.length<=1000000
end Go.Proofs.YtjofpclmbjpgjaaGreat.Cl
namespace Go.Proofs.YtjofpclmbjpgjaaGreat.Tb
open Lib (hid)
open Go Pl Wk
structure Table where
 names:List Nm
 points:List Bool
 sigs:List Nm
 settle:Int
 routes:List Rt.Route
 bars:List (List Nat)
deriving DecidableEq
def zero:Table:=⟨[],[],[],0,[],[]⟩
noncomputable def make (p:Plan):Table × Int:=if (Rt.all p).2=0 then(⟨p.secs.map Sec.name,p.secs.map Sec.pt,p.sigs.map Sig.name,p.se,(Rt.all p).1,Cl.rows (Rt.all p).1⟩,0) else(zero,(Rt.all p).2)
def ups (f:Nat->Bool) (j n:Nat):Bool:=(List.range' j (n-j)).all f
theorem ups_end (f:Nat->Bool) (n:Nat):ups f n n=true:=by unfold ups;rw[Nat.sub_self];rfl
theorem ups_step (f:Nat->Bool) {j n:Nat} (h:j<n):ups f j n=(f j && ups f (j+1) n):=by
 unfold ups
 rw[show n-j=(n-(j+1))+1 from by omega,List.range'_succ,List.all_cons]
theorem bX {f:Nat->Bool} {j n:Nat}:ups f j n=true ↔ ∀ i,j<=i->i<n->f i=true:=by
 unfold ups
 rw[List.all_eq_true]
 constructor
 ·intro h i h1 h2
  exact h i (List.mem_range'_1.2 ⟨h1,by omega⟩)
 intro h i hi
 have:=List.mem_range'_1.1 hi
 exact h i this.1 (by omega)
def AlT (L:List Nm) (i:Nat):Bool:=Fig.nameB (L.getD i []) && (decide (i=0) || decide (L.getD (i-1) []<L.getD i []))
def namesOk (L:List Nm):Bool:=ups (AlT L) 0 L.length
def stp0:Stp:=⟨0,0,0⟩
def dem0:Dm.Dem:=⟨0,0⟩
def pJ (pts:List Bool) (x:Stp):Bool:=(min x.f x.t == 0) && ((max x.f x.t == 1) || ((max x.f x.t == 2) && pts.getD x.s.toNat false))
def lH (pts:List Bool) (l others:List Stp) (i:Nat):Bool :=
 decide (0<=(l.getD i stp0).s) && decide ((l.getD i stp0).s<(pts.length:Int)) && !within (l.take i) (l.getD i stp0).s && !within others (l.getD i stp0).s && pJ pts (l.getD i stp0)
def stepsOk (pts:List Bool) (l others:List Stp):Bool:=ups (lH pts l others) 0 l.length && decide ((l.length:Int)<=16)
def AlU (l:List Int) (n:Int) (i:Nat):Bool:=decide (0<=l.getD i 0) && decide (l.getD i 0<n) && (decide (i=0) || decide (l.getD (i-1) 0<l.getD i 0))
def risingOk (l:List Int) (n:Int):Bool:=ups (AlU l n) 0 l.length
def askOk (pts:List Bool) (d:List Dm.Dem) (x:Stp):Bool:=!pts.getD x.s.toNat false || (Dm.posOf d x.s == max x.f x.t)
def asksOk (pts:List Bool) (d:List Dm.Dem) (l:List Stp):Bool:=l.all (askOk pts d)
def AlV (pts:List Bool) (d:List Dm.Dem) (i:Nat):Bool :=
 decide (0<=(d.getD i dem0).pt) && decide ((d.getD i dem0).pt<(pts.length:Int)) && pts.getD (d.getD i dem0).pt.toNat false && (((d.getD i dem0).pos == 1) || ((d.getD i dem0).pos == 2)) && (decide (i=0) || decide ((d.getD (i-1) dem0).pt<(d.getD i dem0).pt))
def demandsOk (pts:List Bool) (d:List Dm.Dem):Bool:=ups (AlV pts d) 0 d.length
def fits (t:Table) (r:Rt.Route):Bool :=
 decide (0<=r.entry) && decide (r.entry<(t.sigs.length:Int)) && decide (-1<=r.exit) && decide (r.exit<(t.sigs.length:Int)) && decide (0<(r.steps.length:Int)) && stepsOk t.points r.steps [] && stepsOk t.points r.lap r.steps && demandsOk t.points r.pts &&
  asksOk t.points r.pts r.steps && asksOk t.points r.pts r.lap && risingOk r.fl t.sigs.length && risingOk r.near t.names.length && decide (0<=r.dist) && decide (r.dist<281474976710656) && decide (0<=r.timer) && decide (r.timer<4294967296)
def routeOk (t:Table) (i:Nat):Bool:=fits t (t.routes.getD i Rt.zero) && (decide (i=0) || decide ((t.routes.getD (i-1) Rt.zero).entry<=(t.routes.getD i Rt.zero).entry))
def sizesOk (t:Table):Bool:=decide ((t.names.length:Int)<=24) && ((t.points.length:Int) == (t.names.length:Int)) && decide ((t.sigs.length:Int)<=12) && decide ((t.routes.length:Int)<=30)
def right (t:Table):Bool:=sizesOk t && namesOk t.names && namesOk t.sigs && decide (0<=t.settle) && decide (t.settle<=1000) && ups (routeOk t) 0 t.routes.length && decide (t.bars=Cl.rows t.routes)
theorem getD_at {α:Type} {l:List α} {i:Nat} {x d:α} (h:l[i]?=some x):l.getD i d=x:=by rw[List.getD_eq_getElem?_getD,h];rfl
theorem steps_in {pts:List Bool} {l o:List Stp} (h:stepsOk pts l o=true):∀ x∈l,0<=x.s/\x.s<(pts.length:Int):=λx hx=>by
 unfold stepsOk at h
 obtain⟨i,hi,rfl⟩:=List.getElem_of_mem hx
 have:=bX.1 (Bool.and_eq_true_iff.1 h).1 i (AsD _) hi
 unfold lH at this
 rw[getD_at (ArN hi)] at this
 simp only[AsF,AsC] at this
 exact⟨this.1.1.1.1,this.1.1.1.2⟩
def Few (r:Rt.Route):Prop:=r.steps.length<=1000000/\r.lap.length<=1000000/\r.pts.length<=1000000/\r.fl.length<=1000000/\r.near.length<=1000000
end Go.Proofs.YtjofpclmbjpgjaaGreat.Tb
namespace Go.Proofs.YtjofpclmbjpgjaaGreat
open Lib (hid)
open Go.RowKit
def LWd:Lies Nat:=⟨1,by decide,λx=>[.int .u32 (x:Int)],λ_=>rfl,λy u hu=>by
 simp at hu
 subst hu;rfl⟩
theorem yF {w:World} {b o:Nat} {x:Nat} (h:LWd.On w b o x):w.cell? ⟨b,o,none⟩=some (.int .u32 (x:Int)):=h 0 _ rfl
theorem AbX:(Tryz.prog.info? 82).map (λi=>(i.zero,i.size,i.bytes))=some (some (.int .u32 0),1,4):=by kernel_rfl
theorem yG (w:World) {g base:Nat} (hg:w.heap.size=g) (hb:base<=g:=by simp):(w.alloc (.cells #[] 82)).ownsRow base 82 LWd.m (.slice (some ⟨g,0,none⟩) 0 0) 0 []:=by
 subst hg
 exact⟨rfl,.inr ⟨w.heap.size,0,#[],rfl,hb,AsW _ _,ArR _,by unfold maxLen;omega,rfl,rfl⟩⟩
def SetOwn (L:List Nat) (w:World) (e:Ending) (w':World):Prop:=∃ v,e=.returned v/\w'.ownsRow w.heap.size 82 LWd.m v L.length (LWd.all L)/\Below w.heap.size w w'
def AlW (L:List Nat) (w:World) (e:Ending) (w':World):Prop:=∃ B d,e=.returned (.slice B L.length d)/\LWd.Row w' B L/\L.length<=d/\Below w.heap.size w w'
theorem SetOwn.yes {L:List Nat} {w:World} {e:Ending} {w':World} (h:SetOwn L w e w'):AlW L w e w':=by
 obtain⟨v,rfl,ho,hb⟩:=h
 obtain⟨-,B,d,rfl,hc,hR⟩:=Lies.Row.of_own (E:=LWd) ho
 exact⟨B,d,rfl,hR,hc,hb⟩
def SetIs (n:Nat) (L:List Nat) (w:World) (e:Ending) (w':World):Prop:=∃ B d,e=.returned (.slice B n d)/\LWd.Row w' B L/\n<=d/\Below w.heap.size w w'
theorem SetIs.of {n:Nat} {L M:List Nat} {w:World} {f:FuncId} {xs:Array Value} (h:M=L) (hn:L.length=n) (hc:Calls Tryz.prog f xs w (AlW M w)):Calls Tryz.prog f xs w (SetIs n L w) :=
 hc.mono λe w' ⟨B,d,he,hr,hd,hb⟩=>by
  subst h hn
  exact⟨B,d,he,hr,hd,hb⟩
theorem sD {w:World} {base:Nat} {v:Value} {L:List Nat} (h:w.ownsRow base 82 LWd.m v L.length (LWd.all L)):(v=.slice none 0 0/\L=[])∨∃ g cap,v=.slice (some ⟨g,0,none⟩) L.length cap/\base<=g/\g<w.heap.size:=by
 rcases h.2 with ⟨h1,h2⟩|⟨g,cap,cur,h1,h2,h3,-⟩
 ·exact .inl ⟨h1,AsR h2⟩
 exact .inr ⟨g,cap,h1,h2,(ArL h3).1⟩
theorem AlX {w:World} {base g cap:Nat} {L:List Nat} (h:w.ownsRow base 82 LWd.m (.slice (some ⟨g,0,none⟩) L.length cap) L.length (LWd.all L)) {k:Nat} (hk:k<L.length) :
 w.cell? ⟨g,k,none⟩=some (.int .u32 (L.getD k 0:Nat))/\w.frozen? ⟨g,k,none⟩=false:=by
 constructor
 ·have:=yF (Lies.own_on (E:=LWd) h (k:=k) (ArN hk))
  rw[show k*LWd.m=k from Nat.mul_one k] at this
  rw[this,List.getD_eq_getElem?_getD,ArN hk]
  rfl
 rcases h.2 with ⟨h1,-⟩|⟨g',cap',cur,h1,-,h3,-⟩
 ·cases h1
 cases h1
 exact AsZ w g k _ _ h3
theorem AeL {w:World} {base g cap:Nat} {L:List Nat} (h:w.ownsRow base 82 LWd.m (.slice (some ⟨g,0,none⟩) L.length cap) L.length (LWd.all L)) (k:Nat) (x:Nat) :
 (w.setCell ⟨g,k,none⟩ (.int .u32 (x:Int))).ownsRow base 82 LWd.m (.slice (some ⟨g,0,none⟩) L.length cap) (L.set k x).length (LWd.all (L.set k x)):=by
 rcases h.2 with ⟨h1,-⟩|⟨g',cap',cur,h1,h2,h3,h4,h5,h6,h7⟩
 ·cases h1
 cases h1
 rw[List.length_set]
 refine⟨by rw[LWd.all_len,List.length_set],.inr ⟨g,cap,cur.setIfInBounds k (.int .u32 (x:Int)),rfl,h2,AtA _ _ _ _ _ _ h3,h4,h5,by rw[Array.size_setIfInBounds];exact h6,?_⟩⟩
 rw[Array.toList_setIfInBounds,List.take_set,h7]
 have hm:LWd.m=1:=rfl
 by_cases hk:k<L.length
 ·have:=LWd.set_cell L k 0 L[k] x (ArN hk) (by decide) (.int .u32 (x:Int)) rfl
  rw[hm,Nat.mul_one,Nat.add_zero] at this
  exact this
 rw[List.set_eq_of_length_le (by rw[LWd.all_len,hm];omega),List.set_eq_of_length_le (by omega)]
namespace Bs
theorem AeM (j:Nat) (h:j<32):(2:Int) ^ j % 4294967296=((2 ^ j:Nat):Int):=by
 have h2:(2:Nat) ^ j<2 ^ 32:=Nat.pow_lt_pow_right (by decide) h
 have e:((2:Int) ^ j)=((2 ^ j:Nat):Int):=by simp
 rw[e]
 generalize (2:Nat) ^ j=b at h2 ⊢
 omega
end Bs
end Go.Proofs.YtjofpclmbjpgjaaGreat
