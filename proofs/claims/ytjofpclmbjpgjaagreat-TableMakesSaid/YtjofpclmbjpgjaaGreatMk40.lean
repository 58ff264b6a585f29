/- Lemmas. -/
import Derived.Test.YtjofpclmbjpgjaaGreatMk25
import Derived.Test.YtjofpclmbjpgjaaGreatMk39
set_option maxHeartbeats 16000000
set_option maxRecDepth 100000
namespace Go.Proofs.YtjofpclmbjpgjaaGreat
open Lib (hid)
open Go.RowKit
theorem lN {W:World} {B b o:Nat} {v0 v1 v2 v3 v4 v5 v6 v7 v8:Value} (h:b≠B) :
 (((((((((W.setCell ⟨B,0,none⟩ v0).setCell ⟨B,1,none⟩ v1).setCell ⟨B,2,none⟩ v2).setCell ⟨B,3,none⟩ v3).setCell ⟨B,4,none⟩ v4).setCell ⟨B,5,none⟩ v5).setCell ⟨B,6,none⟩ v6).setCell ⟨B,7,none⟩ v7).setCell ⟨B,8,none⟩ v8).cell? ⟨b,o,none⟩=W.cell? ⟨b,o,none⟩ :=
 World.cell?_of_block (a:=⟨b,o,none⟩) (dZ h)
theorem AmU (p:Pl.Plan) (hf:Pl.Fit p) (hm:Lp.Meas p) (hap:0<=p.ap/\p.ap<=1125899906842624) (hho:0<=p.ho/\p.ho<=1125899906842624) (A:Option Addr) (c:Nat) (A':Option Addr) (c':Nat) (i:Nat) (hi:i<p.sigs.length) (y:Cr.Way) (hy:y∈(Cr.of p i).1) (Aw:Option Addr) (cw:Nat) (w:World) (h:PlanIn w p A A') (hway:TRow 129 aE w Aw y.steps) (_hcw:y.steps.length<=cw) :
 Calls Tryz.prog 32 #[aR p A c A' c',.int .i64 i,AhJ Aw cw y] w (RouteYes (Rt.of p i y) w):=by
 obtain⟨hP,hY,hZ,hB⟩:=pG w (aD p A c A' c') (eW Aw y.steps.length cw y.exit) rtZ
 have hst:=Cr.of_steps hy
 have X0:=hid hB
 have HI:=hid (h.below hB)
 have HW:=hid (hway.below hB)
 have CL:=hid (AmT p hf hm A c A' c' i y Aw cw _ (h.below hB) (hway.below hB).row (by omega) (Lp.way_exit hm hy).1)
 have hpos:=Rt.own_pos hi hy
 have hl16:=Lp.of_steps (p:=p) (i:=i) (w:=y)
 have HOF:=hid (show Rt.of p i y=if (Lp.of p i y).2=0 then(Rt.fill p i y (Lp.of p i y).1,0) else(Rt.zero,(Lp.of p i y).2) from rfl)
 obtain⟨⟨p0,p1,p2,p3,p4,p5⟩,-,gp⟩:=row6 hP
 obtain⟨⟨y0,y1⟩,-,gy⟩:=pI hY
 obtain⟨⟨z0,z1,z2,z3,z4,z5,z6,z7,z8⟩,⟨e0,e1,e2,e3,e4,e5,e6,e7,e8⟩,gz⟩:=row9 hZ
 have HH:=hid (AsG hP (AsG hY hZ))
 have HPO:=hid hpos
 have ND:=Rt.near_bd hf hm (i:Int)
 clear hP hY hZ hB h hway hpos
 generalize Lp.of p i y=u at CL hl16 HOF HPO
 obtain⟨l,er⟩:=u
 simp only at hl16 HOF HPO
 obtain⟨ys,yx⟩:=y
 simp only at hst y0 HPO
 generalize hw3:((w.alloc (aD p A c A' c')).alloc (eW Aw ys.length cw yx)).alloc rtZ=w3 at X0 HI HW CL HH p0 p1 p2 p3 p4 p5 gp y0 y1 gy z0 z1 z2 z3 z4 z5 z6 z7 z8 e0 e1 e2 e3 e4 e5 e6 e7 e8 gz
 have hsz:w3.heap.size=w.heap.size+1+1+1:=by rw[<-hw3];simp
 have hgo:∀ Q:Ending->World->Prop,(Calls Tryz.prog 32 #[aR p A c A' c',.int .i64 i,AhJ Aw cw ⟨ys,yx⟩] w Q)=(Calls Tryz.prog 32 #[.agg #[.int .i64 p.ov,.int .i64 p.ap,.int .i64 p.se,.int .i64 p.ho,.slice A p.secs.length c,.slice A' p.sigs.length c'],.int .i64 i,.agg #[.slice Aw ys.length cw,.int .i64 yx]] w Q):=λ_=>rfl
 rw[hgo]
 clear hgo
 go_enter Tryz.func32,Tryz.ntmps32
 go_upto_region 1 with fail
 clear hw3
 go_wp2_with fail
 refine CL.out.mono ?_;rintro e w4 ⟨B4,d4,rfl,hR4,hd4,hb4⟩
 have HD4:=hid hd4
 have X4:=hid (X0.out.trans (hb4.mono X0.out.size))
 have HH4:=hid (AsG ((hb4.block _ gp).trans HH.out.1) (AsG ((hb4.block _ gy).trans HH.out.2.1) ((hb4.block _ gz).trans HH.out.2.2)))
 have R4:=hid hR4
 have W4:=hid (HW.out.below hb4)
 have I4:=hid (HI.out.below hb4)
 have S34:=hb4.size
 clear p0 p1 p2 p3 p4 p5 gp y0 y1 gy z0 z1 z2 z3 z4 z5 z6 z7 z8 e0 e1 e2 e3 e4 e5 e6 e7 e8 gz CL hR4 hb4 HW HI X0 HH
 obtain⟨⟨p0,p1,p2,p3,p4,p5⟩,-,gp⟩:=row6 HH4.out.1
 obtain⟨⟨y0,y1⟩,-,gy⟩:=pI HH4.out.2.1
 obtain⟨⟨z0,z1,z2,z3,z4,z5,z6,z7,z8⟩,⟨e0,e1,e2,e3,e4,e5,e6,e7,e8⟩,gz⟩:=row9 HH4.out.2.2
 by_cases her:er=0
 ·--[
  subst her
  have E:=hid (show Rt.of p i ⟨ys,yx⟩=(Rt.fill p i ⟨ys,yx⟩ l,0) from by rw[HOF.out,ArZ rfl])
  have KH:=hid (λW (hW:Below w4.heap.size w4 W)=>AsG ((hW.block _ gp).trans HH4.out.1) (AsG ((hW.block _ gy).trans HH4.out.2.1) ((hW.block _ gz).trans HH4.out.2.2)))
  have KI:=hid (λW (hW:Below w4.heap.size w4 W)=>I4.out.below hW)
  have KW:=hid (λW (hW:Below w4.heap.size w4 W)=>AsG (W4.out.below hW) (R4.out.below hW))
  have GS:=hid (AsG gp (AsG gy gz))
  have CF:=hid (AmN p hf A c A' c' ys l Aw B4 cw d4 w4 I4.out W4.out.row R4.out.row (Rt.way_some hi hy) (by omega) HPO.out)
  have EF:=hid (show Rt.fill p i ⟨ys,yx⟩ l=⟨i,yx,ys,l,(Fl.of p (ys++l)).pts,(Fl.of p (ys++l)).fl,ints (Nr.of p i).1,(Nr.of p i).2,p.ho+(Nr.of p i).2 / 100000⟩ from rfl)
  have HS0:=hid (Rt.way_some hi hy)
  generalize Fl.of p (ys++l)=gf at CF EF
  clear z0 z1 z2 z3 z4 z5 z6 z7 z8 e0 e1 e2 e3 e4 e5 e6 e7 e8 gz
  go_wp2_with fail
  refine CF.out.mono ?_;rintro e w6 ⟨B5,d5,B6,d6,rfl,hR5,hd5,hR6,hd6,hb6,hn5,hn6⟩
  have B46:=hid hb6
  have P5:=hid (AsG hR5 (AsG hd5 hn5))
  have P6:=hid (AsG hR6 (AsG hd6 hn6))
  clear hR5 hd5 hR6 hd6 hb6 hn5 hn6 CF p0 p1 p2 p3 p4 p5 gp y0 y1 gy
  obtain⟨⟨p0,p1,p2,p3,p4,p5⟩,-,gp⟩:=row6 (KH.out _ B46.out).1
  have CN:=hid (AmR p hf hm hap A c A' c' i w6 (KI.out _ B46.out))
  generalize Nr.of p i=nr at CN EF ND
  obtain⟨nl,nd⟩:=nr
  simp only at ND
  go_wp2_with fail
  refine CN.out.mono ?_;rintro e w8 ⟨B7,d7,rfl,hR7,hb8,hn7⟩
  have B48:=hid (B46.out.trans (hb8.mono B46.out.size))
  have S46:=hid B46.out.size
  have N7:=hid hn7
  have Q58:=hid (P5.out.1.below rfl hb8)
  have Q68:=hid (P6.out.1.below rfl hb8)
  have Q78:=hid hR7
  clear hR7 hb8 hn7 CN p0 p1 p2 p3 p4 p5 gp
  have TQ:Int.tdiv nd 100000=nd / 100000:=Rt.quo nd ND.1
  have hq:0<=nd / 100000/\nd / 100000<=nd:=⟨by omega,by omega⟩
  have q1:IntKind.i64.wrap (nd / 100000)=nd / 100000:=IntWalk.i64_in _ (by omega)
  have q2:IntKind.i64.wrap (p.ho+nd / 100000)=p.ho+nd / 100000:=IntWalk.i64_in _ (by omega)
  have T0:=hid (AtB w8)
  have KS:=hid (λW (hW:Below w8.heap.size w8 W)=>show W.cell? ⟨w.heap.size,3,none⟩=some (.int .i64 p.ho)/\W.cell? ⟨w.heap.size+1,0,none⟩=some (.slice Aw ys.length cw)/\W.cell? ⟨w.heap.size+1,1,none⟩=some (.int .i64 yx) from
   ⟨(row6 (KH.out _ (B48.out.trans (hW.mono B48.out.size))).1).1.2.2.2.1,(pI (KH.out _ (B48.out.trans (hW.mono B48.out.size))).2.1).1.1,(pI (KH.out _ (B48.out.trans (hW.mono B48.out.size))).2.1).1.2⟩)
  have KX:=hid (λW v0 v1 v2 v3 v4 v5 v6 v7 v8 (hW:Below w8.heap.size w8 W)=>show (((((((((W.setCell ⟨w.heap.size+1+1,0,none⟩ v0).setCell ⟨w.heap.size+1+1,1,none⟩ v1).setCell ⟨w.heap.size+1+1,2,none⟩ v2).setCell ⟨w.heap.size+1+1,3,none⟩ v3).setCell ⟨w.heap.size+1+1,4,none⟩ v4).setCell ⟨w.heap.size+1+1,5,none⟩ v5).setCell ⟨w.heap.size+1+1,6,none⟩ v6).setCell ⟨w.heap.size+1+1,7,none⟩ v7).setCell ⟨w.heap.size+1+1,8,none⟩ v8).cell? ⟨w.heap.size,3,none⟩=some (.int .i64 p.ho)/\(((((((((W.setCell ⟨w.heap.size+1+1,0,none⟩ v0).setCell ⟨w.heap.size+1+1,1,none⟩ v1).setCell ⟨w.heap.size+1+1,2,none⟩ v2).setCell ⟨w.heap.size+1+1,3,none⟩ v3).setCell ⟨w.heap.size+1+1,4,none⟩ v4).setCell ⟨w.heap.size+1+1,5,none⟩ v5).setCell ⟨w.heap.size+1+1,6,none⟩ v6).setCell ⟨w.heap.size+1+1,7,none⟩ v7).setCell ⟨w.heap.size+1+1,8,none⟩ v8).cell? ⟨w.heap.size+1,0,none⟩=some (.slice Aw ys.length cw)/\(((((((((W.setCell ⟨w.heap.size+1+1,0,none⟩ v0).setCell ⟨w.heap.size+1+1,1,none⟩ v1).setCell ⟨w.heap.size+1+1,2,none⟩ v2).setCell ⟨w.heap.size+1+1,3,none⟩ v3).setCell ⟨w.heap.size+1+1,4,none⟩ v4).setCell ⟨w.heap.size+1+1,5,none⟩ v5).setCell ⟨w.heap.size+1+1,6,none⟩ v6).setCell ⟨w.heap.size+1+1,7,none⟩ v7).setCell ⟨w.heap.size+1+1,8,none⟩ v8).cell? ⟨w.heap.size+1,1,none⟩=some (.int .i64 yx) from
   ⟨(lN (by omega)).trans (KS.out W hW).1,(lN (by omega)).trans (KS.out W hW).2.1,(lN (by omega)).trans (KS.out W hW).2.2⟩)
  have CL:=hid (λW (hW:Below w8.heap.size w8 W)=>pT Aw cw ys W (KW.out _ (B48.out.trans (hW.mono B48.out.size))).1.row HS0.out (by omega))
  have KZ:=hid (λW (hW:Below w8.heap.size w8 W)=>(KH.out _ (B48.out.trans (hW.mono B48.out.size))).2.2)
  go_upto_region 6 with fail
  obtain⟨k0,k1,k2⟩:=KS.out _ T0.out
  clear k0 k1 k2
  go_region_held3 (λW=>W.cell? ⟨w.heap.size,3,none⟩=some (.int .i64 p.ho)/\W.cell? ⟨w.heap.size+1,0,none⟩=some (.slice Aw ys.length cw)/\W.cell? ⟨w.heap.size+1,1,none⟩=some (.int .i64 yx))
   (first|with_reducible exact KS.out _ T0.out.drew|with_reducible exact KS.out _ h9|with_reducible exact KX.out _ _ _ _ _ _ _ _ _ _ h9|(go_keep;done))
   (first|(go_at_call 67;(with_reducible refine(CL.out _ T0.out.drew).mono ?_);rintro e9 w9 ⟨g9,d9,rfl,ho9,hb9⟩;have h9:=T0.out.drew.trans (hb9.mono T0.out.drew.size);obtain⟨⟨z0,z1,z2,z3,z4,z5,z6,z7,z8⟩,⟨e0,e1,e2,e3,e4,e5,e6,e7,e8⟩,gz⟩:=row9 (KZ.out _ h9)))
  obtain⟨-,B',d',hv9,hd9,hS9⟩:=TRow.of_own (E:=aE) ho9
  cases hv9
  have hz3:=GS.out.2.2
  have PN:=hid (show PartsNew w w9 ⟨some ⟨g9,0,none⟩,d9,B4,d4,B5,d5,B6,d6,B7,d7,⟨i,yx,ys,l,gf.pts,gf.fl,ints nl,nd,p.ho+nd / 100000⟩⟩ from
   ⟨hS9,(KW.out _ (B48.out.trans (h9.mono B48.out.size))).2,Q58.out.below rfl h9,Q68.out.below rfl h9,Q78.out.below rfl h9,λhz a ha=>(by have:=P5.out.2.2 hz a ha;omega),λhz a ha=>(by have:=P6.out.2.2 hz a ha;omega),λhz a ha=>(by have:=N7.out a ha;have:=S46.out;omega),hd9,HD4.out⟩)
  have BF:=hid (X4.out.trans ((B48.out.trans (h9.mono B48.out.size)).mono X4.out.size))
  have HZ9:=hid (KZ.out _ h9)
  have FIN:=hid (λv0 v1 v2 v3 v4 v5 v6 v7 v8=>show RouteYes (Rt.of p i ⟨ys,yx⟩) w (.returned (.tuple #[rtV ⟨some ⟨g9,0,none⟩,d9,B4,d4,B5,d5,B6,d6,B7,d7,⟨i,yx,ys,l,gf.pts,gf.fl,ints nl,nd,p.ho+nd / 100000⟩⟩,.int .i64 0])) (((((((((w9.setCell ⟨w.heap.size+1+1,0,none⟩ v0).setCell ⟨w.heap.size+1+1,1,none⟩ v1).setCell ⟨w.heap.size+1+1,2,none⟩ v2).setCell ⟨w.heap.size+1+1,3,none⟩ v3).setCell ⟨w.heap.size+1+1,4,none⟩ v4).setCell ⟨w.heap.size+1+1,5,none⟩ v5).setCell ⟨w.heap.size+1+1,6,none⟩ v6).setCell ⟨w.heap.size+1+1,7,none⟩ v7).setCell ⟨w.heap.size+1+1,8,none⟩ v8) from by
   rw[E.out]
   refine⟨⟨some ⟨g9,0,none⟩,d9,B4,d4,B5,d5,B6,d6,B7,d7,⟨i,yx,ys,l,gf.pts,gf.fl,ints nl,nd,p.ho+nd / 100000⟩⟩,EF.out.symm,rfl,PN.out.set9 HZ9.out (.inr ⟨λhz a ha=>?_,λhz a ha=>?_,λhz a ha=>?_⟩),dE BF.out (by omega)⟩
   ·have:=P5.out.2.2 hz a ha;omega
   ·have:=P6.out.2.2 hz a ha;omega
   have:=N7.out a ha;have:=S46.out;omega)
  have LI:=xS nl
  clear ho9 hb9 h9 hS9 KS KX KZ CL T0 KH KI KW z0 z1 z2 z3 z4 z5 z6 z7 z8 e0 e1 e2 e3 e4 e5 e6 e7 e8 gz
  have HZC:=hid (rY (v0:=.int .i64 i) (v1:=.int .i64 yx) (v2:=.slice (some ⟨g9,0,none⟩) ys.length d9) (v3:=.slice B4 l.length d4) (v4:=.slice B5 gf.pts.length d5) (v5:=.slice B6 gf.fl.length d6) (v6:=.slice B7 nl.length d7) (v7:=.int .i64 nd) (v8:=.int .i64 (p.ho+nd / 100000)) HZ9.out)
  have FI2:=hid (FIN.out (.int .i64 i) (.int .i64 yx) (.slice (some ⟨g9,0,none⟩) ys.length d9) (.slice B4 l.length d4) (.slice B5 gf.pts.length d5) (.slice B6 gf.fl.length d6) (.slice B7 nl.length d7) (.int .i64 nd) (.int .i64 (p.ho+nd / 100000)))
  generalize (((((((((w9.setCell ⟨w.heap.size+1+1,0,none⟩ (.int .i64 i)).setCell ⟨w.heap.size+1+1,1,none⟩ (.int .i64 yx)).setCell ⟨w.heap.size+1+1,2,none⟩ (.slice (some ⟨g9,0,none⟩) ys.length d9)).setCell ⟨w.heap.size+1+1,3,none⟩ (.slice B4 l.length d4)).setCell ⟨w.heap.size+1+1,4,none⟩ (.slice B5 gf.pts.length d5)).setCell ⟨w.heap.size+1+1,5,none⟩ (.slice B6 gf.fl.length d6)).setCell ⟨w.heap.size+1+1,6,none⟩ (.slice B7 nl.length d7)).setCell ⟨w.heap.size+1+1,7,none⟩ (.int .i64 nd)).setCell ⟨w.heap.size+1+1,8,none⟩ (.int .i64 (p.ho+nd / 100000)))=w10 at HZC FI2 ⊢
  obtain⟨⟨z0,z1,z2,z3,z4,z5,z6,z7,z8⟩,-,gz⟩:=row9 HZC.out
  go_wp2_with fail
  refine bodyPost_ret (v:=.tuple #[rtV ⟨some ⟨g9,0,none⟩,d9,B4,d4,B5,d5,B6,d6,B7,d7,⟨i,yx,ys,l,gf.pts,gf.fl,ints nl,nd,p.ho+nd / 100000⟩⟩,.int .i64 0]) ?_ rfl FI2.out
  simp[results,Tryz.results32,go_sem, *]
  --]
 --[
 have D:(er != 0)=true:=by rw[AsV];exact her
 have E:=hid (show Rt.of p i ⟨ys,yx⟩=(Rt.zero,er) from by rw[HOF.out,ArY her])
 clear her
 go_wp2_with fail
 refine bodyPost_ret (v:=.tuple #[rtV ⟨none,0,none,0,none,0,none,0,none,0,Rt.zero⟩,.int .i64 er]) ?_ rfl (by
  rw[E.out]
  exact⟨⟨none,0,none,0,none,0,none,0,none,0,Rt.zero⟩,rfl,rfl,⟨.inl rfl,.inl rfl,.inl rfl,.inl rfl,.inl rfl,λh=>absurd rfl h,λh=>absurd rfl h,λh=>absurd rfl h,ArR _,ArR _⟩,dE X4.out (by omega)⟩)
 simp[results,Tryz.results32,go_sem,Rt.zero, *]
 --]
end Go.Proofs.YtjofpclmbjpgjaaGreat
