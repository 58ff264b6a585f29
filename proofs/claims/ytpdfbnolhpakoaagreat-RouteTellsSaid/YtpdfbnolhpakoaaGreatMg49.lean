/-
  Texts of this claim, merged: RouteTellsWalk.
-/
import Derived.Test.YtpdfbnolhpakoaaGreatMg42
import Derived.Test.YtpdfbnolhpakoaaGreatMg47
import Derived.Test.YtpdfbnolhpakoaaGreatMg48
namespace Go.Proofs.YtpdfbnolhpakoaaGreat
open Go.RowKit
set_option maxHeartbeats 16000000 in
set_option maxRecDepth 100000 in
theorem routeTells_walk (s:ByteArray) (x y:Int) (W:World) (_ws:s.size≤maxLen) (wx:(Lit.int .u8 x).wf=true) (wy:(Lit.int .u8 y).wf=true) :
    Calls Tryz.prog 3 #[.string s,.agg #[.int .u8 x,.int .u8 y]] W fun e w'=>e=.returned (.bool true)∧Below W.heap.size W w':=by
  have AW:=Lib.hid rtAwake_any
  have bx:=wf_u8 wx
  have bz:=wf_u8 wy
  clear wx wy
  have XB:=Lib.hid ((Below.refl W.heap.size W).alloc (Nat.le_refl _) (by2O x y))
  have RB:=Lib.hid (heap_alloc_new W (by2O x y))
  have gb0:=(Array.getElem?_eq_some_iff.1 RB.out).1
  cases hm:madeP s.data.toList with
  | none =>
    have CM:=Lib.hid (fun W=>made_void hm W)
    go_enter Tryz.func3,Tryz.ntmps3
    go_wp2_with fail
    refine (CM.out _).mono ?_;rintro e w1 ⟨p,S,cS,G,cG,rfl,hv,hb1⟩
    have B5:=Lib.hid ((XB.out.trans (hb1.mono XB.out.size)).alloc (XB.out.trans (hb1.mono XB.out.size)).size (planO p S cS G cG))
    clear hb1 CM XB RB gb0 bx bz hv
    go_wp2_with fail
    refine (AW.out _).mono ?_;rintro e w8 ⟨rfl,hb8⟩
    go_wp2
    go_ret
    exact ⟨rfl,B5.out.trans (hb8.mono B5.out.size)⟩
  | some p =>
    obtain ⟨hfit,hmeas,hap,hho⟩:=madeP_route hm
    have hho2:0≤p.ho∧p.ho≤1125899906842624:=by omega
    have CM:=Lib.hid (fun W=>made_some hm W)
    have HFIT:=Lib.hid hfit
    have HSM:=Lib.hid (Rt.all_small hfit)
    have hln:=Rt.all_len p
    clear hm
    go_enter Tryz.func3,Tryz.ntmps3
    go_wp2_with fail
    refine (CM.out _).mono ?_;rintro e w1 ⟨S,cS,G,cG,rfl,pin,hb1⟩
    have X1:=(Below.refl w1.heap.size w1).alloc (Nat.le_refl _) (planO p S cS G cG)
    have B5:=Lib.hid ((XB.out.trans (hb1.mono XB.out.size)).trans (X1.mono (XB.out.trans (hb1.mono XB.out.size)).size))
    have RP:=Lib.hid (heap_alloc_new w1 (planO p S cS G cG))
    have RB5:=Lib.hid ((X1.block _ (Nat.lt_of_lt_of_le gb0 hb1.size)).trans ((hb1.block _ gb0).trans RB.out))
    have I5:=Lib.hid (pin.below X1:PlanIn (w1.alloc (planO p S cS G cG)) p S G)
    obtain ⟨⟨p0,p1,p2,p3,p4,p5⟩,-,gx⟩:=row6 RP.out
    obtain ⟨-,-,gb⟩:=rowY RB5.out
    clear pin hb1 X1 CM XB RB gb0
    go_upto_region 4 with fail
    generalize w1.alloc (planO p S cS G cG)=w5 at B5 RP RB5 I5 p0 p1 p2 p3 p4 p5 gx gb ⊢
    have GX:=Lib.hid (And.intro gx gb)
    have KP:=Lib.hid (fun W' (hW:Below w5.heap.size w5 W')=>And.intro (row6 ((hW.block _ GX.out.1).trans RP.out)).1 (rowY ((hW.block _ GX.out.2).trans RB5.out)).1)
    have C1:=Lib.hid (ptAll_any p hfit hmeas hap hho2 S cS G cG w5 I5.out)
    have C2:=Lib.hid (fun W' (hW:Below w5.heap.size w5 W')=>rtAll_any p hfit hmeas hap hho2 S cS G cG W' (I5.out.below hW))
    generalize Rt.all p=al at C1 C2 HSM hln
    obtain ⟨L,er⟩:=al
    have hln':L.length≤30:=hln
    have CW:=Lib.hid (fun W' (hW:Below w5.heap.size w5 W')=>way_any p S cS G cG x y W' (I5.out.below hW) HFIT.out.gfew bx bz)
    have CPO:=Lib.hid (fun (i:Nat) (hi:i<p.sigs.length) (v:Cr.Way) (hv:v∈(Cr.of p i).1) (Aw:Option Addr) (cw:Nat) (W':World) (hI:PlanIn W' p S G) (hw:TRow 59 LStp W' Aw v.steps)=>ptOf_any p hfit hmeas hap hho2 S cS G cG i hi v hv Aw cw W' hI hw)
    have CRO:=Lib.hid (fun (i:Nat) (hi:i<p.sigs.length) (v:Cr.Way) (hv:v∈(Cr.of p i).1) (Aw:Option Addr) (cw:Nat) (W':World) (hI:PlanIn W' p S G) (hw:TRow 59 LStp W' Aw v.steps)=>rtOf_any p hfit hmeas hap hho2 S cS G cG i hi v hv Aw cw W' hI hw)
    clear hfit hmeas hap hho hho2 bx bz gb hln
    go_wp2_with fail
    refine C1.out.mono ?_;rintro e w6 ⟨A1,c1,rfl,hc1,hR1,hb6⟩
    have T6:=Lib.hid hb6
    have R1:=Lib.hid hR1
    clear hc1 hR1 hb6 C1 p0 p1 p2 p3 p4 p5 gx
    obtain ⟨⟨p0,p1,p2,p3,p4,p5⟩,-⟩:=KP.out _ T6.out
    have gx:=Nat.lt_of_lt_of_le GX.out.1 T6.out.size
    go_wp2_with fail
    refine (C2.out _ T6.out).mono ?_;rintro e w7 ⟨A2,c2,rfl,hc2,hR2,hb7⟩
    have T7:=Lib.hid (T6.out.trans (hb7.mono T6.out.size))
    have CS:=Lib.hid (rtSame_any L A1 c1 A2 c2 w7 (R1.out.below hb7) hR2 (by omega) HSM.out)
    clear hc2 hR2 hb7 C2 p0 p1 p2 p3 p4 p5 gx R1
    have DE:(er != er)=false:=by simp
    go_wp2_with fail
    refine CS.out.mono ?_;rintro e w8 ⟨rfl,hb8⟩
    have T8:=Lib.hid (T7.out.trans (hb8.mono T7.out.size))
    clear hb8 CS
    obtain ⟨⟨p0,p1,p2,p3,p4,p5⟩,y0,y1⟩:=KP.out _ T8.out
    have gx:=Nat.lt_of_lt_of_le GX.out.1 T8.out.size
    have gb:=Nat.lt_of_lt_of_le GX.out.2 T8.out.size
    go_wp2_with fail
    have CW2:=Lib.hid (CW.out _ T8.out)
    cases hwp:wayP p x y with
    | none =>
      refine CW2.out.mono ?_;rintro e w9 ⟨hw,-⟩
      obtain ⟨rfl,hb9⟩:=hw hwp
      have B9:=Lib.hid ((B5.out.trans (T8.out.mono B5.out.size)).trans (hb9.mono (B5.out.trans (T8.out.mono B5.out.size)).size))
      have B10:=Lib.hid (B9.out.alloc B9.out.size wayZ)
      clear hb9 hw CW CW2 p0 p1 p2 p3 p4 p5 y0 y1 gx gb
      go_wp2_with fail
      refine (AW.out _).mono ?_;rintro e w10 ⟨rfl,hb10⟩
      go_wp2
      go_ret
      exact ⟨rfl,B10.out.trans (hb10.mono B10.out.size)⟩
    | some iv =>
      obtain ⟨i,v⟩:=iv
      obtain ⟨hi,hv⟩:=wayP_some hwp
      refine CW2.out.mono ?_;rintro e w9 ⟨-,hw⟩
      obtain ⟨Aw,cw,rfl,hR9,-,hb9⟩:=hw i v hwp
      have X9:=(Below.refl w9.heap.size w9).alloc (Nat.le_refl _) (wayO Aw v.steps.length cw v.exit)
      have T10:=Lib.hid (T8.out.trans ((hb9.trans (X9.mono hb9.size)).mono T8.out.size))
      have RW:=Lib.hid (heap_alloc_new w9 (wayO Aw v.steps.length cw v.exit))
      have RR:=Lib.hid (hR9.below X9)
      have OSM:=Lib.hid (Rt.of_small HFIT.out hv)
      have CP:=Lib.hid (CPO.out i hi v hv Aw cw)
      have CR:=Lib.hid (CRO.out i hi v hv Aw cw)
      clear hb9 hw CW CW2 p0 p1 p2 p3 p4 p5 y0 y1 gx gb hwp hv hR9 X9 CPO CRO
      go_upto_region 11 with fail
      generalize w9.alloc (wayO Aw v.steps.length cw v.exit)=w10 at T10 RW RR ⊢
      generalize w9.heap.size=gw at RW ⊢
      obtain ⟨⟨y0,y1⟩,-,gw10⟩:=rowY RW.out
      obtain ⟨⟨p0,p1,p2,p3,p4,p5⟩,-⟩:=KP.out _ T10.out
      have gx:=Nat.lt_of_lt_of_le GX.out.1 T10.out.size
      have GW:=Lib.hid gw10
      have C3:=Lib.hid (CP.out w10 (I5.out.below T10.out) RR.out)
      have C4:=Lib.hid (fun W' (hW:Below w10.heap.size w10 W')=>CR.out W' (I5.out.below (T10.out.trans (hW.mono T10.out.size))) (RR.out.below hW))
      generalize Rt.of p i v=ro at C3 C4 OSM
      obtain ⟨r,e2⟩:=ro
      go_wp2_with fail
      refine C3.out.mono ?_;rintro e w11 ⟨m1,hm1,rfl,hP1,hb11⟩
      have HM1:=Lib.hid hm1
      have X11:=(Below.refl w11.heap.size w11).alloc (Nat.le_refl _) (rtO m1)
      have T12:=Lib.hid (hb11.trans (X11.mono hb11.size))
      have P1:=Lib.hid (hP1.in_.below X11)
      have H1:=Lib.hid (heap_alloc_new w11 (rtO m1))
      clear hm1 hP1 hb11 X11 C3 CP p0 p1 p2 p3 p4 p5 y0 y1 gw10 gx
      go_upto_region 12 with fail
      generalize w11.alloc (rtO m1)=w12 at T12 P1 H1 ⊢
      generalize w11.heap.size=g1 at H1 ⊢
      obtain ⟨y0,y1⟩:=(rowY ((T12.out.block _ GW.out).trans RW.out)).1
      obtain ⟨⟨p0,p1,p2,p3,p4,p5⟩,-⟩:=KP.out _ (T10.out.trans (T12.out.mono T10.out.size))
      have gx:=Nat.lt_of_lt_of_le GX.out.1 (T10.out.trans (T12.out.mono T10.out.size)).size
      have gw12:=Nat.lt_of_lt_of_le GW.out T12.out.size
      go_wp2_with fail
      refine (C4.out _ T12.out).mono ?_;rintro e w13 ⟨m2,hm2,rfl,hP2,hb13⟩
      have HM2:=Lib.hid hm2
      have X13:=(Below.refl w13.heap.size w13).alloc (Nat.le_refl _) (rtO m2)
      have T14:=Lib.hid (hb13.trans (X13.mono hb13.size))
      have P2:=Lib.hid (hP2.in_.below X13)
      have H2:=Lib.hid (heap_alloc_new w13 (rtO m2))
      clear hm2 hP2 hb13 X13 C4 CR p0 p1 p2 p3 p4 p5 y0 y1 gx gw12
      go_upto_region 13 with fail
      generalize w13.alloc (rtO m2)=w14 at T14 P2 H2 ⊢
      generalize w13.heap.size=g2 at H2 ⊢
      have DE2:(e2 == e2)=true:=by simp
      have H14:=Lib.hid ((T14.out.block _ (Array.getElem?_eq_some_iff.1 H1.out).1).trans H1.out)
      have P14:=Lib.hid (P1.out.below T14.out)
      have B14:=Lib.hid ((B5.out.trans (T10.out.mono B5.out.size)).trans ((T12.out.trans (T14.out.mono T12.out.size)).mono (B5.out.trans (T10.out.mono B5.out.size)).size))
      go_wp2_with fail
      refine (AW.out _).mono ?_;rintro e w15 ⟨rfl,hb15⟩
      obtain ⟨⟨r0,r1,r2,r3,r4,r5,r6,r7,r8⟩,-,gr1⟩:=row9 ((hb15.block _ (Array.getElem?_eq_some_iff.1 H14.out).1).trans H14.out)
      obtain ⟨⟨t0,t1,t2,t3,t4,t5,t6,t7,t8⟩,-,gr2⟩:=row9 ((hb15.block _ (Array.getElem?_eq_some_iff.1 H2.out).1).trans H2.out)
      have X16:=(Below.refl w15.heap.size w15).alloc (Nat.le_refl _) (rtO m1)
      have X17:=X16.alloc X16.size (rtO m2)
      have Z1:=(RoutesIn.one (P14.out.below hb15)).below ((Below.refl _ _).alloc (Nat.le_refl _) (rtO m2))
      have Z2:=RoutesIn.one ((P2.out.below hb15).below X16)
      rw [show m1.r=r from HM1.out] at Z1
      rw [show m2.r=r from HM2.out] at Z2
      have hsz:(w15.alloc (rtO m1)).heap.size=w15.heap.size+1:=by simp
      rw [hsz] at Z2
      have CS2:=Lib.hid (show Calls Tryz.prog 11 #[.slice (some ⟨w15.heap.size,0,none⟩) 1 1,.slice (some ⟨w15.heap.size+1,0,none⟩) 1 1] ((w15.alloc (rtO m1)).alloc (rtO m2)) (fun e w'=>e=.returned (.bool true)∧Below w15.heap.size w15 w') from
        (rtSame_any [r] _ 1 _ 1 _ Z1 Z2 (by show 1≤1000;decide) (fun y hy=>by rw[List.mem_singleton.1 hy];exact OSM.out)).mono fun e w' ⟨h1,h2⟩=>⟨h1,X17.trans (h2.mono X17.size)⟩)
      have BF:=Lib.hid (B14.out.trans (hb15.mono B14.out.size))
      clear hb15 X16 X17 Z1 Z2 hsz
      go_wp2_with fail
      refine CS2.out.mono ?_;rintro e w16 ⟨rfl,hb16⟩
      have BG:=Lib.hid (BF.out.trans (hb16.mono BF.out.size))
      clear hb16 CS2
      go_wp2_with fail
      go_ret
      exact ⟨rfl,BG.out⟩
end Go.Proofs.YtpdfbnolhpakoaaGreat
