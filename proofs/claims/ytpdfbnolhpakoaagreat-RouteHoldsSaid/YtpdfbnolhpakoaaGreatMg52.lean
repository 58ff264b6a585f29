/-
  Texts of this claim, merged: RouteHoldsWalk.
-/
import Derived.Test.YtpdfbnolhpakoaaGreatMg42
import Derived.Test.YtpdfbnolhpakoaaGreatMg51
namespace Go.Proofs.YtpdfbnolhpakoaaGreat
open Go.RowKit
namespace Rt
theorem all_timer {p:Pl.Plan} (hf:Pl.Fit p) (hm:Lp.Meas p) (hho:0≤p.ho∧p.ho≤1099511627776):∀ r∈(all p).1,0≤r.timer∧r.timer≤1125899906842624:=by
  refine all_each fun i _ _ _ h=>?_
  rw [of_err] at h
  rw [of_ok h]
  have hn:=near_bd hf hm (i:Int)
  show 0≤p.ho+(Nr.of p i).2 / 100000∧p.ho+(Nr.of p i).2 / 100000≤1125899906842624
  omega
theorem held_fit {p:Pl.Plan} (h:Pl.Fit p) (n:Int):Pl.Fit (held p n):=⟨h.ends,h.plain,h.sigs,h.few,h.gfew⟩
theorem held_meas {p:Pl.Plan} (h:Lp.Meas p) (n:Int):Lp.Meas (held p n):=⟨h.ov,h.len,h.sig⟩
end Rt
theorem RoutesIn.sub {w:World} {A:Option Addr} {L:List Rt.Route} (h:RoutesIn w A L) {k:Nat} {y:Rt.Route} (hk:L[k]? = some y):∃ b o,A=some ⟨b,o,none⟩∧RoutesIn w (some ⟨b,o+k * 9,none⟩) [y]:=by
  obtain ⟨b,o,m,h1,h2,h3,h4,h5⟩:=h.at hk
  refine ⟨b,o,h1,[m],by rw[List.map_singleton,h3],.inr ⟨b,o+k * 9,rfl,h2,fun j x hx=>?_⟩,fun x hx=>by rw[List.mem_singleton.1 hx];exact h5⟩
  cases j with
  | zero =>
    cases hx
    rw [Nat.zero_mul,Nat.add_zero]
    exact h4
  | succ j=>simp at hx
set_option maxHeartbeats 16000000 in
set_option maxRecDepth 100000 in
theorem routeHolds_walk (s:ByteArray) (n:Int) (W:World) (_ws:s.size≤maxLen) (wn:(Lit.int .u16 n).wf=true) :
    Calls Tryz.prog 6 #[.string s,.int .u16 n] W fun e w'=>e=.returned (.bool true)∧Below W.heap.size W w':=by
  have AW:=Lib.hid rtAwake_any
  have bn:=wf_u16 wn
  clear wn
  cases hm:madeP s.data.toList with
  | none =>
    have CM:=Lib.hid (fun W=>made_void hm W)
    go_enter Tryz.func6,Tryz.ntmps6
    go_wp2_with fail
    refine (CM.out _).mono ?_;rintro e w1 ⟨p,S,cS,G,cG,rfl,-,hb1⟩
    have B5:=Lib.hid (hb1.alloc hb1.size (planO p S cS G cG))
    clear hb1 CM
    go_wp2_with fail
    refine (AW.out _).mono ?_;rintro e w8 ⟨rfl,hb8⟩
    go_wp2
    go_ret
    exact ⟨rfl,B5.out.trans (hb8.mono B5.out.size)⟩
  | some p =>
    obtain ⟨hfit,hmeas,hap,hho⟩:=madeP_route hm
    have hho2:0≤p.ho∧p.ho≤1125899906842624:=by omega
    have CM:=Lib.hid (fun W=>made_some hm W)
    have HSM:=Lib.hid (Rt.all_small hfit)
    have HTI:=Lib.hid (Rt.all_timer hfit hmeas hho)
    have hln:=Rt.all_len p
    have HE:=Lib.hid (Rt.held_all (p:=p) (n:=n))
    have q1:IntKind.i64.wrap n=n:=IntWalk.i64_in _ (by omega)
    have q2:IntKind.i64.wrap (p.ho+n)=p.ho+n:=IntWalk.i64_in _ (by omega)
    clear hm
    go_enter Tryz.func6,Tryz.ntmps6
    go_wp2_with fail
    refine (CM.out _).mono ?_;rintro e w1 ⟨S,cS,G,cG,rfl,pin,hb1⟩
    have X1:=(Below.refl w1.heap.size w1).alloc (Nat.le_refl _) (planO p S cS G cG)
    have B5:=Lib.hid (hb1.trans (X1.mono hb1.size))
    have RP:=Lib.hid (heap_alloc_new w1 (planO p S cS G cG))
    have I5:=Lib.hid (pin.below X1:PlanIn (w1.alloc (planO p S cS G cG)) p S G)
    obtain ⟨⟨p0,p1,p2,p3,p4,p5⟩,-,gx⟩:=row6 RP.out
    clear pin hb1 X1 CM
    go_upto_region 4 with fail
    generalize w1.alloc (planO p S cS G cG)=w5 at B5 RP I5 p0 p1 p2 p3 p4 p5 gx ⊢
    generalize w1.heap.size=gq at RP p0 p1 p2 p3 p4 p5 gx ⊢
    have C1:=Lib.hid (ptAll_any p hfit hmeas hap hho2 S cS G cG w5 I5.out)
    have C2:=Lib.hid (fun W' (hW:Below w5.heap.size w5 W')=>ptAll_any (Rt.held p (p.ho+n)) (Rt.held_fit hfit _) (Rt.held_meas hmeas _) hap (show 0≤p.ho+n∧p.ho+n≤1125899906842624 by omega) S cS G cG W' (show PlanIn W' (Rt.held p (p.ho+n)) S G from I5.out.below hW))
    rw [HE.out] at C2
    generalize Rt.all p=al at C1 C2 HSM HTI hln
    obtain ⟨L,er⟩:=al
    have hln':L.length≤30:=hln
    clear hfit hmeas hap hho hho2 hln HE
    go_wp2_with fail
    refine C1.out.mono ?_;rintro e w6 ⟨A1,c1,rfl,hc1,hR1,hb6⟩
    have T6:=Lib.hid hb6
    have R1:=Lib.hid hR1
    obtain ⟨⟨u0,u1,u2,u3,u4,u5⟩,-,gu⟩:=row6 ((hb6.block _ gx).trans RP.out)
    have X7:=(Below.refl w6.heap.size w6).alloc (Nat.le_refl _) (planO p S cS G cG)
    have R7:=heap_alloc_new w6 (planO p S cS G cG)
    obtain ⟨⟨v0,v1,v2,v3,v4,v5⟩,⟨f0,f1,f2,f3,f4,f5⟩,gv⟩:=row6 R7
    have R8:=Lib.hid (heap_alloc_new w6 (.cells #[.int .i64 p.ov,.int .i64 p.ap,.int .i64 p.se,.int .i64 (p.ho+n),.slice S p.secs.length cS,.slice G p.sigs.length cG] 26))
    have B8:=Lib.hid ((Below.refl w6.heap.size w6).alloc (Nat.le_refl _) (.cells #[.int .i64 p.ov,.int .i64 p.ap,.int .i64 p.se,.int .i64 (p.ho+n),.slice S p.secs.length cS,.slice G p.sigs.length cG] 26))
    clear hc1 hR1 hb6 C1 p0 p1 p2 p3 p4 p5 X7 R7
    go_upto_region 7 with fail
    generalize w6.alloc (.cells #[.int .i64 p.ov,.int .i64 p.ap,.int .i64 p.se,.int .i64 (p.ho+n),.slice S p.secs.length cS,.slice G p.sigs.length cG] 26)=w8 at R8 B8 ⊢
    generalize w6.heap.size=g9 at R8 ⊢
    clear u0 u1 u2 u3 u4 u5 gu v0 v1 v2 v3 v4 v5 f0 f1 f2 f3 f4 f5 gv
    obtain ⟨⟨p0,p1,p2,p3,p4,p5⟩,-,gx⟩:=row6 R8.out
    have T8:=Lib.hid (T6.out.trans (B8.out.mono T6.out.size))
    have C3:=Lib.hid (show Calls Tryz.prog 9 #[.agg #[.int .i64 p.ov,.int .i64 p.ap,.int .i64 p.se,.int .i64 (p.ho+n),.slice S p.secs.length cS,.slice G p.sigs.length cG]] w8 (RoutesYes (L.map (Rt.later n),er) w8) from C2.out w8 T8.out)
    clear C2
    go_wp2_with fail
    refine C3.out.mono ?_;rintro e w9 ⟨A2,c2,rfl,hc2,hR2,hb9⟩
    have T9:=Lib.hid (T8.out.trans (hb9.mono T8.out.size))
    have R19:=Lib.hid ((R1.out.below B8.out).below hb9)
    have R29:=Lib.hid hR2
    have hlm:(L.map (Rt.later n)).length=L.length:=List.length_map ..
    have HC2:=Lib.hid (show L.length≤c2 from by rw[← hlm];exact hc2)
    have T0:=Lib.hid (Below.refl w9.heap.size w9)
    have B9:=Lib.hid (B5.out.trans (T9.out.mono B5.out.size))
    have DE:(er != er)=false:=by simp
    have DL:((L.length:Int) != (L.length:Int))=false:=by simp
    rw [show ((L.map (Rt.later n),er):List Rt.Route × Int).1.length=L.length from hlm]
    clear hc2 hR2 hb9 C3 p0 p1 p2 p3 p4 p5 gx R8 hlm R1 B8 T6 T8
    go_wp2_with fail
    go_loopw [12] (fun v12 w'=>∃ i:Nat,i≤L.length∧v12=.int .i64 i∧Below w9.heap.size w9 w') (fun v12 _=>L.length - (intOf v12).toNat)
    case atStart=>exact ⟨0,Nat.zero_le _,rfl,T0.out⟩
    case round =>
      obtain ⟨i,hi,rfl,hB⟩:=hrel
      have HB:=Lib.hid hB
      clear hB
      by_cases hlt:i<L.length
      · have d1:decide ((i:Int)<(L.length:Int))=true:=dec_t (by omega)
        have i0:(0:Int)≤(i:Int):=Int.natCast_nonneg i
        have i1:(i:Int)<(L.length:Int):=by omega
        have hy:=List.getElem?_eq_getElem hlt
        have hym:=HSM.out _ (List.getElem_mem hlt)
        have hyt:=HTI.out _ (List.getElem_mem hlt)
        obtain ⟨b,o,m,rfl,hb,hm1,hon,hP⟩:=(R19.out.below HB.out).two hy
        obtain ⟨b2,o2,rfl,hR2⟩:=(R29.out.below HB.out).sub (k:=i) (y:=Rt.later n L[i]) (by rw[List.getElem?_map,hy];rfl)
        generalize L[i]=y at hm1 hym hyt hR2
        obtain ⟨A1,c1',A2,c2',A3,c3,A4,c4,A5,c5,r⟩:=m
        simp only at hm1
        subst hm1
        obtain ⟨en,ex,ys,yl,yp,yf,yn,yd,yt⟩:=r
        simp only at hyt
        have q3:IntKind.i64.wrap (yt+n)=yt+n:=IntWalk.i64_in _ (by omega)
        have q4:IntKind.i64.wrap ((i:Int)+1)=(i:Int)+1:=IntWalk.i64_in _ (by omega)
        have W0:=Lib.hid (Below.refl wr.heap.size wr)
        obtain ⟨x0,x1,x2,x3,x4,x5,x6,x7,x8⟩:=rt_on (hon wr W0.out)
        simp only at x0 x1 x2 x3 x4 x5 x6 x7 x8
        have P1:=Lib.hid hP
        have Z2:=Lib.hid hR2
        have SMY:=Lib.hid (show Rt.Small (Rt.later n ⟨en,ex,ys,yl,yp,yf,yn,yd,yt⟩) from hym)
        clear hy hym hon hP hR2
        have HX:=Lib.hid (heap_alloc_new wr (.cells #[.int .i64 en,.int .i64 ex,.slice A1 ys.length c1',.slice A2 yl.length c2',.slice A3 yp.length c3,.slice A4 yf.length c4,.slice A5 yn.length c5,.int .i64 yd,.int .i64 (yt+n)] 43))
        have BA:=Lib.hid ((Below.refl wr.heap.size wr).alloc (Nat.le_refl _) (.cells #[.int .i64 en,.int .i64 ex,.slice A1 ys.length c1',.slice A2 yl.length c2',.slice A3 yp.length c3,.slice A4 yf.length c4,.slice A5 yn.length c5,.int .i64 yd,.int .i64 (yt+n)] 43))
        have hcc:=HC2.out
        have s1:i+1≤c2:=by omega
        have s2:(i:Int)≤(i:Int)+1:=by omega
        have s3:(i:Int)+1≤(c2:Int):=by omega
        have s4:¬ c2=i:=by omega
        have s5:i≤c2:=by omega
        have s6:(0:Int)≤(i:Int)+1:=by omega
        go_upto_region 15 with fail
        generalize wr.alloc (.cells #[.int .i64 en,.int .i64 ex,.slice A1 ys.length c1',.slice A2 yl.length c2',.slice A3 yp.length c3,.slice A4 yf.length c4,.slice A5 yn.length c5,.int .i64 yd,.int .i64 (yt+n)] 43)=wa at HX BA ⊢
        generalize wr.heap.size=gx at HX ⊢
        clear x0 x1 x2 x3 x4 x5 x6 x7 x8 q3 hcc
        have gl:=(Array.getElem?_eq_some_iff.1 HX.out).1
        have V0:=Lib.hid (Below.refl wa.heap.size wa)
        have KS:=Lib.hid (fun W (hW:Below wa.heap.size wa W)=>show W.cell? ⟨gx,0,none⟩ = some (.int .i64 en)∧W.cell? ⟨gx,1,none⟩ = some (.int .i64 ex)∧W.cell? ⟨gx,2,none⟩ = some (.slice A1 ys.length c1')∧W.cell? ⟨gx,3,none⟩ = some (.slice A2 yl.length c2')∧W.cell? ⟨gx,4,none⟩ = some (.slice A3 yp.length c3)∧W.cell? ⟨gx,5,none⟩ = some (.slice A4 yf.length c4)∧W.cell? ⟨gx,6,none⟩ = some (.slice A5 yn.length c5)∧W.cell? ⟨gx,7,none⟩ = some (.int .i64 yd)∧W.cell? ⟨gx,8,none⟩ = some (.int .i64 (yt+n)) from by
          obtain ⟨⟨a0,a1,a2,a3,a4,a5,a6,a7,a8⟩,-,-⟩:=row9 ((hW.block _ gl).trans HX.out)
          exact ⟨a0,a1,a2,a3,a4,a5,a6,a7,a8⟩)
        have CSM:=Lib.hid (fun W k (hk:W.heap.size=k) (hW:Below wa.heap.size wa W)=>show Calls Tryz.prog 11 #[.slice (some ⟨k,0,none⟩) 1 1,.slice (some ⟨b2,o2+i * 9,none⟩) 1 (c2 - i)] (W.alloc (.cells #[.int .i64 en,.int .i64 ex,.slice A1 ys.length c1',.slice A2 yl.length c2',.slice A3 yp.length c3,.slice A4 yf.length c4,.slice A5 yn.length c5,.int .i64 yd,.int .i64 (yt+n)] 43)).drew (fun e w'=>e=.returned (.bool true)∧Below wa.heap.size wa w') from by
          subst hk
          have X:=(hW.alloc hW.size (rtO ⟨A1,c1',A2,c2',A3,c3,A4,c4,A5,c5,Rt.later n ⟨en,ex,ys,yl,yp,yf,yn,yd,yt⟩⟩)).drew
          have hpar:PartsIn W ⟨A1,c1',A2,c2',A3,c3,A4,c4,A5,c5,Rt.later n ⟨en,ex,ys,yl,yp,yf,yn,yd,yt⟩⟩:=by
            have h:=(P1.out.below BA.out).below hW
            exact ⟨h.p1,h.p2,h.p3,h.p4,h.p5⟩
          refine (rtSame_any [Rt.later n ⟨en,ex,ys,yl,yp,yf,yn,yd,yt⟩] (some ⟨W.heap.size,0,none⟩) 1 (some ⟨b2,o2+i * 9,none⟩) (c2 - i) _ ((RoutesIn.one hpar).below (Below.refl _ _).drew) ((Z2.out.below BA.out).below X) (by show 1≤1000;decide) (fun y hy=>by rw[List.mem_singleton.1 hy];exact SMY.out)).mono ?_
          rintro e w' ⟨rfl,hb⟩
          exact ⟨rfl,X.trans (hb.mono X.size)⟩)
        clear gl
        go_region_held3 (fun W=>W.cell? ⟨gx,0,none⟩ = some (.int .i64 en)∧W.cell? ⟨gx,1,none⟩ = some (.int .i64 ex)∧W.cell? ⟨gx,2,none⟩ = some (.slice A1 ys.length c1')∧W.cell? ⟨gx,3,none⟩ = some (.slice A2 yl.length c2')∧W.cell? ⟨gx,4,none⟩ = some (.slice A3 yp.length c3)∧W.cell? ⟨gx,5,none⟩ = some (.slice A4 yf.length c4)∧W.cell? ⟨gx,6,none⟩ = some (.slice A5 yn.length c5)∧W.cell? ⟨gx,7,none⟩ = some (.int .i64 yd)∧W.cell? ⟨gx,8,none⟩ = some (.int .i64 (yt+n)))
          (first | with_reducible exact KS.out _ V0.out.drew | with_reducible exact KS.out _ (V0.out.alloc V0.out.size _).drew | with_reducible exact KS.out _ h9 | (go_keep;done))
          (first | (go_at_call 11;(with_reducible refine (CSM.out _ _ rfl V0.out).mono ?_);rintro e9 z9 ⟨rfl,h9⟩))
        have BX:=Lib.hid (HB.out.trans ((BA.out.trans (h9.mono BA.out.size)).mono HB.out.size))
        go_wp2_with fail
        go_roundw
        case rel=>exact ⟨i+1,by omega,by go_num,BX.out⟩
        case measure=>simp [intOf];omega
      · obtain rfl:i=L.length:=by omega
        have d1:decide ((L.length:Int)<(L.length:Int))=false:=dec_f (by omega)
        have BX:=Lib.hid (B9.out.trans (HB.out.mono B9.out.size))
        go_wp2_with fail
        refine (AW.out _).mono ?_;rintro e w8 ⟨rfl,hb8⟩
        go_wp2
        go_ret
        exact ⟨rfl,BX.out.trans (hb8.mono BX.out.size)⟩
end Go.Proofs.YtpdfbnolhpakoaaGreat
