/-
  Texts of this claim, merged: RoutePartsWalk, RtAsks.
-/
import Derived.Test.YtpdfbnolhpakoaaGreatMg19
import Derived.Test.YtpdfbnolhpakoaaGreatMg42
namespace Go.Proofs.YtpdfbnolhpakoaaGreat
open Go.RowKit
namespace Rt
theorem ways_eq {p:Pl.Plan} {i:Int}:∀ {ws:List Cr.Way} {acc:List Route},(ways p i ws acc).2=0→(ways p i ws acc).1=acc++ws.map (fun w=>fill p i w (Lp.of p i w).1)∧∀ w∈ws,(Lp.of p i w).2=0
  | [],acc,_=>⟨(List.append_nil _).symm,fun _ h=>by cases h⟩
  | w :: ws,acc,h=>by
    by_cases h1:acc.length=30
    · rw[ways_full h1] at h;exact absurd h (by decide)
    by_cases h2:(of p i w).2=0
    · rw [ways_ok h1 h2] at h ⊢
      obtain ⟨e1,e2⟩:=ways_eq h
      have h3:(Lp.of p i w).2=0:=by rw[← of_err];exact h2
      refine ⟨by rw[e1,of_ok h3,List.append_assoc];rfl,fun x hx=>?_⟩
      rcases List.mem_cons.1 hx with rfl | hx
      · exact h3
      · exact e2 x hx
    · rw [ways_bad h1 h2] at h
      exact absurd h h2
theorem from_step {p:Pl.Plan} {i:Nat} {acc L:List Route} (hi:i<p.sigs.length) (h:from_ p ((List.range p.sigs.length).drop i) acc=(L,0)) :
    (Cr.of p i).2=0∧(∀ w∈(Cr.of p i).1,(Lp.of p i w).2=0)∧from_ p ((List.range p.sigs.length).drop (i+1)) (acc++(Cr.of p i).1.map fun w=>fill p i w (Lp.of p i w).1)=(L,0)∧∃ N,L=(acc++(Cr.of p i).1.map fun w=>fill p i w (Lp.of p i w).1)++N:=by
  rw [range_drop hi] at h
  by_cases h1:(Cr.of p i).2=0
  · by_cases h2:(ways p i (Cr.of p i).1 acc).2=0
    · rw [from_ok h1 h2] at h
      obtain ⟨e1,e2⟩:=ways_eq h2
      rw [e1] at h
      obtain ⟨N,hN⟩:=from_more (p:=p) (l:=(List.range p.sigs.length).drop (i+1)) (acc:=acc++(Cr.of p i).1.map fun w=>fill p i w (Lp.of p i w).1) (by rw[h])
      rw [h] at hN
      exact ⟨h1,e2,h,N,hN⟩
    · rw [from_bad h1 h2] at h
      exact absurd (congrArg Prod.snd h) h2
  · rw [from_long h1] at h
    exact absurd (congrArg Prod.snd h) h1
theorem from_end {p:Pl.Plan} {acc L:List Route} (h:from_ p ((List.range p.sigs.length).drop p.sigs.length) acc=(L,0)):L=acc:=by
  rw [List.drop_of_length_le (by rw[List.length_range];exact Nat.le_refl _)] at h
  exact (congrArg Prod.fst h).symm
end Rt
set_option maxHeartbeats 16000000 in
set_option maxRecDepth 100000 in
theorem routeParts_walk (s:ByteArray) (W:World) (_ws:s.size≤maxLen) :
    Calls Tryz.prog 4 #[.string s] W fun e w'=>e=.returned (.bool true)∧Below W.heap.size W w':=by
  have AW:=Lib.hid rtAwake_any
  cases hm:madeP s.data.toList with
  | none =>
    have CM:=Lib.hid (fun W=>made_void hm W)
    go_enter Tryz.func4,Tryz.ntmps4
    go_wp2_with fail
    refine (CM.out _).mono ?_;rintro e w1 ⟨p,S,cS,G,cG,rfl,-,hb1⟩
    have B5:=Lib.hid (hb1.alloc hb1.size (planO p S cS G cG))
    clear hb1 CM
    go_wp2_with fail
    refine (AW.out _).mono ?_;rintro e w8 ⟨rfl,hb8⟩
    go_wp2
    go_ret
    exact ⟨rfl,B5.out.trans (hb8.mono B5.out.size)⟩
  | some p =>
    obtain ⟨hfit,hmeas,hap,hho⟩:=madeP_route hm
    have hho2:0≤p.ho∧p.ho≤1125899906842624:=by omega
    have CM:=Lib.hid (fun W=>made_some hm W)
    have hln:=Rt.all_len p
    have HERR:=Lib.hid (Rt.all_err hmeas)
    have HNO:=Lib.hid (fun h=>Rt.from_none (p:=p) (l:=List.range p.sigs.length) (acc:=[]) h)
    have HALL:=Lib.hid (show Rt.all p=Rt.from_ p ((List.range p.sigs.length).drop 0) [] from rfl)
    have hgfew:=hfit.gfew
    clear hm
    go_enter Tryz.func4,Tryz.ntmps4
    go_wp2_with fail
    refine (CM.out _).mono ?_;rintro e w1 ⟨S,cS,G,cG,rfl,pin,hb1⟩
    have X1:=(Below.refl w1.heap.size w1).alloc (Nat.le_refl _) (planO p S cS G cG)
    have B5:=Lib.hid (hb1.trans (X1.mono hb1.size))
    have RP:=Lib.hid (heap_alloc_new w1 (planO p S cS G cG))
    have I5:=Lib.hid (pin.below X1:PlanIn (w1.alloc (planO p S cS G cG)) p S G)
    obtain ⟨⟨p0,p1,p2,p3,p4,p5⟩,-,gx⟩:=row6 RP.out
    clear pin hb1 X1 CM
    go_upto_region 4 with fail
    generalize w1.alloc (planO p S cS G cG)=w5 at B5 RP I5 p0 p1 p2 p3 p4 p5 gx ⊢
    generalize w1.heap.size=gq at RP p0 p1 p2 p3 p4 p5 gx ⊢
    have KP:=Lib.hid (fun W' (hW:Below w5.heap.size w5 W')=>(row6 ((hW.block _ gx).trans RP.out)).1)
    have C1:=Lib.hid (ptAll_any p hfit hmeas hap hho2 S cS G cG w5 I5.out)
    have CLP:=Lib.hid (fun (i:Int) (y:Cr.Way) (Aw:Option Addr) (cw:Nat) (W':World) (hI:PlanIn W' p S G) (hway:LStp.Row W' Aw y.steps) (hwl:y.steps.length≤1000)=>rlOf_any p hfit hmeas S cS G cG i y Aw cw W' hI hway hwl)
    have CNR:=Lib.hid (fun (i:Int) (W':World) (hI:PlanIn W' p S G)=>rnOf_any p hfit hmeas hap S cS G cG i W' hI)
    have HND:=Lib.hid (fun (i:Int)=>Rt.near_bd hfit hmeas i)
    have HNL:=Lib.hid (fun (i:Int)=>Nr.of_len hfit (i:=i))
    rw [show Rt.from_ p (List.range p.sigs.length) []=Rt.all p from rfl] at HNO
    generalize Rt.all p=al at C1 hln HERR HNO HALL
    obtain ⟨L,er⟩:=al
    have hln':L.length≤30:=hln
    have HHO:=Lib.hid hho
    clear hfit hmeas hap hho2 hln hho
    go_wp2_with fail
    refine C1.out.mono ?_;rintro e w6 ⟨A1,c1,rfl,hc1,hR1,hb6⟩
    have T6:=Lib.hid hb6
    have R1:=Lib.hid hR1
    have T0:=Lib.hid (Below.refl w6.heap.size w6)
    have KP6:=Lib.hid (fun W' (hW:Below w6.heap.size w6 W')=>KP.out W' (T6.out.trans (hW.mono T6.out.size)))
    have I6:=Lib.hid (fun W' (hW:Below w6.heap.size w6 W')=>I5.out.below (T6.out.trans (hW.mono T6.out.size)))
    have B6:=Lib.hid (B5.out.trans (T6.out.mono B5.out.size))
    have GQ6:=Lib.hid (Nat.lt_of_lt_of_le gx hb6.size)
    clear hc1 hR1 hb6 C1 p0 p1 p2 p3 p4 p5 gx B5 RP I5 KP T6
    by_cases her:er=0
    · subst her
      clear HERR HNO
      go_wp2_with fail
      go_loopw [7,8,9,10,11,13,14,15,16] (fun v7 v8 _ _ _ _ _ _ _ w'=>∃ (i:Nat) (acc:List Rt.Route),i≤p.sigs.length∧v8=.int .i64 i∧v7=.int .i64 acc.length∧Rt.from_ p ((List.range p.sigs.length).drop i) acc=(L,0)∧acc.length≤L.length∧Below w6.heap.size w6 w') (fun _ v8 _ _ _ _ _ _ _ _=>p.sigs.length - (intOf v8).toNat)
      case atStart=>exact ⟨0,[],Nat.zero_le _,rfl,rfl,HALL.out.symm,Nat.zero_le _,T0.out⟩
      case round =>
        clear HALL
        obtain ⟨i,acc,hi,rfl,rfl,hfr,hal,hB⟩:=hrel
        have HB:=Lib.hid hB
        have HFR:=Lib.hid hfr
        clear hB hfr
        obtain ⟨p0,p1,p2,p3,p4,p5⟩:=KP6.out _ HB.out
        have gx:=Nat.lt_of_lt_of_le GQ6.out HB.out.size
        by_cases hlt:i<p.sigs.length
        · have d1 : decide ((i:Int)<(p.sigs.length:Int))=true:=dec_t (by omega)
          obtain ⟨z1,z2,z3,NN,z4⟩:=Rt.from_step hlt HFR.out
          have HZ2:=Lib.hid z2
          have HZ3:=Lib.hid z3
          have HZ4:=Lib.hid z4
          have hzl:=congrArg List.length z4
          rw [List.length_append,List.length_append,List.length_map] at hzl
          have hst:=Lib.hid (fun (w:Cr.Way) (hw:w∈(Cr.of p i).1)=>Cr.of_steps hw)
          have CC:=Lib.hid (rcOf_t p S cS G cG i wr (I6.out _ HB.out))
          generalize Cr.of p i=u at CC z1 HZ2 HZ3 HZ4 hzl hst
          obtain ⟨ws,er⟩:=u
          obtain rfl:er=0:=z1
          have hzl2:acc.length+ws.length≤L.length:=by simp only at hzl;omega
          clear z2 z3 z4 HFR hzl
          go_wp2_with fail
          refine CC.out.mono ?_;rintro e w7 ⟨B,d,rfl,hW7,hb7⟩
          have HW7:=Lib.hid hW7
          have B7:=Lib.hid (HB.out.trans (hb7.mono HB.out.size))
          have T7:=Lib.hid (Below.refl w7.heap.size w7)
          have q0:IntKind.i64.wrap ((acc.length:Int)+(ws.length:Int))=(acc.length:Int)+(ws.length:Int):=IntWalk.i64_in _ (by omega)
          have dg:decide ((L.length:Int)<(acc.length:Int)+(ws.length:Int))=false:=dec_f (by omega)
          clear hW7 hb7 CC p0 p1 p2 p3 p4 p5 gx
          go_wp2_with fail
          go_loopw [7,11,13,14,15,16] (fun v7 v11 _ _ _ _ w'=>∃ k:Nat,k≤ws.length∧v11=.int .i64 k∧v7=.int .i64 ((acc.length+k:Nat):Int)∧Below w7.heap.size w7 w') (fun _ v11 _ _ _ _ _=>ws.length - (intOf v11).toNat)
          case atStart=>exact ⟨0,Nat.zero_le _,rfl,rfl,T7.out⟩
          case round =>
            obtain ⟨k,hk,rfl,rfl,hb8⟩:=hrel
            have B8:=Lib.hid hb8
            clear hb8
            have BA:=Lib.hid (B7.out.trans (B8.out.mono B7.out.size))
            obtain ⟨p0,p1,p2,p3,p4,p5⟩:=KP6.out _ BA.out
            have gx:=Nat.lt_of_lt_of_le GQ6.out BA.out.size
            by_cases hkl:k<ws.length
            · have d2:decide ((k:Int)<(ws.length:Int))=true:=dec_t (by omega)
              have k0:(0:Int)≤(k:Int):=Int.natCast_nonneg k
              have k1:(k:Int)<(ws.length:Int):=by omega
              have hy:=List.getElem?_eq_getElem hkl
              have hmem:=List.getElem_mem hkl
              have hz:=HZ2.out _ hmem
              have hs16:=hst.out _ hmem
              have hL:L[acc.length+k]? = some (Rt.fill p i (ws[k]'hkl) (Lp.of p i (ws[k]'hkl)).1):=by
                rw [HZ4.out,List.getElem?_append_left (by rw[List.length_append,List.length_map];omega),List.getElem?_append_right (by omega),show acc.length+k - acc.length=k by omega,List.getElem?_map,hy]
                rfl
              obtain ⟨bw,ow,Sy,dy,rfl,hbw,w0,w1',hSy,-⟩:=(HW7.out.below B8.out).at hy
              obtain ⟨b,o,m,rfl,hb,hm1,hon,hP⟩:=(R1.out.below BA.out).two hL
              generalize ws[k]=y at hz hs16 w0 w1' hSy hm1
              have CL:=Lib.hid (fun W' (hI:PlanIn W' p S G) (hw:LStp.Row W' Sy y.steps)=>CLP.out i y Sy dy W' hI hw (by omega))
              have hlp:=Lp.of_steps (p:=p) (i:=i) (w:=y)
              generalize Lp.of p i y=u at hz hm1 CL hlp
              obtain ⟨l,e2⟩:=u
              obtain rfl:e2=0:=hz
              obtain ⟨ys,yx⟩:=y
              simp only at w0 w1' hSy hm1 hs16
              have EF:Rt.fill p i ⟨ys,yx⟩ l=⟨i,yx,ys,l,(Fl.of p (ys++l)).pts,(Fl.of p (ys++l)).fl,ints (Nr.of p i).1,(Nr.of p i).2,p.ho+(Nr.of p i).2 / 100000⟩:=rfl
              rw [EF] at hm1
              have CN:=Lib.hid (fun W' hI=>CNR.out i W' hI)
              have hl16:l.length≤16:=hlp
              have hnd:=HND.out i
              have hnl:=HNL.out i
              generalize Nr.of p i=nr at hm1 CN hnd hnl
              obtain ⟨nl,nd⟩:=nr
              simp only at hnd hnl hm1
              generalize (Fl.of p (ys++l)).pts=yp at hm1
              generalize (Fl.of p (ys++l)).fl=yf at hm1
              obtain ⟨A1,c1',A2,c2,A3,c3,A4,c4,A5,c5,r⟩:=m
              simp only at hm1
              subst hm1
              have W0:=Lib.hid (Below.refl wr.heap.size wr)
              have hx:=rt_on (hon wr W0.out)
              simp only at hx
              rw [show (ints nl).length=nl.length from ints_len nl] at hx
              obtain ⟨x0,x1,x2,x3,x4,x5,x6,x7,x8⟩:=hx
              have P1:=Lib.hid hP
              have n0:(0:Int)≤((acc.length+k:Nat):Int):=Int.natCast_nonneg _
              have n1:((acc.length+k:Nat):Int)<(L.length:Int):=by omega
              have q5:IntKind.i64.wrap (((acc.length+k:Nat):Int)+1)=((acc.length+(k+1):Nat):Int):=by rw[IntWalk.i64_in _ (by omega)];omega
              have hacc29:acc.length+k≤30:=by omega
              generalize hnk:acc.length+k=nk at x0 x1 x2 x3 x4 x5 x6 x7 x8 n0 n1 q5 hon hacc29 ⊢
              have TQ:Int.tdiv nd 100000=nd / 100000:=Rt.quo nd hnd.1
              have q1:IntKind.i64.wrap (nd / 100000)=nd / 100000:=IntWalk.i64_in _ (by omega)
              have hho:=HHO.out
              have q2:IntKind.i64.wrap (p.ho+nd / 100000)=p.ho+nd / 100000:=IntWalk.i64_in _ (by omega)
              have HRX:=Lib.hid (heap_alloc_new wr (.cells #[.int .i64 i,.int .i64 yx,.slice A1 ys.length c1',.slice A2 l.length c2,.slice A3 yp.length c3,.slice A4 yf.length c4,.slice A5 nl.length c5,.int .i64 nd,.int .i64 (p.ho+nd / 100000)] 43))
              have BX:=Lib.hid ((Below.refl wr.heap.size wr).alloc (Nat.le_refl _) (.cells #[.int .i64 i,.int .i64 yx,.slice A1 ys.length c1',.slice A2 l.length c2,.slice A3 yp.length c3,.slice A4 yf.length c4,.slice A5 nl.length c5,.int .i64 nd,.int .i64 (p.ho+nd / 100000)] 43))
              have HNK:=Lib.hid hnk
              clear hy hmem hL hon hP EF hb hho hnk
              go_upto_region 18 with fail
              generalize wr.alloc (.cells #[.int .i64 i,.int .i64 yx,.slice A1 ys.length c1',.slice A2 l.length c2,.slice A3 yp.length c3,.slice A4 yf.length c4,.slice A5 nl.length c5,.int .i64 nd,.int .i64 (p.ho+nd / 100000)] 43)=wa at HRX BX ⊢
              generalize wr.heap.size=gr at HRX ⊢
              clear x0 x1 x2 x3 x4 x5 x6 x7 x8
              have V0:=Lib.hid (Below.refl wa.heap.size wa)
              have BAA:=Lib.hid (BA.out.trans (BX.out.mono BA.out.size))
              have grl:=(Array.getElem?_eq_some_iff.1 HRX.out).1
              have KS:=Lib.hid (fun W' (hW:Below wa.heap.size wa W')=>And.intro (KP6.out W' (BAA.out.trans (hW.mono BAA.out.size))) (show W'.cell? ⟨bw,ow+k * 2,none⟩ = some (.slice Sy ys.length dy)∧W'.cell? ⟨bw,ow+k * 2+1,none⟩ = some (.int .i64 yx) from
                ⟨((BX.out.trans (hW.mono BX.out.size)).cell (p:=⟨bw,ow+k * 2,none⟩) hbw).trans w0,((BX.out.trans (hW.mono BX.out.size)).cell (p:=⟨bw,ow+k * 2+1,none⟩) hbw).trans w1'⟩))
              have KR:=Lib.hid (fun W' (hW:Below wa.heap.size wa W')=>show W'.cell? ⟨gr,0,none⟩ = some (.int .i64 i)∧W'.cell? ⟨gr,1,none⟩ = some (.int .i64 yx)∧W'.cell? ⟨gr,2,none⟩ = some (.slice A1 ys.length c1')∧W'.cell? ⟨gr,3,none⟩ = some (.slice A2 l.length c2)∧W'.cell? ⟨gr,6,none⟩ = some (.slice A5 nl.length c5)∧W'.cell? ⟨gr,7,none⟩ = some (.int .i64 nd)∧W'.cell? ⟨gr,8,none⟩ = some (.int .i64 (p.ho+nd / 100000))∧W'.cell? ⟨bw,ow+k * 2,none⟩ = some (.slice Sy ys.length dy)∧W'.cell? ⟨bw,ow+k * 2+1,none⟩ = some (.int .i64 yx)∧W'.cell? ⟨gq,3,none⟩ = some (.int .i64 p.ho) from by
                obtain ⟨⟨a0,a1,a2,a3,a4,a5,a6,a7,a8⟩,-,-⟩:=row9 ((hW.block _ grl).trans HRX.out)
                obtain ⟨⟨-,-,-,b3,-,-⟩,b6,b7⟩:=KS.out W' hW
                exact ⟨a0,a1,a2,a3,a6,a7,a8,b6,b7,b3⟩)
              have RSy:=Lib.hid (fun W' (hW:Below wa.heap.size wa W')=>hSy.row.below rfl (BX.out.trans (hW.mono BX.out.size)))
              have PA:=Lib.hid (fun W' (hW:Below wa.heap.size wa W')=>P1.out.below (BX.out.trans (hW.mono BX.out.size)))
              have CL2:=Lib.hid (fun W' (hW:Below wa.heap.size wa W')=>CL.out W' (I6.out _ (BAA.out.trans (hW.mono BAA.out.size))) (RSy.out W' hW))
              have CN2:=Lib.hid (fun W' (hW:Below wa.heap.size wa W')=>CN.out W' (I6.out _ (BAA.out.trans (hW.mono BAA.out.size))))
              clear p0 p1 p2 p3 p4 p5 gx w0 w1' hSy grl CL CN hbw
              go_region_held3 (fun W'=>(W'.cell? ⟨gq,0,none⟩ = some (.int .i64 p.ov)∧W'.cell? ⟨gq,1,none⟩ = some (.int .i64 p.ap)∧W'.cell? ⟨gq,2,none⟩ = some (.int .i64 p.se)∧W'.cell? ⟨gq,3,none⟩ = some (.int .i64 p.ho)∧W'.cell? ⟨gq,4,none⟩ = some (.slice S p.secs.length cS)∧W'.cell? ⟨gq,5,none⟩ = some (.slice G p.sigs.length cG))∧W'.cell? ⟨bw,ow+k * 2,none⟩ = some (.slice Sy ys.length dy)∧W'.cell? ⟨bw,ow+k * 2+1,none⟩ = some (.int .i64 yx))
                (first | with_reducible exact KS.out _ V0.out.drew | with_reducible exact KS.out _ h5 | (go_keep;done))
                (first | (go_at_call 16;(with_reducible refine (CL2.out _ V0.out.drew).mono ?_);rintro e5 z5 ⟨Bl,dl,rfl,hRl,-,hbl⟩;have h5:=V0.out.drew.trans (hbl.mono V0.out.drew.size)))
              have V5:=Lib.hid h5
              have RL5:=Lib.hid hRl.row
              clear hRl hbl h5 CL2
              obtain ⟨⟨p0,p1,p2,p3,p4,p5⟩,-⟩:=KS.out _ V5.out
              have gx:=Nat.lt_of_lt_of_le GQ6.out (BAA.out.trans (V5.out.mono BAA.out.size)).size
              go_wp2_with fail
              refine (CN2.out _ V5.out).mono ?_;rintro e6 z6 ⟨Bn,dn,rfl,hRn,hb6,-⟩
              have V6:=Lib.hid (V5.out.trans (hb6.mono V5.out.size))
              have RL6:=Lib.hid (RL5.out.below rfl hb6)
              have RN6:=Lib.hid hRn
              clear hRn hb6 CN2 RL5 V5 p0 p1 p2 p3 p4 p5 gx
              have E1:((i:Int) != (i:Int))=false:=by simp
              have E2:(yx != yx)=false:=by simp
              have E3:(nd != nd)=false:=by simp
              have E4:(p.ho+nd / 100000 != p.ho+nd / 100000)=false:=by simp
              have s1:=rwSame_all ys ys A1 c1' Sy dy
              have s2:=rwSame_all l l A2 c2 Bl dl
              have s3:=fun W' h h'=>rtInts_any A5 c5 nl.length (ints nl) Bn dn nl.length (ints nl) W' (ints_len nl) h (by omega) (ints_len nl) h'
              simp only [decide_true] at s1 s2 s3
              have C1:=Lib.hid (fun W' (hW:Below z6.heap.size z6 W')=>Made.of (w:=wa) (V6.out.trans (hW.mono V6.out.size)) (s1 W' (PA.out _ (V6.out.trans (hW.mono V6.out.size))).p1 (RSy.out _ (V6.out.trans (hW.mono V6.out.size))) (by omega)))
              have C2:=Lib.hid (fun W' (hW:Below z6.heap.size z6 W')=>Made.of (w:=wa) (V6.out.trans (hW.mono V6.out.size)) (s2 W' (PA.out _ (V6.out.trans (hW.mono V6.out.size))).p2 (RL6.out.below rfl hW) (by omega)))
              have C3:=Lib.hid (fun W' (hW:Below z6.heap.size z6 W')=>Made.of (w:=wa) (V6.out.trans (hW.mono V6.out.size)) (s3 W' (PA.out _ (V6.out.trans (hW.mono V6.out.size))).p5 (RN6.out.below rfl hW)))
              have Z6:=Lib.hid (Below.refl z6.heap.size z6)
              have KR6:=Lib.hid (fun W' (hW:Below z6.heap.size z6 W')=>KR.out W' (V6.out.trans (hW.mono V6.out.size)))
              clear s1 s2 s3 KS KR
              go_upto_region 20 with fail
              go_cut [154] from 70 to 156 (fun s154 w'=>s154=.bool false∧Below wa.heap.size wa w')
              case first =>
                go_region_held3 (fun W'=>W'.cell? ⟨gr,0,none⟩ = some (.int .i64 i)∧W'.cell? ⟨gr,1,none⟩ = some (.int .i64 yx)∧W'.cell? ⟨gr,2,none⟩ = some (.slice A1 ys.length c1')∧W'.cell? ⟨gr,3,none⟩ = some (.slice A2 l.length c2)∧W'.cell? ⟨gr,6,none⟩ = some (.slice A5 nl.length c5)∧W'.cell? ⟨gr,7,none⟩ = some (.int .i64 nd)∧W'.cell? ⟨gr,8,none⟩ = some (.int .i64 (p.ho+nd / 100000))∧W'.cell? ⟨bw,ow+k * 2,none⟩ = some (.slice Sy ys.length dy)∧W'.cell? ⟨bw,ow+k * 2+1,none⟩ = some (.int .i64 yx)∧W'.cell? ⟨gq,3,none⟩ = some (.int .i64 p.ho))
                  (first | with_reducible exact KR6.out _ Z6.out.drew | with_reducible exact KR6.out _ u1 | with_reducible exact KR6.out _ u2 | with_reducible exact KR6.out _ u3 | (go_keep;done))
                  (first
                    | (go_at_call 18;(with_reducible refine (C1.out _ Z6.out.drew).mono ?_);rintro e1 v1 ⟨rfl,hu1,hx1,-⟩;have u1:=Z6.out.drew.trans (hu1.mono Z6.out.drew.size))
                    | (go_at_call 18;(with_reducible refine (C2.out _ u1).mono ?_);rintro e2 v2 ⟨rfl,hu2,hx2,-⟩;have u2:=u1.trans (hu2.mono u1.size))
                    | (go_at_call 19;(with_reducible refine (C3.out _ u2).mono ?_);rintro e3 v3 ⟨rfl,hu3,hx3,-⟩;have u3:=u2.trans (hu3.mono u2.size)))
                all_goals go_wp2_with fail
                all_goals go_meet
                all_goals exact ⟨rfl,hx3⟩
              case rest =>
                obtain ⟨rfl,hx⟩:=hcut
                have BZ:=Lib.hid (B8.out.trans ((BX.out.trans (hx.mono BX.out.size)).mono B8.out.size))
                clear hx C1 C2 C3 KR6 Z6
                go_wp2_with fail
                go_roundw
                case rel=>exact ⟨k+1,by omega,by go_num,rfl,BZ.out⟩
                case measure=>simp [intOf];omega
            · obtain rfl:k=ws.length:=by omega
              have d2:decide ((ws.length:Int)<(ws.length:Int))=false:=dec_f (by omega)
              have el:(acc++ws.map fun w=>Rt.fill p i w (Lp.of p i w).1).length=acc.length+ws.length:=by rw[List.length_append,List.length_map]
              go_wp2_with fail
              go_roundw
              case rel=>exact ⟨i+1,_,by omega,by go_num,by rw[el],HZ3.out,by rw[el];omega,BA.out⟩
              case measure=>simp [intOf];omega
        · obtain rfl:i=p.sigs.length:=by omega
          have d1:decide ((p.sigs.length:Int)<(p.sigs.length:Int))=false:=dec_f (by omega)
          have hend:=Rt.from_end HFR.out
          have BX:=Lib.hid (B6.out.trans (HB.out.mono B6.out.size))
          have E1:((acc.length:Int) == (L.length:Int))=true:=by rw[beq_iff_eq,hend]
          have E2:decide ((acc.length:Int)≤30)=true:=dec_t (by omega)
          clear hend HFR
          go_wp2_with fail
          refine (AW.out _).mono ?_;rintro e w8 ⟨rfl,hb8⟩
          go_wp2_with fail
          go_ret
          exact ⟨rfl,BX.out.trans (hb8.mono BX.out.size)⟩
    · have D:(er != 0)=true:=by rw[bne_iff_ne];exact her
      obtain rfl:L=[]:=HNO.out her
      have hcase:er=9∨er=10:=by
        rcases HERR.out with h | h | h
        · exact absurd h her
        · exact .inl h
        · exact .inr h
      clear HERR HNO her HALL
      rcases hcase with rfl | rfl
      all_goals go_wp2_with fail
      all_goals (refine (AW.out _).mono ?_;rintro e w8 ⟨rfl,hb8⟩)
      all_goals go_wp2_with fail
      all_goals go_ret
      all_goals exact ⟨rfl,B6.out.trans (hb8.mono B6.out.size)⟩
end Go.Proofs.YtpdfbnolhpakoaaGreat
namespace Go.Proofs.YtpdfbnolhpakoaaGreat.Rt
open Go Pl Wk
theorem position_nonneg (p:Plan) (x:Stp):0≤position p x:=by
  unfold position
  split
  · omega
  · exact Int.le_refl _
structure Asks (p:Plan) (L:List Stp) (D:List Dm.Dem):Prop where
  good:Dm.Good D
  asks:∀ x∈L,position p x≠0→Dm.posOf D x.s=position p x
  only:∀ k,(∀ x∈L,x.s≠k)→Dm.posOf D k=0
theorem asks_snoc {p:Plan} {L:List Stp} {D:List Dm.Dem} (h:Asks p L D) {y:Stp} (hy:∀ x∈L,x.s≠y.s):Asks p (L++[y]) (if 0<position p y then Dm.put D ⟨y.s,position p y⟩ else D):=by
  have h0:=position_nonneg p y
  by_cases hp:0<position p y
  · rw [if_pos hp]
    have hne:(⟨y.s,position p y⟩:Dm.Dem).pos≠0:=by show position p y≠0;omega
    have hz:=h.only y.s hy
    refine ⟨h.good.put hne,fun x hx hpx=>?_,fun k hk=>?_⟩
    · rw [h.good.posOf_put]
      rcases List.mem_append.1 hx with hx | hx
      · rw [if_pos (by rw[h.asks x hx hpx];exact hpx)]
        exact h.asks x hx hpx
      · rw[List.mem_singleton.1 hx,if_neg (fun e=>e hz),if_pos rfl]
    · rw [h.good.posOf_put,if_neg (fun e=>e (h.only k fun x hx=>hk x (List.mem_append_left _ hx))),if_neg]
      exact fun e=>hk y (List.mem_append_right _ (List.mem_singleton.2 rfl)) e.symm
  · rw [if_neg hp]
    refine ⟨h.good,fun x hx hpx=>?_,fun k hk=>h.only k fun x hx=>hk x (List.mem_append_left _ hx)⟩
    rcases List.mem_append.1 hx with hx | hx
    · exact h.asks x hx hpx
    · rw [List.mem_singleton.1 hx] at hpx
      exact absurd hpx (by omega)
theorem asks_of {p:Plan}:∀ (R L:List Stp) (D:List Dm.Dem),Asks p L D→(∀ x∈L,∀ y∈R,x.s≠y.s)→(R.map (·.s)).Nodup→Asks p (L++R) (R.foldl (fun out x=>if 0<position p x then Dm.put out ⟨x.s,position p x⟩ else out) D)
  | [],L,D,h,_,_=>by rw[List.append_nil];exact h
  | y :: R,L,D,h,hLR,hn=>by
    rw [List.map_cons,List.nodup_cons] at hn
    have := asks_of R (L++[y]) _ (asks_snoc h fun x hx=>hLR x hx y (List.mem_cons_self ..)) (fun x hx z hz=>by
      rcases List.mem_append.1 hx with hx | hx
      · exact hLR x hx z (List.mem_cons_of_mem _ hz)
      · rw [List.mem_singleton.1 hx]
        intro e
        exact hn.1 (by rw[e];exact List.mem_map.2 ⟨z,hz,rfl⟩)) hn.2
    rw [List.append_assoc] at this
    exact this
theorem asks_steps {p:Plan} {L:List Stp} (h:(L.map (·.s)).Nodup):Asks p L (Dm.ofSteps p L) :=
  asks_of L [] [] ⟨Dm.Good.nil,(fun _ hx=>by cases hx),fun _ _=>rfl⟩ (fun _ hx=>by cases hx) h
theorem one_keeps {p:Plan} (hf:Fit p) (own:List Stp) (g:Fl.G) (x:Stp):Fl.Keeps g (Fl.one p own g x):=by
  unfold Fl.one
  split
  · exact (Fl.Keeps.of_pts (g:=g) (h:={ g with seen:=[] }) rfl).trans (Fl.on_keeps p own 9 _ _ _ (next_end hf _ _) fun s e=>next_end hf s e)
  · exact Fl.Keeps.refl g
theorem of_keeps {p:Plan} (hf:Fit p) (own:List Stp):Fl.Keeps ⟨Dm.ofSteps p own,[],[]⟩ (Fl.of p own):=by
  have:∀ (l:List Stp) (g:Fl.G),Fl.Keeps g (l.foldl (Fl.one p own) g):=by
    intro l
    induction l with
    | nil=>intro g;exact Fl.Keeps.refl g
    | cons x l ih=>intro g;exact (one_keeps hf own g x).trans (ih _)
  exact this own _
theorem chain_nodup {p:Plan} {b:Int}:∀ {t:List Stp} {s f:Int} {st:List Stp} {e:Int},Cr.Chain p b s f st t e→(t.map (·.s)).Nodup
  | [],_,_,_,_,_=>List.nodup_nil
  | x :: t,s,f,st,e,h=>by
    rw [List.map_cons,List.nodup_cons]
    refine ⟨fun hm=>?_,?_⟩
    · obtain ⟨y,hy,hys⟩:=List.mem_map.1 hm
      exact Cr.chain_head h y hy hys
    · unfold Cr.Chain at h
      obtain ⟨-,h⟩:=h
      rcases h with ⟨-,rfl,-⟩ | ⟨-,h⟩
      · exact List.nodup_nil
      · exact chain_nodup h
theorem own_nodup {p:Plan} {i:Nat} (hi:i<p.sigs.length) {w:Cr.Way} (hw:w∈(Cr.of p i).1):((w.steps++(Lp.of p i w).1).map (·.s)).Nodup:=by
  have h1:(w.steps.map (·.s)).Nodup:=by
    rw [Cr.of_some (sig_at hi)] at hw
    exact chain_nodup (Cr.of_way hw).2.2.2
  rw [List.map_append,List.nodup_append]
  rcases lap_of (p:=p) (i:=i) (w:=w) with h | ⟨b,s,f,sum,h⟩
  · rw [h]
    exact ⟨h1,List.nodup_nil,fun _ _ _ hb=>by cases hb⟩
  · refine ⟨h1,(Lp.chain_apart h).1,fun a ha c hc e=>?_⟩
    obtain ⟨x,hx,rfl⟩:=List.mem_map.1 ha
    obtain ⟨y,hy,rfl⟩:=List.mem_map.1 hc
    have:=lap_way h y hy
    unfold within at this
    rw [List.any_eq_false] at this
    exact this x hx (decide_eq_true e)
def RAsks (p:Plan) (r:Route):Prop:=∀ x∈r.steps++r.lap,position p x≠0→Dm.posOf r.pts x.s=position p x
theorem fill_asks {p:Plan} (hf:Fit p) {i:Nat} (hi:i<p.sigs.length) {w:Cr.Way} (hw:w∈(Cr.of p i).1):RAsks p (fill p i w (Lp.of p i w).1):=by
  intro x hx hp
  have ha:=asks_steps (p:=p) (own_nodup hi hw)
  have h1:=ha.asks x hx hp
  have h2:=(of_keeps hf (w.steps++(Lp.of p i w).1)).same ha.good x.s (by show Dm.posOf (Dm.ofSteps p _) x.s≠0;rw[h1];exact hp)
  exact h2.trans h1
theorem all_asks {p:Plan} (hf:Fit p):∀ r∈(all p).1,RAsks p r:=by
  refine all_each fun i hi w hw h=>?_
  rw [of_err] at h
  rw [of_ok h]
  exact fill_asks hf hi hw
end Go.Proofs.YtpdfbnolhpakoaaGreat.Rt
