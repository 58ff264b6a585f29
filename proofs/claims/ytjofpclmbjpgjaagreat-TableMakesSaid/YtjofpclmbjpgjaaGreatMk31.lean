/- Lemmas. -/
import Derived.Test.YtjofpclmbjpgjaaGreatMk30
set_option maxHeartbeats 16000000
set_option maxRecDepth 100000
namespace Go.Proofs.YtjofpclmbjpgjaaGreat
open Lib (hid)
open Go.RowKit
theorem qM (m:TableM) (w:World) (h1:LBo.Row w m.A1 m.t.points) (h4:RoutesIn w m.A4 m.t.routes) (hpn:m.t.points.length=m.t.names.length) (hf:∀ r∈m.t.routes,Tb.Few r) (hl:m.t.routes.length<=1000000) :
 Calls Tryz.prog 28 #[tbV m] w (OneIs (.bool (Tb.ups (Tb.routeOk m.t) 0 m.t.routes.length)) w):=by
 --[
 obtain⟨A0,c0,A1,c1,A2,c2,A4,c4,A5,c5,t⟩:=m
 simp only at h1 h4 hpn hf hl
 have XX:=(AtB w).alloc (ArR _) (.cells #[.slice A0 t.names.length c0,.slice A1 t.points.length c1,.slice A2 t.sigs.length c2,.int .i64 t.settle,.slice A4 t.routes.length c4,.slice A5 t.bars.length c5] 34)
 have X:=hid XX
 have H1:=hid (h1.below rfl XX)
 have H4:=hid (h4.below XX)
 have RP:=hid (AsW w (.cells #[.slice A0 t.names.length c0,.slice A1 t.points.length c1,.slice A2 t.sigs.length c2,.int .i64 t.settle,.slice A4 t.routes.length c4,.slice A5 t.bars.length c5] 34))
 have CP:=hid (λ(m':RouteM) W (ha:LBo.Row W A1 t.points) (hb:PartsIn W m') (hc:Tb.Few m'.r)=>show Calls Tryz.prog 61 #[.agg #[.slice A0 t.names.length c0,.slice A1 t.points.length c1,.slice A2 t.sigs.length c2,.int .i64 t.settle,.slice A4 t.routes.length c4,.slice A5 t.bars.length c5],rtV m'] W (OneIs (.bool (Tb.fits t m'.r)) W) from mX ⟨A0,c0,A1,c1,A2,c2,A4,c4,A5,c5,t⟩ m' W ha hpn hb hc)
 have HF:=hid hf
 show Calls Tryz.prog 28 #[.agg #[.slice A0 t.names.length c0,.slice A1 t.points.length c1,.slice A2 t.sigs.length c2,.int .i64 t.settle,.slice A4 t.routes.length c4,.slice A5 t.bars.length c5]] w (OneIs (.bool (Tb.ups (Tb.routeOk t) 0 t.routes.length)) w)
 generalize hq:Tb.ups (Tb.routeOk t) 0 t.routes.length=q
 have HQ:=hid hq
 clear h1 h4 XX hf hq hpn
 go_enter Tryz.func28,Tryz.ntmps28
 go_upto_region 1 with fail
 generalize w.alloc (.cells #[.slice A0 t.names.length c0,.slice A1 t.points.length c1,.slice A2 t.sigs.length c2,.int .i64 t.settle,.slice A4 t.routes.length c4,.slice A5 t.bars.length c5] 34)=w1 at X H1 H4 RP ⊢
 generalize hg:w.heap.size=g at RP ⊢
 have gl:=(ArL RP.out).1
 have KB:=hid (λW (hW:Below w1.heap.size w1 W)=>(row6 ((hW.block _ gl).trans RP.out)).1)
 have B0:=hid (AtB w1)
 obtain⟨p0,p1,p2,p3,p4,p5⟩:=KB.out _ B0.out
 clear gl hg
 go_wp2_with fail
 clear p0 p1 p2 p3 p4 p5
 go_loopw [3,4,8] (λ_ _ v w'=>∃ j:Nat,j<=t.routes.length/\v=.int .i64 j/\Tb.ups (Tb.routeOk t) j t.routes.length=q/\Below w1.heap.size w1 w') (λ_ _ v _=>t.routes.length-(intOf v).toNat)
 case atStart=>exact⟨0,AsD _,rfl,HQ.out,B0.out⟩
 case round =>
  clear HQ
  obtain⟨j,hj,rfl,hp,hb⟩:=hrel
  have HX:=hid (X.out.trans (hb.mono X.out.size))
  by_cases hlt:j<t.routes.length
  ·have hy:=ArN hlt
   obtain⟨d1,j0,j1⟩:=ArK (show j<t.routes.length by omega)
   rw[Tb.ups_step _ hlt] at hp
   have HP:=hid hp
   obtain⟨b,o,mj,hA,hbb,hmj,on,hP⟩:=(H4.out.below hb).at hy
   have hfew:=HF.out _ (List.getElem_mem hlt)
   rw[<-hmj] at hfew
   have HK:=hid (show Tb.routeOk t j=(Tb.fits t mj.r && (decide (j=0) || decide ((t.routes.getD (j-1) Rt.zero).entry<=mj.r.entry))) from by
    unfold Tb.routeOk
    rw[Tb.getD_at hy,<-hmj])
   obtain⟨x0,x1,x2,x3,x4,x5,x6,x7,x8⟩:=mE on
   subst hA
   have Y0:=(AtB wr).alloc (ArR _) (rtO mj)
   have RY:=hid (AsW wr (rtO mj))
   have Y:=hid (hb.trans (Y0.mono hb.size))
   have CF0:=hid (λW (hW:Below (wr.alloc (rtO mj)).heap.size (wr.alloc (rtO mj)) W)=>CP.out mj W (H1.out.below rfl (Y.out.trans (hW.mono Y.out.size))) ((hP.below Y0).below hW) hfew)
   clear hp hb hbb on hP Y0 hfew hmj
   go_upto_region 4 with fail
   generalize wr.alloc (rtO mj)=w3 at RY Y CF0 ⊢
   generalize wr.heap.size=gy at RY ⊢
   have gly:=(ArL RY.out).1
   have CF:=hid (OneIs.keep (w0:=w3) λW hW=>CF0.out W hW)
   have FY:=hid (X.out.trans (Y.out.mono X.out.size))
   have KX:=hid (λW (hW:Below w3.heap.size w3 W)=>AsG (KB.out W (Y.out.trans (hW.mono Y.out.size))) (row9 ((hW.block _ gly).trans RY.out)).1)
   generalize Tb.fits t mj.r=z at CF HK
   clear x0 x1 x2 x3 x4 x5 x6 x7 x8 CF0 gly
   cases j with
   | zero =>
     have D2:decide ((0:Int)<((0:Nat):Int))=false:=by decide
     have HK2:=hid (show Tb.routeOk t 0=z from by rw[HK.out,decide_eq_true (p:=0=0) rfl,Bool.true_or,Bool.and_true])
     clear HK
     refine aS (λW=>Below w3.heap.size w3 W) (by kernel_rfl) (by kernel_rfl) (AtB w3).drew ?_
     repeat ((first
      | refine InText.dead ?_
      | (refine InText.val (v:=?_) ?_ ?_;rotate_left;(focus (intro W hW;obtain⟨⟨p0,p1,p2,p3,p4,p5⟩,q0,q1,q2,q3,q4,q5,q6,q7,q8⟩:=KX.out W hW;go_simp;(try with_reducible rfl);done)))
      | (refine InText.call (v:=?_) (f:=?_) (args:=?_) ?_ ?_ ?_;rotate_left 3;(focus (intro W hW;go_simp;constructor;with_reducible rfl;with_reducible rfl));(focus (exact CF.out))));(try simp only[Act.put,ArO,ArP,ArQ]))
     refine InText.end_ λw4 hb4=>?_
     have HB4:=hid (Y.out.trans (hb4.mono Y.out.size))
     have HF4:=hid (FY.out.trans (hb4.mono FY.out.size))
     clear hb4
     cases z with
     | true =>
       have HT:=hid (show Tb.ups (Tb.routeOk t) (0+1) t.routes.length=q from by have:=HP.out;rw[HK2.out] at this;exact this)
       clear HP HK2
       go_wp2
       go_roundw
       case rel=>exact⟨0+1,by omega,by go_num,HT.out,HB4.out⟩
       case measure=>simp[intOf];omega
     | false =>
       have HN:=hid (show false=q from by have:=HP.out;rw[HK2.out] at this;exact this)
       clear HP HK2
       go_wp2
       go_ret
       exact⟨by rw[<-HN.out] <;> rfl,HF4.out⟩
   | succ i =>
     have hli:i<t.routes.length:=by omega
     have hyi:=ArN hli
     obtain⟨b',o',mi,hA',hbi,hmi,oni,-⟩:=(H4.out.below Y.out).at hyi
     cases hA'
     have HK2:=hid (show Tb.routeOk t (i+1)=(z && decide (mi.r.entry<=mj.r.entry)) from by
      rw[HK.out,decide_eq_false (p:=i+1=0) (by omega),Bool.false_or,Nat.add_sub_cancel,Tb.getD_at hyi,hmi])
     have KY:=hid (λW (hW:Below w3.heap.size w3 W)=>show W.cell? ⟨b,o+i*9,none⟩=some (.int .i64 mi.r.entry) from(hW.cell (p:=⟨b,o+i*9,none⟩) hbi).trans (mE oni).1)
     have e1:((i+1:Nat):Int)-1=(i:Int):=by omega
     have w1:IntKind.i64.wrap (((i+1:Nat):Int)-1)=(i:Int):=by rw[IntWalk.i64_in _ (by omega)];omega
     have w2:IntKind.i64.wrap (i:Int)=(i:Int):=IntWalk.i64_in _ (by omega)
     have i0:(0:Int)<=(i:Int):=ArT i
     have i1:(i:Int)<(t.routes.length:Int):=by omega
     have D2:decide ((0:Int)<((i+1:Nat):Int))=true:=aC (by omega)
     have D4:decide (0<i+1)=true:=aC (by omega)
     clear HK hyi hmi oni hbi
     generalize hji:i+1=k at *
     obtain⟨ze,hze⟩:∃ ze,decide (mj.r.entry<mi.r.entry)=ze:=⟨_,rfl⟩
     have HZE:=hid (show decide (mi.r.entry<=mj.r.entry) = !ze from by
      rw[<-hze]
      by_cases h:mj.r.entry<mi.r.entry
      ·rw[decide_eq_true h,decide_eq_false (p:=mi.r.entry<=mj.r.entry) (by omega)];rfl
      rw[decide_eq_false h,decide_eq_true (p:=mi.r.entry<=mj.r.entry) (by omega)];rfl)
     clear hji
     cases ze with
     | true =>
       have HN:=hid (show false=q from by have:=HP.out;rw[HK2.out,HZE.out,Bool.not_true,Bool.and_false,Bool.false_and] at this;exact this)
       clear HP HK2 HZE
       refine aS (λW=>Below w3.heap.size w3 W) (by kernel_rfl) (by kernel_rfl) (AtB w3).drew ?_
       repeat ((first
        | refine InText.dead ?_
        | (refine InText.val (v:=?_) ?_ ?_;rotate_left;(focus (intro W hW;obtain⟨⟨p0,p1,p2,p3,p4,p5⟩,q0,q1,q2,q3,q4,q5,q6,q7,q8⟩:=KX.out W hW;have y0:=KY.out W hW;go_simp;(try with_reducible rfl);done)))
        | (refine InText.call (v:=?_) (f:=?_) (args:=?_) ?_ ?_ ?_;rotate_left 3;(focus (intro W hW;go_simp;constructor;with_reducible rfl;with_reducible rfl));(focus (exact CF.out))));(try simp only[Act.put,ArO,ArP,ArQ]))
       refine InText.end_ λw4 hb4=>?_
       have HF4:=hid (FY.out.trans (hb4.mono FY.out.size))
       clear hb4
       go_wp2
       go_ret
       exact⟨by rw[<-HN.out] <;> rfl,HF4.out⟩
     | false =>
       refine aS (λW=>Below w3.heap.size w3 W) (by kernel_rfl) (by kernel_rfl) (AtB w3).drew ?_
       repeat ((first
        | refine InText.dead ?_
        | (refine InText.val (v:=?_) ?_ ?_;rotate_left;(focus (intro W hW;obtain⟨⟨p0,p1,p2,p3,p4,p5⟩,q0,q1,q2,q3,q4,q5,q6,q7,q8⟩:=KX.out W hW;have y0:=KY.out W hW;go_simp;(try with_reducible rfl);done)))
        | (refine InText.call (v:=?_) (f:=?_) (args:=?_) ?_ ?_ ?_;rotate_left 3;(focus (intro W hW;go_simp;constructor;with_reducible rfl;with_reducible rfl));(focus (exact CF.out))));(try simp only[Act.put,ArO,ArP,ArQ]))
       refine InText.end_ λw4 hb4=>?_
       have HB4:=hid (Y.out.trans (hb4.mono Y.out.size))
       have HF4:=hid (FY.out.trans (hb4.mono FY.out.size))
       clear hb4
       cases z with
       | true =>
         have HT:=hid (show Tb.ups (Tb.routeOk t) (k+1) t.routes.length=q from by have:=HP.out;rw[HK2.out,HZE.out] at this;exact this)
         clear HP HK2 HZE
         go_wp2
         go_roundw
         case rel=>exact⟨k+1,by omega,by go_num,HT.out,HB4.out⟩
         case measure=>simp[intOf];omega
       | false =>
         have HN:=hid (show false=q from by have:=HP.out;rw[HK2.out] at this;exact this)
         clear HP HK2 HZE
         go_wp2
         go_ret
         exact⟨by rw[<-HN.out] <;> rfl,HF4.out⟩
  obtain rfl:j=t.routes.length:=by omega
  have d1:decide ((t.routes.length:Int)<(t.routes.length:Int))=false:=aB (by omega)
  rw[Tb.ups_end] at hp
  have HN:=hid hp
  clear hp hb
  go_wp2
  go_ret
  exact⟨by rw[<-HN.out] <;> rfl,HX.out⟩
 --]
structure Tb.Bound (t:Tb.Table):Prop where
 names:t.names.length<=1000000
 points:t.points.length<=1000000
 sigs:t.sigs.length<=1000000
 routes:t.routes.length<=1000000
 name:∀ x∈t.names,x.length<=1000000
 sig:∀ x∈t.sigs,x.length<=1000000
 route:∀ r∈t.routes,Tb.Few r
 bar:∀ x∈t.bars,x.length<=1000000
 bars:t.bars.length<=1000000
theorem Tb.Few.tiny {r:Rt.Route} (h:Tb.Few r):Cl.Tiny r:=⟨h.1,h.2.1,h.2.2.1⟩
end Go.Proofs.YtjofpclmbjpgjaaGreat
