/- Lemmas. -/
import Derived.Test.YtjofpclmbjpgjaaGreatMk28
set_option maxHeartbeats 16000000
set_option maxRecDepth 100000
namespace Go.Proofs.YtjofpclmbjpgjaaGreat
open Lib (hid)
open Go.RowKit
theorem OneIs.keep {f:FuncId} {args:Array Value} {v:Value} {w0:World} (h:∀ W,Below w0.heap.size w0 W->Calls Tryz.prog f args W (OneIs v W)):∀ W,Below w0.heap.size w0 W->Calls Tryz.prog f args W λe w'=>e=.returned v/\Below w0.heap.size w0 w' :=
 λW hW=>(h W hW).mono λ_ _ h=>⟨h.1,hW.trans (h.2.mono hW.size)⟩
theorem eB {f:FuncId} {args:Array Value} {v:Value} {w0:World} (h:∀ W,Calls Tryz.prog f args W λe w'=>e=.returned v/\w'=W):∀ W,Below w0.heap.size w0 W->Calls Tryz.prog f args W λe w'=>e=.returned v/\Below w0.heap.size w0 w' :=
 λW hW=>(h W).mono λ_ _ h=>⟨h.1,by rw[h.2];exact hW⟩
theorem AcL (A:Option Addr) (c:Nat) (L:List Wk.Stp) (n:Nat) (hn:L.length=n) (s:Int) (w:World) (h:aE.Row w A L) (hl:n<=1000000) :
 Calls Tryz.prog 98 #[.slice A n c,.int .i64 s] w (OneIs (.bool (Wk.within L s)) w):=by
 subst hn
 exact bG A c L s w h hl
theorem fZ (m:TableM) (A:Option Addr) (c:Nat) (l:List Wk.Stp) (w:World) (h1:LBo.Row w m.A1 m.t.points) (hpn:m.t.points.length=m.t.names.length) (h:aE.Row w A l) (hl:l.length<=1000000) (hc:l.length<=c) :
 Calls Tryz.prog 92 #[tbV m,.slice A l.length c] w (OneIs (.bool (Tb.stepsOk m.t.points l [])) w):=by
 --[
 have XX:=(AtB w).alloc (ArR _) (tbO m)
 have X:=hid XX
 have HR:=hid (h.below rfl XX)
 have HP1:=hid (h1.below rfl XX)
 have RP:=hid (AsW w (tbO m))
 have HPN:=hid hpn
 have HC:=hid hc
 rw[<-Tb.passes_eq]
 have hy:decide (16<l.length)=decide (16<(l.length:Int)):=by congr 1;rw[eq_iff_iff];omega
 have V:=hid (show Tb.passes m.t.points l=(!decide (16<(l.length:Int)) && Tb.ups (Tb.passOk m.t.points l) 0 l.length) from by
  unfold Tb.passes
  by_cases h16:16<(l.length:Int)
  ·rw[decide_eq_true h16,decide_eq_false (p:=(l.length:Int)<=16) (by omega)];rfl
  rw[decide_eq_false h16,decide_eq_true (p:=(l.length:Int)<=16) (by omega)];rfl)
 rw[V.out]
 clear V h h1 XX hpn hc
 generalize hz0:decide (16<(l.length:Int))=z0 at hy ⊢
 generalize hq:Tb.ups (Tb.passOk m.t.points l) 0 l.length=q
 have HQ:=hid hq
 clear hq
 go_enter Tryz.func92,Tryz.ntmps92
 go_upto_region 1 with fail
 generalize w.alloc (tbO m)=w1 at X HR HP1 RP ⊢
 generalize hg:w.heap.size=g at RP ⊢
 have gl:=(cA RP.out).2
 have KB:=hid (λW (hW:Below w1.heap.size w1 W)=>AsG (cA ((hW.block _ gl).trans RP.out)).1.1 (cA ((hW.block _ gl).trans RP.out)).1.2.1)
 have B0:=hid (AtB w1)
 clear gl hg
 cases z0 with
 | true =>
   go_wp2
   go_ret
   exact⟨rfl,X.out⟩
 | false =>
 go_wp2_with fail
 clear hz0 hy
 go_loopw [5,6,12] (λ_ _ v w'=>∃ j:Nat,j<=l.length/\v=.int .i64 j/\Tb.ups (Tb.passOk m.t.points l) j l.length=q/\Below w1.heap.size w1 w') (λ_ _ v _=>l.length-(intOf v).toNat)
 case atStart=>exact⟨0,AsD _,rfl,HQ.out,B0.out⟩
 case round =>
  clear HQ
  obtain⟨j,hj,rfl,hp,hb⟩:=hrel
  have HB:=hid (X.out.trans (hb.mono X.out.size))
  have HB1:=hid hb
  by_cases hlt:j<l.length
  ·obtain⟨d1,j0,j1⟩:=ArK (show j<l.length by omega)
   have j2:(j:Int)<=(c:Int):=by have:=HC.out;omega
   have j3:(j:Int)<=(l.length:Int):=by omega
   have j4:¬ c=0:=by have:=HC.out;omega
   have j5:¬ c=j:=by have:=HC.out;omega
   rw[Tb.ups_step _ hlt] at hp
   have HP:=hid hp
   have hx:=ArN hlt
   have HTW:=hid (Lies.Row.take aE (HR.out) j)
   have HTL:=hid (show (l.take j).length=j from by rw[AsU];omega)
   obtain⟨b,o,rfl,hbb,on⟩:=(HR.out.below rfl hb).at hlt
   have HK:=hid (show Tb.passOk m.t.points l j=(Tb.isIn l[j].s m.t.names.length && !Wk.within (l.take j) l[j].s && Tb.throughOk (m.t.points.getD l[j].s.toNat false) l[j]) from by
    unfold Tb.passOk
    rw[Tb.getD_at hx,HPN.out])
   generalize l[j]=x at hx on HK
   generalize l.take j=lt at HTW HTL HK
   obtain⟨xs,xf,xt⟩:=x
   obtain⟨c0,c1,c2⟩:=bL on
   rw[show j*aE.m=j*3 from rfl] at c0 c1 c2
   simp only at c0 c1 c2 HK
   have Y0:=(AtB wr).alloc (ArR _) (jB ⟨xs,xf,xt⟩)
   have RY:=hid (AsW wr (jB ⟨xs,xf,xt⟩))
   have Y:=hid (hb.trans (Y0.mono hb.size))
   clear hb hp on hbb Y0 hx
   go_upto_region 6 with fail
   generalize wr.alloc (jB ⟨xs,xf,xt⟩)=w3 at RY Y ⊢
   generalize wr.heap.size=gy at RY ⊢
   have gly:=(ArL RY.out).1
   have HB3:=hid Y.out
   have FY:=hid (X.out.trans (Y.out.mono X.out.size))
   have KX:=hid (λW (hW:Below w3.heap.size w3 W)=>show W.cell? ⟨gy,0,none⟩=some (.int .i64 xs)/\W.cell? ⟨gy,1,none⟩=some (.int .i64 xf)/\W.cell? ⟨gy,2,none⟩=some (.int .i64 xt) from
    ⟨AsY _ gy 0 _ _ _ ((hW.block _ gly).trans RY.out),AsY _ gy 1 _ _ _ ((hW.block _ gly).trans RY.out),AsY _ gy 2 _ _ _ ((hW.block _ gly).trans RY.out)⟩)
   have KT:=hid (λW (hW:Below w3.heap.size w3 W)=>KB.out _ (Y.out.trans (hW.mono Y.out.size)))
   have CI:=hid (eB (w0:=w3) λW=>yP xs m.t.names.length W)
   have CW:=hid (OneIs.keep (w0:=w3) λW hW=>AcL (some ⟨b,o,none⟩) c lt j HTL.out xs W ((HTW.out.below rfl Y.out).below rfl hW) (by omega))
   have CT:=hid (OneIs.keep (w0:=w3) λW hW=>AcI ⟨xs,xf,xt⟩ (m.t.points.getD xs.toNat false) W)
   generalize hz1:Tb.isIn xs m.t.names.length=z1 at CI HK
   generalize Wk.within lt xs=z2 at CW HK
   generalize hz3:Tb.throughOk (m.t.points.getD xs.toNat false) ⟨xs,xf,xt⟩=z3 at CT HK
   clear c0 c1 c2 gly hz3
   cases z1 with
   | false =>
     have HF:=hid (show false=q from by have:=HP.out;rw[HK.out] at this;exact this)
     clear HP HK CW CT hz1
     refine aS (λW=>Below w3.heap.size w3 W) (by kernel_rfl) (by kernel_rfl) (AtB w3).drew ?_
     repeat ((first
      | refine InText.dead ?_
      | (refine InText.val (v:=?_) ?_ ?_;rotate_left;(focus (intro W hW;obtain⟨s0,s1,s2⟩:=KX.out W hW;obtain⟨t0,t1⟩:=KT.out W hW;go_simp;(try with_reducible rfl);done)))
      | (refine InText.call (v:=?_) (f:=?_) (args:=?_) ?_ ?_ ?_;rotate_left 3;(focus (intro W hW;go_simp;constructor;with_reducible rfl;with_reducible rfl));(focus (exact CI.out))));(try simp only[Act.put,ArO,ArP,ArQ]))
     refine InText.end_ λw4 hb4=>?_
     have HF4:=hid (FY.out.trans (hb4.mono FY.out.size))
     clear hb4
     go_wp2
     go_ret
     exact⟨by rw[<-HF.out] <;> rfl,HF4.out⟩
   | true =>
     obtain⟨h0,h1⟩:=Tb.isIn_iff.1 hz1
     obtain⟨k,rfl⟩:∃ k:Nat,xs=(k:Int):=⟨xs.toNat,by omega⟩
     have hkp:k<m.t.points.length:=by have:=HPN.out;omega
     have k0:(0:Int)<=(k:Int):=ArT k
     have k1:(k:Int)<(m.t.points.length:Int):=by omega
     obtain⟨bp,op,hA1,hbp,cp1⟩:=yI (HP1.out.below rfl Y.out) hkp
     have KQ:=hid (λW (hW:Below w3.heap.size w3 W)=>show W.cell? ⟨g,1,none⟩=some (.slice (some ⟨bp,op,none⟩) m.t.points.length m.c1)/\W.cell? ⟨bp,op+k,none⟩=some (.bool (m.t.points.getD k false)) from
      ⟨by have:=(KT.out W hW).2;rw[hA1] at this;exact this,(hW.cell (p:=⟨bp,op+k,none⟩) hbp).trans cp1⟩)
     rw[AsP] at CT
     generalize m.t.points.getD k false=pt at CT KQ
     clear hz1 h0 h1 hA1 cp1 hbp
     cases z2 with
     | true =>
       have HF:=hid (show false=q from by have:=HP.out;rw[HK.out] at this;exact this)
       clear HP HK CT
       refine aS (λW=>Below w3.heap.size w3 W) (by kernel_rfl) (by kernel_rfl) (AtB w3).drew ?_
       repeat ((first
        | refine InText.dead ?_
        | (refine InText.val (v:=?_) ?_ ?_;rotate_left;(focus (intro W hW;obtain⟨s0,s1,s2⟩:=KX.out W hW;obtain⟨t0,t1⟩:=KT.out W hW;go_simp;(try with_reducible rfl);done)))
        | (refine InText.call (v:=?_) (f:=?_) (args:=?_) ?_ ?_ ?_;rotate_left 3;(focus (intro W hW;go_simp;constructor;with_reducible rfl;with_reducible rfl));(focus (first|exact CI.out|exact CW.out))));(try simp only[Act.put,ArO,ArP,ArQ]))
       refine InText.end_ λw4 hb4=>?_
       have HF4:=hid (FY.out.trans (hb4.mono FY.out.size))
       clear hb4
       go_wp2
       go_ret
       exact⟨by rw[<-HF.out] <;> rfl,HF4.out⟩
     | false =>
       refine aS (λW=>Below w3.heap.size w3 W) (by kernel_rfl) (by kernel_rfl) (AtB w3).drew ?_
       repeat ((first
        | refine InText.dead ?_
        | (refine InText.val (v:=?_) ?_ ?_;rotate_left;(focus (intro W hW;obtain⟨s0,s1,s2⟩:=KX.out W hW;obtain⟨t0,-⟩:=KT.out W hW;obtain⟨t1,t2⟩:=KQ.out W hW;go_simp;(try with_reducible rfl);done)))
        | (refine InText.call (v:=?_) (f:=?_) (args:=?_) ?_ ?_ ?_;rotate_left 3;(focus (intro W hW;go_simp;constructor;with_reducible rfl;with_reducible rfl));(focus (first|exact CI.out|exact CW.out|exact CT.out))));(try simp only[Act.put,ArO,ArP,ArQ]))
       refine InText.end_ λw4 hb4=>?_
       have HF4:=hid (FY.out.trans (hb4.mono FY.out.size))
       have HB4:=hid (HB3.out.trans (hb4.mono HB3.out.size))
       clear hb4
       cases z3 with
       | false =>
         have HF:=hid (show false=q from by have:=HP.out;rw[HK.out] at this;exact this)
         clear HP HK
         go_wp2
         go_ret
         exact⟨by rw[<-HF.out] <;> rfl,HF4.out⟩
       | true =>
         have HT:=hid (show Tb.ups (Tb.passOk m.t.points l) (j+1) l.length=q from by have:=HP.out;rw[HK.out] at this;exact this)
         clear HP HK
         go_wp2
         go_roundw
         case rel=>exact⟨j+1,by omega,by go_num,HT.out,HB4.out⟩
         case measure=>simp[intOf];omega
  obtain rfl:j=l.length:=by omega
  have d1:decide ((l.length:Int)<(l.length:Int))=false:=aB (by omega)
  rw[Tb.ups_end] at hp
  have HF:=hid hp
  clear hp hb
  go_wp2
  go_ret
  exact⟨by rw[<-HF.out] <;> rfl,HB.out⟩
 --]
theorem mX (m:TableM) (m':RouteM) (w:World) (h1:LBo.Row w m.A1 m.t.points) (hpn:m.t.points.length=m.t.names.length) (h:PartsIn w m') (hf:Tb.Few m'.r) :
 Calls Tryz.prog 61 #[tbV m,rtV m'] w (OneIs (.bool (Tb.fits m.t m'.r)) w):=by
 --[
 obtain⟨R1,R2,XX⟩:=eN w (tbO m) (rtO m')
 have X:=hid XX
 have P:=hid (h.below XX)
 have HP1:=hid (h1.below rfl XX)
 have V:=hid (show Tb.fits m.t m'.r=(Tb.isIn m'.r.entry m.t.sigs.length && ((m'.r.exit == -1) || Tb.isIn m'.r.exit m.t.sigs.length) && decide (0<(m'.r.steps.length:Int)) && Tb.stepsOk m.t.points m'.r.steps [] && Tb.stepsOk m.t.points m'.r.lap [] && (!m'.r.steps.any λx=>Wk.within m'.r.lap x.s) && Tb.demandsOk m.t.points m'.r.pts && Tb.asksOk m.t.points m'.r.pts m'.r.steps && Tb.asksOk m.t.points m'.r.pts m'.r.lap && Tb.risingOk m'.r.fl m.t.sigs.length && Tb.risingOk m'.r.near m.t.names.length && Tb.upTo m'.r.dist 281474976710655 && Tb.upTo m'.r.timer 4294967295) from by
  rw[<-Tb.possible_eq]
  unfold Tb.possible
  rw[Tb.asked_eq,Tb.places_eq,Tb.places_eq,Tb.passes_eq,Tb.passes_eq])
 have C1:=hid (eB (w0:=((w.alloc (tbO m)).alloc (rtO m'))) λW=>yP m'.r.entry m.t.sigs.length W)
 have C3:=hid (eB (w0:=((w.alloc (tbO m)).alloc (rtO m'))) λW=>yP m'.r.exit m.t.sigs.length W)
 have C5:=hid (OneIs.keep (w0:=((w.alloc (tbO m)).alloc (rtO m'))) λW hW=>fZ m m'.A1 m'.c1 m'.r.steps W (HP1.out.below rfl hW) hpn (P.out.p1.below rfl hW) hf.1 P.out.q.1)
 have C6:=hid (OneIs.keep (w0:=((w.alloc (tbO m)).alloc (rtO m'))) λW hW=>fZ m m'.A2 m'.c2 m'.r.lap W (HP1.out.below rfl hW) hpn (P.out.p2.below rfl hW) hf.2.1 P.out.q.2)
 have C7:=hid (OneIs.keep (w0:=((w.alloc (tbO m)).alloc (rtO m'))) λW hW=>uW m'.A1 m'.c1 m'.r.steps m'.A2 m'.c2 m'.r.lap W (P.out.p1.below rfl hW) hf.1 (P.out.p2.below rfl hW) hf.2.1)
 have C8:=hid (OneIs.keep (w0:=((w.alloc (tbO m)).alloc (rtO m'))) λW hW=>vA m m'.A3 m'.c3 m'.r.pts W (HP1.out.below rfl hW) hpn (P.out.p3.below rfl hW) hf.2.2.1)
 have C9:=hid (λ(hin:∀ x∈m'.r.steps,0<=x.s/\x.s<(m.t.points.length:Int))=>OneIs.keep (w0:=((w.alloc (tbO m)).alloc (rtO m'))) λW hW=>mI m m'.A3 m'.c3 m'.r.pts m'.A1 m'.c1 m'.r.steps W (HP1.out.below rfl hW) (P.out.p3.below rfl hW) hf.2.2.1 (P.out.p1.below rfl hW) hf.1 hin)
 have C10:=hid (λ(hin:∀ x∈m'.r.lap,0<=x.s/\x.s<(m.t.points.length:Int))=>OneIs.keep (w0:=((w.alloc (tbO m)).alloc (rtO m'))) λW hW=>mI m m'.A3 m'.c3 m'.r.pts m'.A2 m'.c2 m'.r.lap W (HP1.out.below rfl hW) (P.out.p3.below rfl hW) hf.2.2.1 (P.out.p2.below rfl hW) hf.2.1 hin)
 have C11:=hid (OneIs.keep (w0:=((w.alloc (tbO m)).alloc (rtO m'))) λW hW=>iN m'.A4 m'.c4 m'.r.fl m.t.sigs.length W (P.out.p4.below rfl hW) hf.2.2.2.1)
 have C12:=hid (OneIs.keep (w0:=((w.alloc (tbO m)).alloc (rtO m'))) λW hW=>iN m'.A5 m'.c5 m'.r.near m.t.names.length W (P.out.p5.below rfl hW) hf.2.2.2.2)
 have C13:=hid (eB (w0:=((w.alloc (tbO m)).alloc (rtO m'))) λW=>lJ m'.r.dist 281474976710655 W)
 have C14:=hid (eB (w0:=((w.alloc (tbO m)).alloc (rtO m'))) λW=>lJ m'.r.timer 4294967295 W)
 rw[V.out]
 clear V
 generalize hz1:Tb.isIn m'.r.entry m.t.sigs.length=z1 at C1 ⊢
 clear hz1
 generalize hz2:(m'.r.exit == -1)=z2
 generalize hz3:Tb.isIn m'.r.exit m.t.sigs.length=z3 at C3 ⊢
 clear hz3
 have hy4:decide (0<m'.r.steps.length)=decide (0<(m'.r.steps.length:Int)):=by congr 1;rw[eq_iff_iff];omega
 generalize hz4:decide (0<(m'.r.steps.length:Int))=z4 at hy4 ⊢
 generalize hz5:Tb.stepsOk m.t.points m'.r.steps []=z5 at C5 ⊢
 have HZ5:=hid hz5
 clear hz5
 generalize hz6:Tb.stepsOk m.t.points m'.r.lap []=z6 at C6 ⊢
 have HZ6:=hid hz6
 clear hz6
 generalize hz7:(!m'.r.steps.any λx=>Wk.within m'.r.lap x.s)=z7 at C7 ⊢
 clear hz7
 generalize hz8:Tb.demandsOk m.t.points m'.r.pts=z8 at C8 ⊢
 clear hz8
 generalize hz9:Tb.asksOk m.t.points m'.r.pts m'.r.steps=z9 at C9 ⊢
 clear hz9
 generalize hz10:Tb.asksOk m.t.points m'.r.pts m'.r.lap=z10 at C10 ⊢
 clear hz10
 generalize hz11:Tb.risingOk m'.r.fl m.t.sigs.length=z11 at C11 ⊢
 clear hz11
 generalize hz12:Tb.risingOk m'.r.near m.t.names.length=z12 at C12 ⊢
 clear hz12
 generalize hz13:Tb.upTo m'.r.dist 281474976710655=z13 at C13 ⊢
 clear hz13
 generalize hz14:Tb.upTo m'.r.timer 4294967295=z14 at C14 ⊢
 clear hz14
 obtain⟨ze,hze⟩:∃ ze,(z2 || z3)=ze:=⟨_,rfl⟩
 rw[hze]
 clear h h1 XX hpn hf
 go_enter Tryz.func61,Tryz.ntmps61
 go_upto_region 1 with fail
 generalize (w.alloc (tbO m)).alloc (rtO m')=w2 at X R1 R2 P HP1 C1 C3 C5 C6 C7 C8 C9 C10 C11 C12 C13 C14 ⊢
 generalize w.heap.size+1=g2 at R2 ⊢
 generalize hg:w.heap.size=g at R1 ⊢
 have gx:=(cA R1).2
 have gy:=(row9 R2).2.2
 have K:=hid (λW (hW:Below w2.heap.size w2 W)=>AsG (cA ((hW.block _ gx).trans R1)).1 (row9 ((hW.block _ gy).trans R2)).1)
 clear hg R1 R2 gx gy P HP1
 refine aS (λW=>Below w2.heap.size w2 W) (by kernel_rfl) (by kernel_rfl) (AtB w2).drew ?_
 repeat ((first
  | refine InText.dead ?_
  | (refine InText.val (v:=?_) ?_ ?_;rotate_left;(focus (intro W hW;first|(go_simp;(try with_reducible rfl);done)|(obtain⟨⟨p0,p1,p2,p3,p4,p5⟩,q0,q1,q2,q3,q4,q5,q6,q7,q8⟩:=K.out W hW;go_simp;(try with_reducible rfl);done)))));(try simp only[Act.put,ArO,ArP,ArQ]))
 refine InText.end_ λw3 hb3=>?_
 go_upto_region 2 with fail
 dsimp only[List.append]
 refine dO (λW=>Below w2.heap.size w2 W) hb3 ?_
 clear hb3
 repeat ((first
  | refine InText.dead ?_
  | (refine InText.val (v:=?_) ?_ ?_;rotate_left;(focus (intro W hW;first|(go_simp;(try with_reducible rfl);done)|(obtain⟨⟨p0,p1,p2,p3,p4,p5⟩,q0,q1,q2,q3,q4,q5,q6,q7,q8⟩:=K.out W hW;go_simp;(try with_reducible rfl);done))))
  | (refine InText.call (v:=?_) (f:=?_) (args:=?_) ?_ ?_ ?_;rotate_left 3;(focus (intro W hW;go_simp;constructor;with_reducible rfl;with_reducible rfl));(focus (exact C1.out))));(try simp only[Act.put,ArO,ArP,ArQ]))
 cases z1 with
 | false =>
   repeat ((first
    | refine InText.dead ?_
    | (refine InText.val (v:=?_) ?_ ?_;rotate_left;(focus (intro W hW;first|(go_simp;(try with_reducible rfl);done)|(obtain⟨⟨p0,p1,p2,p3,p4,p5⟩,q0,q1,q2,q3,q4,q5,q6,q7,q8⟩:=K.out W hW;go_simp;(try with_reducible rfl);done)))));(try simp only[Act.put,ArO,ArP,ArQ]))
   refine InText.end_ λw4 hb4=>?_
   have F4:=hid (X.out.trans (hb4.mono X.out.size))
   clear hb4
   go_wp2
   go_ret
   exact⟨rfl,F4.out⟩
 | true =>
 repeat ((first
  | refine InText.dead ?_
  | (refine InText.val (v:=?_) ?_ ?_;rotate_left;(focus (intro W hW;first|(go_simp;(try with_reducible rfl);done)|(obtain⟨⟨p0,p1,p2,p3,p4,p5⟩,q0,q1,q2,q3,q4,q5,q6,q7,q8⟩:=K.out W hW;go_simp;(try with_reducible rfl);done)))));(try simp only[Act.put,ArO,ArP,ArQ]))
 (refine⟨bif z2 then undef else .pointer (some ⟨g2,1,none⟩),?_,?_⟩;(focus (cases z2 with|true=>exact .dead rfl rfl|false=>exact .val rfl λW hW=>by go_simp));(try simp only[Act.put,ArO,ArP,ArQ]))
 (refine⟨bif z2 then undef else .int .i64 m'.r.exit,?_,?_⟩;(focus (cases z2 with|true=>exact .dead rfl rfl|false=>exact .val rfl λW hW=>by (obtain⟨⟨p0,p1,p2,p3,p4,p5⟩,q0,q1,q2,q3,q4,q5,q6,q7,q8⟩:=K.out W hW;go_simp)));(try simp only[Act.put,ArO,ArP,ArQ]))
 (refine⟨bif z2 then undef else .int .i64 m.t.sigs.length,?_,?_⟩;(focus (cases z2 with|true=>exact .dead rfl rfl|false=>exact .val rfl λW hW=>by go_simp));(try simp only[Act.put,ArO,ArP,ArQ]))
 (refine⟨bif z2 then undef else .bool z3,?_,?_⟩;(focus (cases z2 with|true=>exact .dead rfl rfl|false=>exact .call rfl 91 #[.int .i64 m'.r.exit,.int .i64 m.t.sigs.length] (λW hW=>by go_simp) C3.out));(try simp only[Act.put,ArO,ArP,ArQ]))
 (refine⟨.bool ze,?_,?_⟩;(focus (subst hze;cases z2 with|true=>exact .val rfl λW hW=>by go_simp|false=>exact .val rfl λW hW=>by go_simp));(try simp only[Act.put,ArO,ArP,ArQ]))
 clear hze C3
 repeat' ((first
  | refine InText.dead ?_
  | (refine InText.val (v:=?_) ?_ ?_;rotate_left;(focus (intro W hW;first|(go_simp;(try with_reducible rfl);done)|(obtain⟨⟨p0,p1,p2,p3,p4,p5⟩,q0,q1,q2,q3,q4,q5,q6,q7,q8⟩:=K.out W hW;go_simp;(try with_reducible rfl);done))))
  | (refine InText.call (v:=?_) (f:=?_) (args:=?_) ?_ ?_ ?_;rotate_left 3;(focus (intro W hW;go_simp;constructor;with_reducible rfl;with_reducible rfl));(focus (first|with_reducible exact C5.out|with_reducible exact C6.out|with_reducible exact C7.out|with_reducible exact C8.out|with_reducible exact C9.out (Tb.steps_in HZ5.out)|with_reducible exact C10.out (Tb.steps_in HZ6.out)|with_reducible exact C11.out|with_reducible exact C12.out|with_reducible exact C13.out|with_reducible exact C14.out)))
  | (refine InText.end_ λw4 hb4=>?_;have F4:=hid (X.out.trans (hb4.mono X.out.size));clear hb4;go_wp2_with fail;go_ret;exact⟨rfl,F4.out⟩)
  | cases ze|cases z4|cases z5|cases z6|cases z7|cases z8|cases z9|cases z10|cases z11|cases z12|cases z13|cases z14);(try simp only[Act.put,ArO,ArP,ArQ]))
 --]
theorem AmH (x:Wk.Stp) (A:Option Addr) (c:Nat) (M:List Wk.Stp) (g:Nat) (W:World) (hg:g<W.heap.size) (hc:W.cell? ⟨g,0,none⟩=some (.slice A M.length c)) (hM:aE.Row W A M) (hl:M.length<=1000000) :
 Calls Tryz.prog 145 #[jX x,.pointer (some ⟨g,0,none⟩)] W λe w'=>e=.returned (.bool (Wk.within M x.s))/\Below W.heap.size W w':=by
 --[
 obtain⟨a,b,d⟩:=x
 have hne:g≠W.heap.size:=by omega
 have XX:=(AtB W).alloc (ArR _) (jB ⟨a,b,d⟩)
 have X:=hid XX
 have C:=hid (bG A c M a _ (hM.below rfl XX) hl)
 clear hM XX
 show Calls Tryz.prog 145 #[.agg #[.int .i64 a,.int .i64 b,.int .i64 d],.pointer (some ⟨g,0,none⟩)] W λe w'=>e=.returned (.bool (Wk.within M a))/\Below W.heap.size W w'
 generalize Wk.within M a=z at C ⊢
 go_enter Tryz.func145,Tryz.ntmps145
 go_wp2_with fail
 refine C.out.mono ?_;rintro e w2 ⟨rfl,hb2⟩
 have XF:=hid (X.out.trans (hb2.mono X.out.size))
 clear hb2 C X
 go_wp2
 go_ret
 exact⟨rfl,XF.out⟩
 --]
theorem yR (A:Option Addr) (c:Nat) (L:List Wk.Stp) (q:Wk.Stp->Bool) (g:Nat) (w:World) (h:aE.Row w A L) (hl:L.length<=1000000)
 (hq:∀ x W,Below w.heap.size w W->Calls Tryz.prog 145 #[jX x,.pointer (some ⟨g,0,none⟩)] W λe w'=>e=.returned (.bool (q x))/\Below W.heap.size W w') :
 Calls Tryz.prog 152 #[.slice A L.length c,.func (.func 145) #[] #[.pointer (some ⟨g,0,none⟩)]] w (xQ (L.any q) w):=by
 --[
 have eg:∀ args w,(callFunc 145 args).run Tryz.prog w=.ok (.enter 145 args) w:=enters_of Tryz.func145 (by kernel_rfl) rfl
 have IA:=hid h
 have CL:=hid hq
 clear h hq
 go_enter Tryz.func152,Tryz.ntmps152
 go_wp2
 go_loopg [5,8] L.length (λgg _ s8 wr=>∃ k:Nat,k<=L.length/\L.length-k<=gg/\s8=.int .i64 k/\Below w.heap.size w wr/\∀ j<k,∀ t,L[j]?=some t->q t=false)
 case atStart=>exact⟨0,AsD _,by omega,rfl,Below.refl _ w,λj hj=>absurd hj (Nat.not_lt_zero _)⟩
 case round =>
  obtain⟨k,hk,hgg,rfl,hB,h0⟩:=hrel
  have HB:=hid hB
  have H0:=hid h0
  clear hB h0
  by_cases hlt:k<L.length
  ·have d1:decide ((k:Int)<(L.length:Int))=true:=aC (by omega)
   have hx:=ArN hlt
   obtain⟨b,o,rfl,hb,on⟩:=(IA.out.below rfl HB.out).at hlt
   generalize L[k]=x at hx on
   obtain⟨a0,a1,a2⟩:=bL on
   rw[show k*aE.m=k*3 from rfl] at a0 a1 a2
   have HX:=hid hx
   have CX:=hid (CL.out x wr HB.out)
   clear on hx
   cases h1:q x with
   | true =>
     rw[h1] at CX
     have P:=hid (show L.any q=true from List.any_eq_true.2 ⟨x,ArX HX.out,h1⟩)
     clear h1
     go_wp2_with (go_at_fn 145;refine CX.out.mono ?_;rintro e w' ⟨rfl,hb'⟩;have HB2:=hid (HB.out.trans (hb'.mono HB.out.size));clear hb')
     go_ret
     exact⟨(k:Int),rfl,(λ_=>aC (by omega)),(λh=>absurd (P.out.symm.trans h) (by decide)),HB2.out⟩
   | false =>
     rw[h1] at CX
     have N:=hid (λj (hj:j<k+1) t (ht:L[j]?=some t)=>(show q t=false from by
      by_cases hjk:j=k
      ·subst hjk
       rw[HX.out] at ht
       cases ht
       exact h1
      exact H0.out j (by omega) t ht))
     clear h1
     go_wp2_with (go_at_fn 145;refine CX.out.mono ?_;rintro e w' ⟨rfl,hb'⟩;have HB2:=hid (HB.out.trans (hb'.mono HB.out.size));clear hb')
     go_roundg (L.length-(k+1))
     case measure=>omega
     case rel=>exact⟨k+1,by omega,by omega,by go_num,HB2.out,N.out⟩
  obtain rfl:k=L.length:=by omega
  have P:=hid (show L.any q=false from by
   rw[List.any_eq_false]
   intro x hx
   obtain⟨j,hj,rfl⟩:=List.getElem_of_mem hx
   rw[H0.out j hj _ (ArN hj)]
   decide)
  go_wp2
  go_ret
  exact⟨-1,rfl,(λh=>absurd (P.out.symm.trans h) (by decide)),(λ_=>rfl),HB.out⟩
 --]
theorem AhT (A:Option Addr) (c:Nat) (L:List Wk.Stp) (q:Wk.Stp->Bool) (g:Nat) (w:World) (h:aE.Row w A L) (hl:L.length<=1000000)
 (hq:∀ x W,Below w.heap.size w W->Calls Tryz.prog 145 #[jX x,.pointer (some ⟨g,0,none⟩)] W λe w'=>e=.returned (.bool (q x))/\Below W.heap.size W w') :
 Calls Tryz.prog 126 #[.slice A L.length c,.func (.func 145) #[] #[.pointer (some ⟨g,0,none⟩)]] w (OneIs (.bool (L.any q)) w):=by
 --[
 have HC:=hid (yR A c L q g w h hl hq)
 clear h hq
 generalize L.any q=z at HC ⊢
 go_enter Tryz.func126,Tryz.ntmps126
 go_wp2_with fail
 refine HC.out.mono ?_;rintro e w' ⟨i,rfl,h1,h2,hb'⟩
 have HB:=hid hb'
 clear hb' HC
 cases z with
 | true =>
   have D:=h1 rfl
   clear h1 h2
   go_wp2
   go_ret
   exact⟨rfl,HB.out⟩
 | false =>
   obtain rfl:=h2 rfl
   clear h1 h2
   go_wp2
   go_ret
   exact⟨rfl,HB.out⟩
 --]
theorem gP (A:Option Addr) (c:Nat) (L:List Wk.Stp) (A':Option Addr) (c':Nat) (M:List Wk.Stp) (w:World) (h:aE.Row w A L) (hl:L.length<=1000000) (h':aE.Row w A' M) (hl':M.length<=1000000) :
 Calls Tryz.prog 112 #[.slice A L.length c,.slice A' M.length c'] w (OneIs (.bool (Cl.share L M)) w):=by
 --[
 have hb0:=(AtB w).alloc (ArR _) (.cells #[.slice A' M.length c'] 86)
 have hcell:(w.alloc (.cells #[.slice A' M.length c'] 86)).cell? ⟨w.heap.size,0,none⟩=some (.slice A' M.length c'):=AsY _ _ 0 _ _ _ (AsW w (.cells #[.slice A' M.length c'] 86))
 have hsz:w.heap.size<(w.alloc (.cells #[.slice A' M.length c'] 86)).heap.size:=by simp
 have HC:=hid (AhT A c L (λx=>Wk.within M x.s) w.heap.size _ (h.below rfl hb0) hl λx W hW=>AmH x A' c' M w.heap.size W (AsE hsz hW.size) ((hW.cell (p:=⟨w.heap.size,0,none⟩) hsz).trans hcell) ((h'.below rfl hb0).below rfl hW) hl')
 have HB0:=hid hb0
 have V:=hid (show L.any (λx=>Wk.within M x.s)=Cl.share L M from rfl)
 clear h h' hb0 hcell hsz
 go_enter Tryz.func112,Tryz.ntmps112
 go_wp2_with fail
 refine HC.out.mono ?_;rintro e w' ⟨rfl,hb'⟩
 go_wp2
 go_ret
 exact⟨by rw[V.out] <;> rfl,HB0.out.trans (hb'.mono HB0.out.size)⟩
 --]
theorem AhU (A:Option Addr) (c:Nat) (L:List Dm.Dem) (A':Option Addr) (c':Nat) (M:List Dm.Dem) (w:World) (h:aJ.Row w A L) (hl:L.length<=1000000) (h':aJ.Row w A' M) (hl':M.length<=1000000) :
 Calls Tryz.prog 113 #[.slice A L.length c,.slice A' M.length c'] w (OneIs (.bool (Cl.opp L M)) w):=by
 --[
 have C1:=hid (iM A c L A' c' M w h hl h' hl')
 have C2:=hid (λW (hW:Below w.heap.size w W)=>iM A' c' M A c L W (h'.below rfl hW) hl' (h.below rfl hW) hl)
 show Calls Tryz.prog 113 #[.slice A L.length c,.slice A' M.length c'] w (OneIs (.bool (Dm.opposed L M || Dm.opposed M L)) w)
 clear h h'
 generalize Dm.opposed M L=z2 at C2 ⊢
 generalize Dm.opposed L M=z1 at C1 ⊢
 go_enter Tryz.func113,Tryz.ntmps113
 go_wp2_with fail
 refine C1.out.mono ?_;rintro e w1 ⟨rfl,hb1⟩
 have B1:=hid hb1
 clear hb1
 cases z1 with
 | true =>
   go_wp2
   go_ret
   exact⟨rfl,B1.out⟩
 | false =>
   go_wp2_with fail
   refine(C2.out _ B1.out).mono ?_;rintro e w2 ⟨rfl,hb2⟩
   have B2:=hid (B1.out.trans (hb2.mono B1.out.size))
   clear hb2 B1 C1 C2
   go_wp2
   go_ret
   exact⟨rfl,B2.out⟩
 --]
theorem yS (m m':RouteM) (w:World):Calls Tryz.prog 147 #[rtV m,rtV m'] w (OneIs (.bool (Cl.leads m.r m'.r)) w):=by
 --[
 obtain⟨A1,c1,A2,c2,A3,c3,A4,c4,A5,c5,⟨en,ex,ys,yl,yp,yf,yn,yd,yt⟩⟩:=m
 obtain⟨B1,d1,B2,d2,B3,d3,B4,d4,B5,d5,⟨en',ex',ys',yl',yp',yf',yn',yd',yt'⟩⟩:=m'
 show Calls Tryz.prog 147 #[.agg #[.int .i64 en,.int .i64 ex,.slice A1 ys.length c1,.slice A2 yl.length c2,.slice A3 yp.length c3,.slice A4 yf.length c4,.slice A5 yn.length c5,.int .i64 yd,.int .i64 yt],.agg #[.int .i64 en',.int .i64 ex',.slice B1 ys'.length d1,.slice B2 yl'.length d2,.slice B3 yp'.length d3,.slice B4 yf'.length d4,.slice B5 yn'.length d5,.int .i64 yd',.int .i64 yt']] w (OneIs (.bool (decide (0<=ex) && (ex == en'))) w)
 have XX:=((AtB w).alloc (ArR _) (.cells #[.int .i64 en,.int .i64 ex,.slice A1 ys.length c1,.slice A2 yl.length c2,.slice A3 yp.length c3,.slice A4 yf.length c4,.slice A5 yn.length c5,.int .i64 yd,.int .i64 yt] 92)).alloc (by simp) (.cells #[.int .i64 en',.int .i64 ex',.slice B1 ys'.length d1,.slice B2 yl'.length d2,.slice B3 yp'.length d3,.slice B4 yf'.length d4,.slice B5 yn'.length d5,.int .i64 yd',.int .i64 yt'] 92)
 have X:=hid XX
 clear XX
 by_cases h0:0<=ex
 ·have D0:decide (0<=ex)=true:=aC h0
  rw[D0,Bool.true_and]
  cases h1:(ex == en') with
  | true =>
    go_enter Tryz.func147,Tryz.ntmps147
    go_wp2
    go_ret
    exact⟨rfl,X.out⟩
  | false =>
    go_enter Tryz.func147,Tryz.ntmps147
    go_wp2
    go_ret
    exact⟨rfl,X.out⟩
 ·have D0:decide (0<=ex)=false:=aB h0
  rw[D0,Bool.false_and]
  clear h0
  go_enter Tryz.func147,Tryz.ntmps147
  go_wp2
  go_ret
  exact⟨rfl,X.out⟩
 --]
end Go.Proofs.YtjofpclmbjpgjaaGreat
