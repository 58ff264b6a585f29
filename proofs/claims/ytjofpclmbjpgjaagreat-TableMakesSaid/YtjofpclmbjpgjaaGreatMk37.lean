/- Lemmas. -/
import Derived.Test.YtjofpclmbjpgjaaGreatMk22
import Derived.Test.YtjofpclmbjpgjaaGreatMk36
set_option maxHeartbeats 16000000
set_option maxRecDepth 100000
namespace Go.Proofs.YtjofpclmbjpgjaaGreat
open Lib (hid)
open Go.RowKit
section
variable (p : Pl.Plan) (hf : Pl.Fit p) (hm : Lp.Meas p) (hap : 0 <= p.ap /\ p.ap <= 1125899906842624)
include hf hm hap
theorem AcZ (A:Option Addr) (c:Nat) (A':Option Addr) (c':Nat) (nm:List UInt8) (st:Nat × Nat) (h1:st.1<p.secs.length) (h2:st.2<3) (w:World) (hI:PlanIn w p A A') :
 Calls Tryz.prog 110 #[aR p A c A' c',.agg #[.string (txt nm),.int .i64 st.1,.int .i64 st.2]] w λr w'=>∃ (b:Nat) (T:List Int),r=.returned (.slice (some ⟨b,0,none⟩) p.secs.length p.secs.length)/\TabAt w' b T/\w.heap.size<=b/\Below w.heap.size w w'/\Nr.Full p p.ap st T:=by
 --[
 have XA:=(AtB w).alloc (ArR _) (aD p A c A' c')
 have XB:=hid (XA.alloc XA.size (.cells #[.string (txt nm),.int .i64 st.1,.int .i64 st.2] 58))
 have RP:=hid (AsW w (aD p A c A' c'))
 have gp:=(ArL RP.out).1
 have XS:=hid ((Below.refl (w.alloc (aD p A c A' c')).heap.size (w.alloc (aD p A c A' c'))).alloc (ArR _) (.cells #[.string (txt nm),.int .i64 st.1,.int .i64 st.2] 58))
 have RP1:=hid ((XS.out.block _ gp).trans RP.out)
 have RG:=hid (AsW (w.alloc (aD p A c A' c')) (.cells #[.string (txt nm),.int .i64 st.1,.int .i64 st.2] 58))
 have HI:=hid ((hI.below XA).below XS.out)
 have hfew:=hf.few
 have hn:1<=p.secs.length:=by omega
 clear XA hI gp RP XS
 go_enter Tryz.func110,Tryz.ntmps110
 go_upto_region 1 with fail
 rw[show (w.alloc (aD p A c A' c')).heap.size=w.heap.size+1 by simp] at RG
 generalize (w.alloc (aD p A c A' c')).alloc (.cells #[.string (txt nm),.int .i64 st.1,.int .i64 st.2] 58)=w2 at XB RP1 RG HI ⊢
 generalize hgq:w.heap.size=gq at RP1 RG XB ⊢
 have HGQ:=hid hgq
 clear hgq
 have gp:=(ArL RP1.out).1
 have gg:=(ArL RG.out).1
 obtain⟨⟨-,p1,-,-,p4,-⟩,-,-⟩:=row6 RP1.out
 have XN:=hid ((AtB w2).alloc (ArR _) (.cells #[.int .i64 p.ap,.int .i64 p.ap,.int .i64 p.ap] 170))
 have RN:=hid (AsW w2 (.cells #[.int .i64 p.ap,.int .i64 p.ap,.int .i64 p.ap] 170))
 have CR:=hid (vI p.ap w2.heap.size p.secs.length ⟨hn,hfew⟩ _ RN.out)
 have b3:=(XN.out.cell (p:=⟨gq,4,none⟩) gp).trans p4
 go_wp2_with fail
 refine CR.out.mono ?_;rintro e1 w4 ⟨rfl,hb4,ht4⟩
 have HB4:=hid (XN.out.trans (hb4.mono XN.out.size))
 have HT4:=hid ht4
 have HBS:=hid XN.out.size
 generalize (w2.alloc (.cells #[.int .i64 p.ap,.int .i64 p.ap,.int .i64 p.ap] 170)).heap.size=b at HT4 HBS ⊢
 clear p1 p4 b3 CR XN RN hb4 ht4
 have hs:=(row3 ((HB4.out.block _ gg).trans RG.out)).1
 obtain⟨-,s1,s2⟩:=hs
 have e0:(0:Int)<=(st.1:Int):=ArT _
 have e1:(st.1:Int)<(p.secs.length:Int):=by omega
 have e2:(0:Int)<=(st.2:Int):=ArT _
 have e3:(st.2:Int)<3:=by omega
 have c0:=HT4.out.cell (s:=st.1) (e:=st.2) (by rw[List.length_replicate];exact Nr.slot_lt h1 h2)
 have f0:=HT4.out.frozen (st.1*3+st.2)
 have HW5:=hid (show NrW w2 w2 (w4.setCell ⟨b,st.1*3+st.2,none⟩ (.int .i64 0)).drew b (Nr.bet (List.replicate (3*p.secs.length) p.ap) st 0) from
  ⟨HT4.out.set st.1 st.2 0,(HB4.out.setCell (p:=⟨b,st.1*3+st.2,none⟩) HBS.out _).drew,by show w2.heap.size<=(w4.setCell ⟨b,st.1*3+st.2,none⟩ (.int .i64 0)).heap.size;rw[World.size_setCell];exact HB4.out.size⟩)
 have HF:=hid (Nr.fair_start hap.1 h1 h2)
 go_upto_region 2 with fail
 go_cut [] from 21 to 27 (λw'=>w'=(w4.setCell ⟨b,st.1*3+st.2,none⟩ (.int .i64 0)).drew)
 case first =>
  --[
  go_region_with fail
  all_goals go_wp2_with fail
  all_goals go_meet
  all_goals rfl
  --]
 case rest =>
 obtain rfl:=hcut
 generalize (w4.setCell ⟨b,st.1*3+st.2,none⟩ (.int .i64 0)).drew=w5 at HW5 ⊢
 generalize Nr.bet (List.replicate (3*p.secs.length) p.ap) st 0=TS at HW5 HF
 clear s1 s2 c0 f0 HT4 HB4 e0 e1 e2 e3 RG gg
 have KP:=hid (λW (hW:Below w2.heap.size w2 W)=>(hW.block _ gp).trans RP1.out)
 go_wp2_with fail
 go_loopg [6,7,8] (Nr.mass TS+1) (λgg v6 _ _ w'=>∃ (more:Bool) (T:List Int),v6=.bool more/\NrW w2 w2 w' b T/\Nr.Fair p p.ap st T/\(more=false->∀ s e,s<p.secs.length->e<3->Nr.Fixed p T s e)/\Nr.mass T+(if more=true then 1 else 0)<=gg)
 case atStart=>exact⟨true,TS,rfl,HW5.out,HF.out,(λh=>by cases h),ArR _⟩
 case round =>
  obtain⟨more,T0,rfl,hw7,hs7,hc7,hg7⟩:=hrel
  have HW7:=hid hw7
  have HS7:=hid hs7
  have HC7:=hid hc7
  clear hw7 hs7 hc7
  cases more with
  | true =>
    rw[ArZ rfl] at hg7
    go_wp2_with fail
    go_loopw [6,7,8,31] (λv6 _ _ v31 w'=>∃ (s:Nat) (more:Bool) (T:List Int),s<=p.secs.length/\v6=.bool more/\v31=.int .i64 s/\NrW w2 w2 w' b T/\Nr.Gone p p.ap st T0 T more (∀ s' e',s'<s->e'<3->Nr.Fixed p T0 s' e')) (λ_ _ _ v31 _=>p.secs.length-(intOf v31).toNat)
    case atStart=>exact⟨0,false,T0,AsD _,rfl,rfl,HW7.out,⟨HS7.out,ArR _,(λh=>by cases h),λ_=>⟨rfl,λa _ ha=>absurd ha (Nat.not_lt_zero _)⟩⟩⟩
    case round =>
     obtain⟨s,more,T1,hs,rfl,rfl,hw8,hwe8⟩:=hrel
     have HW8:=hid hw8
     have WE8:=hid hwe8
     clear hw8 hwe8
     by_cases hsl:s<p.secs.length
     ·have d1 : decide ((s:Int)<(p.secs.length:Int))=true:=aC (by omega)
      have s0:(0:Int)<=(s:Int):=ArT s
      have s1:(s:Int)<(p.secs.length:Int):=by omega
      go_wp2_with fail
      go_loopw [6,8,34] (λv6 _ v34 w'=>∃ (e:Nat) (more:Bool) (T:List Int),e<=3/\v6=.bool more/\v34=.int .i64 e/\NrW w2 w2 w' b T/\Nr.Gone p p.ap st T0 T more ((∀ s' e',s'<s->e'<3->Nr.Fixed p T0 s' e')/\∀ e',e'<e->Nr.Fixed p T0 s e')) (λ_ _ v34 _=>3-(intOf v34).toNat)
      case atStart=>exact⟨0,more,T1,AsD _,rfl,rfl,HW8.out,WE8.out.next λ_ _ h=>⟨h,λe' he=>absurd he (Nat.not_lt_zero _)⟩⟩
      case round =>
       obtain⟨e,more2,T2,he,rfl,rfl,hw9,hwe9⟩:=hrel
       have HW9:=hid hw9
       have WE9:=hid hwe9
       clear hw9 hwe9
       by_cases hel:e<3
       ·have d2:decide ((e:Int)<3)=true:=aC (by omega)
        have t0:(0:Int)<=(e:Int):=ArT e
        have t1:(e:Int)<3:=by omega
        obtain⟨⟨p0,p1,p2,p3,p4,p5⟩,-,-⟩:=row6 (KP.out _ HW9.out.below)
        have CB:=hid (pW p hf hm hap A c A' c' st h2 w2 HI.out b s e T2 wr ⟨HW9.out.tab,HW9.out.below,ArR _⟩ HBS.out WE9.out.fair hsl hel)
        go_wp2_with fail
        refine CB.out.mono ?_;rintro e9 w9 ⟨m9,T9,rfl,hw10,hwe10⟩
        have HW10:=hid (show NrW w2 w2 w9 b T9 from⟨hw10.tab,hw10.below,ArS HW9.out.size hw10.size⟩)
        have WE10:=hid (WE9.out.trans hwe10 (S:=(∀ s' e',s'<s->e'<3->Nr.Fixed p T0 s' e')/\∀ e',e'<e+1->Nr.Fixed p T0 s e') λe1 h1 h2=>⟨h1.1,λe' he'=>by
         by_cases hee:e'=e
         ·subst hee
          rw[<-e1];exact h2
         exact h1.2 e' (by omega)⟩)
        clear hw10 hwe10 CB p0 p1 p2 p3 p4 p5
        cases m9 with
        | true =>
          rw[Bool.or_true] at WE10
          go_wp2
          go_roundw
          case rel=>exact⟨e+1,true,T9,by omega,rfl,by go_num,HW10.out,WE10.out⟩
          case measure=>simp[intOf];omega
        | false =>
          rw[Bool.or_false] at WE10
          go_wp2
          go_roundw
          case rel=>exact⟨e+1,more2,T9,by omega,rfl,by go_num,HW10.out,WE10.out⟩
          case measure=>simp[intOf];omega
       obtain rfl:e=3:=by omega
       have d2:decide (((3:Nat):Int)<3)=false:=by decide
       go_wp2
       go_roundw
       case rel=>exact⟨s+1,more2,T2,by omega,rfl,by go_num,HW9.out,WE9.out.next λ_ _ h1=>λs' e' ha1 ha2=>by
        by_cases has:s'=s
        ·subst has
         exact h1.2 e' ha2
        exact h1.1 s' e' (by omega) ha2⟩
       case measure=>simp[intOf];omega
     obtain rfl:s=p.secs.length:=by omega
     have d1:decide ((p.secs.length:Int)<(p.secs.length:Int))=false:=aB (by omega)
     have hle:=WE8.out.le
     have hless:=WE8.out.less
     have hsame:=WE8.out.same
     have HGG:=hid (show (more=false->∀ s e,s<p.secs.length->e<3->Nr.Fixed p T1 s e)/\Nr.mass T1+(if more=true then 1 else 0)<=gk-1 from by
      refine⟨λh=>?_,?_⟩
      ·obtain⟨h1,h2⟩:=hsame h
       rw[h1]
       exact h2
      cases more with
      | true=>rw[ArZ rfl];have:=hless rfl;omega
      | false=>rw[ArY (by decide)];omega)
     have hgk:0<gk:=by omega
     clear hle hless hsame
     go_wp2_with fail
     go_roundg (gk-1)
     case measure=>omega
     case rel=>exact⟨more,T1,rfl,HW8.out,WE8.out.fair,HGG.out.1,HGG.out.2⟩
  | false =>
    go_wp2
    go_ret
    exact⟨b,rfl,T0,HW7.out.tab,by rw[HGQ.out];exact ArS (Nat.le_of_lt gp) HBS.out,by rw[HGQ.out];exact XB.out.trans (HW7.out.below.mono (Nat.le_of_lt gp)),⟨HS7.out,HC7.out trivial⟩⟩
 --]
theorem AmR (A:Option Addr) (c:Nat) (A':Option Addr) (c':Nat) (i:Int) (w:World) (hI:PlanIn w p A A') :
 Calls Tryz.prog 66 #[aR p A c A' c',.int .i64 i] w (AlP (Nr.of p i) w):=by
 --[
 have XA:=(AtB w).alloc (ArR _) (aD p A c A' c')
 have X0:=hid XA
 have RP:=hid (AsW w (aD p A c A' c'))
 obtain⟨⟨p0,p1,p2,p3,p4,p5⟩,-,gp⟩:=row6 RP.out
 have HI:=hid (hI.below XA)
 clear XA hI
 by_cases hi0:i<0
 ·have E:Nr.of p i=([],0):=by
   unfold Nr.of Cr.sigAt
   rw[ArZ hi0]
  have D1:decide (i<0)=true:=aC hi0
  rw[E]
  clear hi0 E
  go_enter Tryz.func66,Tryz.ntmps66
  go_wp2_with fail
  refine bodyPost_ret ?_ rfl ⟨none,0,rfl,.inl rfl,X0.out,λa ha=>by cases ha⟩
  simp[results,Tryz.results66,go_sem]
 obtain⟨k,rfl⟩:∃ k:Nat,i=(k:Int):=⟨i.toNat,by omega⟩
 have D1:decide ((k:Int)<0)=false:=aB hi0
 clear hi0
 by_cases hk:p.sigs.length<=k
 ·have E:Nr.of p (k:Int)=([],0):=by
   unfold Nr.of Cr.sigAt
   rw[ArY (by omega),AsP,List.getElem?_eq_none hk]
  have D2:decide ((p.sigs.length:Int)<=(k:Int))=true:=aC (by omega)
  rw[E]
  clear E
  go_enter Tryz.func66,Tryz.ntmps66
  go_wp2_with fail
  refine bodyPost_ret ?_ rfl ⟨none,0,rfl,.inl rfl,X0.out,λa ha=>by cases ha⟩
  simp[results,Tryz.results66,go_sem]
 have hkl:k<p.sigs.length:=by omega
 have D2:decide ((p.sigs.length:Int)<=(k:Int))=false:=aB (by omega)
 have hsg:=ArN hkl
 rw[Nr.of_at hm hsg]
 obtain⟨hs0,hs1,he0,he1⟩:=hf.sigs k _ hsg
 generalize hst:((p.sigs[k]).sec.toNat,(p.sigs[k]).en.toNat)=st
 have h1:st.1<p.secs.length:=by rw[<-hst];show (p.sigs[k]).sec.toNat<_;omega
 have h2:st.2<3:=by rw[<-hst];show (p.sigs[k]).en.toNat<3;omega
 have hsec:(p.sigs[k]).sec=(st.1:Int):=by rw[<-hst];show _=(((p.sigs[k]).sec.toNat:Nat):Int);omega
 have hen:(p.sigs[k]).en=(st.2:Int):=by rw[<-hst];show _=(((p.sigs[k]).en.toNat:Nat):Int);omega
 obtain⟨bg,og,rfl,gg,on⟩:=(HI.out.2).at hkl
 generalize p.sigs[k]=sg at hsg hsec hen hst on
 obtain⟨s0,s1,s2⟩:=cF on
 rw[show k*bD.m=k*3 from rfl] at s0 s1 s2
 rw[hsec] at s1
 rw[hen] at s2
 have hfew:=hf.few
 have i0:(0:Int)<=(k:Int):=ArT k
 have i1:(k:Int)<(p.sigs.length:Int):=by omega
 clear hst hs0 hs1 he0 he1 hsg hsec hen on hk
 generalize sg.name=nm at s0
 go_enter Tryz.func66,Tryz.ntmps66
 go_upto_region 5 with fail
 generalize w.alloc (aD p A c (some ⟨bg,og,none⟩) c')=w1 at X0 RP p0 p1 p2 p3 p4 p5 gp HI s0 s1 s2 gg ⊢
 generalize hgq:w.heap.size=gq at RP p0 p1 p2 p3 p4 p5 gp X0 ⊢
 have HGQ:=hid hgq
 clear hgq
 have KS:=hid (λW (hW:Below w1.heap.size w1 W)=>AsG (row6 ((hW.block _ gp).trans RP.out)).1 (AsG ((hW.cell (p:=⟨bg,og+k*3,none⟩) gg).trans s0) (AsG ((hW.cell (p:=⟨bg,og+k*3+1,none⟩) gg).trans s1) ((hW.cell (p:=⟨bg,og+k*3+2,none⟩) gg).trans s2))))
 have T0:=hid (AtB w1)
 have CD:=hid (λW (hW:Below w1.heap.size w1 W)=>AcZ p hf hm hap A c (some ⟨bg,og,none⟩) c' nm st h1 h2 W (HI.out.below hW))
 go_region_held3 (λW'=>(W'.cell? ⟨gq,0,none⟩=some (.int .i64 p.ov)/\W'.cell? ⟨gq,1,none⟩=some (.int .i64 p.ap)/\W'.cell? ⟨gq,2,none⟩=some (.int .i64 p.se)/\W'.cell? ⟨gq,3,none⟩=some (.int .i64 p.ho)/\W'.cell? ⟨gq,4,none⟩=some (.slice A p.secs.length c)/\W'.cell? ⟨gq,5,none⟩=some (.slice (some ⟨bg,og,none⟩) p.sigs.length c'))/\W'.cell? ⟨bg,og+k*3,none⟩=some (.string (txt nm))/\W'.cell? ⟨bg,og+k*3+1,none⟩=some (.int .i64 st.1)/\W'.cell? ⟨bg,og+k*3+2,none⟩=some (.int .i64 st.2))
  (first|with_reducible exact KS.out _ T0.out.drew|with_reducible exact KS.out _ h5)
  (first
   | (go_at_call 110;(with_reducible refine(CD.out _ T0.out.drew).mono ?_);rintro e5 w5 ⟨b,T,rfl,hT,hbb,h6,hF⟩;have h5:Below w1.heap.size w1 w5:=T0.out.drew.trans h6))
 have HB5:=hid h5
 have HT:=hid hT
 have HF:=hid hF
 have hlen:=hF.len
 have EN:=hid (Nr.near_sects hm hF)
 have BF:=hid (λW (hW:Below w5.heap.size w5 W)=>X0.out.trans (((HB5.out.trans (hW.mono HB5.out.size))).mono (Nat.le_of_lt gp)))
 have KQ:=hid (λW (hW:Below w5.heap.size w5 W)=>(KS.out _ (HB5.out.trans (hW.mono HB5.out.size))).1)
 have KI:=hid (λW (hW:Below w5.heap.size w5 W)=>HI.out.below (HB5.out.trans (hW.mono HB5.out.size)))
 have KT:=hid (λW (hW:Below w5.heap.size w5 W)=>HT.out.kept HT.out.lt hW)
 have T5:=hid (AtB w5)
 obtain⟨i0',hi,hz0,hz1,hz2⟩:=info_parts fT
 clear h5 h6 hT hF hbb p0 p1 p2 p3 p4 p5 s0 s1 s2 CD i0 i1 D1 D2
 go_wp2_with fail
 go_loopw [6,7,8,9,27] (λv6 v7 _ _ v27 w'=>∃ (j:Nat),j<=p.secs.length/\v27=.int .i64 j/\v7=.int .i64 (Nr.total p ((List.range j).filter (Nr.near T p.ap)))/\w'.ownsRow w5.heap.size 3 aF.m v6 ((List.range j).filter (Nr.near T p.ap)).length (aF.all (ints ((List.range j).filter (Nr.near T p.ap))))/\Below w5.heap.size w5 w') (λ_ _ _ _ v27 _=>p.secs.length-(intOf v27).toNat)
 case atStart=>exact⟨0,AsD _,rfl,rfl,World.ownsRow_nil _ _ _ _,T5.out⟩
 case round =>
  obtain⟨j,hj,rfl,rfl,ho,hb8⟩:=hrel
  have HO:=hid ho
  have HB8:=hid hb8
  clear ho hb8
  have hfl:((List.range j).filter (Nr.near T p.ap)).length<=j:=by
   have:=List.length_filter_le (Nr.near T p.ap) (List.range j)
   rwa [List.length_range] at this
  have htb:=Nr.total_bd hm ((List.range j).filter (Nr.near T p.ap))
  by_cases hjl:j<p.secs.length
  ·obtain⟨d1,s0,s1⟩:=ArK (show j<p.secs.length by omega)
   have TB:=KT.out _ HB8.out
   have c0:=TB.cell (s:=j) (e:=0) (by rw[hlen];exact Nr.slot_lt hjl (by show _<3;omega))
   have c1:=TB.cell (s:=j) (e:=1) (by rw[hlen];exact Nr.slot_lt hjl (by show _<3;omega))
   have c2:=TB.cell (s:=j) (e:=2) (by rw[hlen];exact Nr.slot_lt hjl (by show _<3;omega))
   rw[Nat.add_zero] at c0
   have HTD:=hid (show Nr.near T p.ap j=decide (min (Nr.at_ T (j,0)) (min (Nr.at_ T (j,1)) (Nr.at_ T (j,2)))<p.ap) from rfl)
   generalize Nr.at_ T (j,0)=z0 at c0 HTD
   generalize Nr.at_ T (j,1)=z1 at c1 HTD
   generalize Nr.at_ T (j,2)=z2 at c2 HTD
   have XN:=hid ((AtB wr).alloc (ArR _) (.cells #[.int .i64 z0,.int .i64 z1,.int .i64 z2] 170))
   have RX:=hid (AsW wr (.cells #[.int .i64 z0,.int .i64 z1,.int .i64 z2] 170))
   clear TB
   go_upto_region 8 with fail
   have hsz5:w5.heap.size<=wr.heap.size:=HB8.out.size
   have HB9:=hid (HB8.out.alloc hsz5 (.cells #[.int .i64 z0,.int .i64 z1,.int .i64 z2] 170))
   have HO9:=hid (HO.out.alloc (.cells #[.int .i64 z0,.int .i64 z1,.int .i64 z2] 170))
   generalize wr.alloc (.cells #[.int .i64 z0,.int .i64 z1,.int .i64 z2] 170)=w9 at XN RX HB9 HO9 ⊢
   generalize wr.heap.size=gx at RX XN ⊢
   have gx9:=(ArL RX.out).1
   obtain⟨-,p1,-,-,-,-⟩:=KQ.out _ HB9.out
   have gq9:gq<w9.heap.size:=AsE gp (ArS HB5.out.size HB9.out.size)
   have U0:=hid (AtB w9)
   have KC:=hid (λW (hW:Below w9.heap.size w9 W)=>(hW.cell (p:=⟨gq,1,none⟩) gq9).trans p1)
   have CM:=hid (λW (hW:Below w9.heap.size w9 W)=>AhZ gx z0 z1 z2 W ((hW.block gx gx9).trans RX.out))
   clear c0 c1 c2
   go_region_held3 (λW=>W.cell? ⟨gq,1,none⟩=some (.int .i64 p.ap))
    (first|with_reducible exact KC.out _ U0.out.drew|(go_keep;done))
    (first
     | (go_at_call 111;(with_reducible refine(CM.out _ U0.out.drew).mono ?_);rintro e7 w7 ⟨rfl,rfl⟩))
   have HB9':=hid (show Below w5.heap.size w5 w9.drew from HB9.out.drew)
   have HO9':=hid (show w9.drew.ownsRow w5.heap.size 3 aF.m u6 ((List.range j).filter (Nr.near T p.ap)).length (aF.all (ints ((List.range j).filter (Nr.near T p.ap)))) from HO9.out.drew)
   have hsz:w5.heap.size<=w9.drew.heap.size:=HB9.out.size
   clear KC CM U0 HB9 HO9 XN RX p1 gx9 gq9 hsz5
   generalize w9.drew=w10 at HB9' HO9' hsz ⊢
   generalize decide (min z0 (min z1 z2)<p.ap)=dz at HTD ⊢
   cases dz with
   | true =>
     have hflt:(List.range (j+1)).filter (Nr.near T p.ap)=(List.range j).filter (Nr.near T p.ap)++[j]:=by
      rw[List.range_succ,List.filter_append,List.filter_cons,ArZ HTD.out];rfl
     have HFL:=hid hflt
     have HO10:=hid (HO9'.out.alloc (.cells #[.int .i64 j] 3))
     have RN:=hid (show aF.Row (w10.alloc (.cells #[.int .i64 j] 3)) (some ⟨w10.heap.size,0,none⟩) [(j:Int)] from Lies.Row.fresh (E:=aF) w10 [(j:Int)] 3)
     have HB10:=hid (HB9'.out.alloc hsz (.cells #[.int .i64 j] 3))
     have htl:=Nr.total_snoc p ((List.range j).filter (Nr.near T p.ap)) j
     rw[<-hflt] at htl
     have hlb:=Nr.lenAt_bd hm j
     have q:IntKind.i64.wrap (Nr.total p ((List.range j).filter (Nr.near T p.ap))+Nr.lenAt p j)=Nr.total p ((List.range (j+1)).filter (Nr.near T p.ap)):=by rw[IntWalk.i64_in _ (by omega),htl]
     have hll:((List.range (j+1)).filter (Nr.near T p.ap)).length=((List.range j).filter (Nr.near T p.ap)).length+1:=by rw[hflt,ArV];rfl
     have HLL:=hid hll
     clear hflt htl hll
     go_wp2_with (
      at_builtin
      refine aG aF _ rfl (.tmp 37) (.tmp 39) 90 rfl w5.heap.size 3 i0' _ 8 Tryz.underlying90 hi hz0 hz1 hz2 rfl _ ((List.range j).filter (Nr.near T p.ap)).length _ rfl HO10.out (some ⟨w10.heap.size,0,none⟩) 1 1 [(j:Int)] rfl (by decide) rfl RN.out (by omega) (by omega) (by simp;omega) ?_
      intro g1 cap1 w11 hown hg1 _
      have HB11:=hid (Below.grown HB10.out hg1 (by simp;omega) (λk hk=>(HO10.out.lt k hk).1))
      have HO11:=hid (show w11.ownsRow w5.heap.size 3 aF.m (.slice (some ⟨g1,0,none⟩) (((List.range j).filter (Nr.near T p.ap)).length+1) cap1) ((List.range (j+1)).filter (Nr.near T p.ap)).length (aF.all (ints ((List.range (j+1)).filter (Nr.near T p.ap)))) from by
       rw[HLL.out,HFL.out,rX,aF.all_append];exact hown)
      obtain⟨-,-,-,-,p4,-⟩:=KQ.out _ HB11.out
      obtain⟨b1,o1,rfl,g2,on⟩:=bQ (KI.out _ HB11.out).1 (ArN hjl)
      have onl:=(bE on).2.2.1
      rw[show (p.secs[j]).len=Nr.lenAt p j by unfold Nr.lenAt;rw[ArN hjl];rfl] at onl
      generalize Nr.lenAt p j=lj at onl q hlb
      generalize Nr.total p ((List.range j).filter (Nr.near T p.ap))=tt at q htb ⊢
      generalize htt:Nr.total p ((List.range (j+1)).filter (Nr.near T p.ap))=tn at q
      have HTT:=hid htt
      clear hown hg1 on htt)
     go_roundw
     case rel=>exact⟨j+1,by omega,by go_num,by rw[HTT.out],HO11.out,HB11.out⟩
     case measure=>simp[intOf];omega
   | false =>
     have HFL:=hid (show (List.range (j+1)).filter (Nr.near T p.ap)=(List.range j).filter (Nr.near T p.ap) from by
      rw[List.range_succ,List.filter_append,List.filter_cons,ArY (by rw[HTD.out];decide),List.filter_nil,AsM])
     go_wp2
     go_roundw
     case rel=>exact⟨j+1,by omega,by go_num,by rw[HFL.out],by rw[HFL.out];exact HO9'.out,HB9'.out⟩
     case measure=>simp[intOf];omega
  obtain rfl:j=p.secs.length:=by omega
  have d1:decide ((p.secs.length:Int)<(p.secs.length:Int))=false:=aB (by omega)
  rw[EN.out] at HO ⊢
  have hlt:=HO.out.lt
  obtain⟨hln,Bx,dx,rfl,-,hRx⟩:=Lies.Row.of_own (E:=aF) HO.out
  have HNW:=hid (λa (ha:Bx=some a)=>ArS (BF.out _ T5.out).size (hlt a.block (by rw[ha];rfl)).1)
  have HRX:=hid hRx
  have HBX:=hid (BF.out _ HB8.out)
  rw[<-HGQ.out] at HBX
  clear hRx htb hfl hln hlt
  go_wp2_with fail
  refine bodyPost_ret ?_ rfl ⟨Bx,dx,rfl,HRX.out,HBX.out,HNW.out⟩
  simp[results,Tryz.results66,go_sem]
 --]
end
open Go.RowKit
theorem Lp.len_take {p:Pl.Plan} {L:List Wk.Stp} {k:Nat} {y:Wk.Stp} (h:L[k]?=some y):Lp.len p (L.take (k+1))=Lp.len p (L.take k)+Lp.secLen p y.s:=by
 rw[List.take_add_one,h]
 exact Lp.len_snoc p _ y
end Go.Proofs.YtjofpclmbjpgjaaGreat
