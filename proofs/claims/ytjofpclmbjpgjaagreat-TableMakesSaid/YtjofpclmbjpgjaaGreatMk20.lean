/- Lemmas. -/
import Derived.Test.YtjofpclmbjpgjaaGreatMk19
set_option maxHeartbeats 16000000
set_option maxRecDepth 100000
namespace Go.Proofs.YtjofpclmbjpgjaaGreat
open Lib (hid)
open Go.RowKit
theorem Nr.Went.trans {p:Pl.Plan} {ap:Int} {st:Nat × Nat} {T T' T2:List Int} {m m2:Bool} {Q R S:Prop} (h:Nr.Went p ap st T T' m Q) (g:Nr.Went p ap st T' T2 m2 R) (hq:T'=T->Q->R->S):Nr.Went p ap st T T2 (m || m2) S:=by
 obtain⟨h1,h2,h3,h4⟩:=h
 obtain⟨g1,g2,g3,g4⟩:=g
 refine⟨g1,ArS g2 h2,λe=>?_,λe=>?_⟩
 ·rcases Bool.or_eq_true_iff.1 e with e|e
  ·exact Nat.lt_of_le_of_lt g2 (h3 e)
  exact AsE (g3 e) h2
 obtain⟨e1,e2⟩:=Bool.or_eq_false_iff.1 e
 obtain⟨a,b⟩:=h4 e1
 obtain⟨c,d⟩:=g4 e2
 exact⟨c.trans a,hq a b d⟩
def AlP (x:List Nat × Int) (w:World) (e:Ending) (w':World):Prop:=∃ B d,e=.returned (.tuple #[.slice B x.1.length d,.int .i64 x.2])/\aF.Row w' B (ints x.1)/\Below w.heap.size w w'/\∀ a,B=some a->w.heap.size<=a.block
def ApZ:Lies Unit:=⟨3,by decide,λ_=>[.int .i64 0,.int .i64 0,.int .i64 0],λ_=>rfl,λy u hu=>by
 simp at hu
 subst hu;rfl⟩
theorem uR:∀ n:Nat,ApZ.all (List.replicate n ())=dN (List.replicate (3*n) 0)
 | 0=>rfl
 | n+1=>by
   rw[List.replicate_succ,Lies.all_cons,uR n,show 3*(n+1)=3*n+1+1+1 by omega,List.replicate_succ,List.replicate_succ,List.replicate_succ]
   rfl
theorem AeJ:(Tryz.prog.info? 170).map (λi=>(i.zero,i.size,i.bytes))=some (some (.agg #[.int .i64 0,.int .i64 0,.int .i64 0]),3,24):=by kernel_rfl
theorem max3 (a b c:Int):(if (if a<b then b else a)<c then c else if a<b then b else a)=max a (max b c):=by
 split <;> split <;> omega
section
variable (p : Pl.Plan) (hf : Pl.Fit p) (hm : Lp.Meas p) (hap : 0 <= p.ap /\ p.ap <= 1125899906842624)
include hf hm hap
theorem AlQ (A : Option Addr) (c:Nat) (A':Option Addr) (c':Nat) (i:Int) (w:World) (hI:PlanIn w p A A') :
 Calls Tryz.prog 76 #[aR p A c A' c',.int .i64 i] w (AlP (Nr.of p i) w):=by
 --[
 have XA:=(AtB w).alloc (ArR _) (aD p A c A' c')
 have X0:=hid XA
 have RP:=hid (AsW w (aD p A c A' c'))
 obtain⟨⟨p0,p1,p2,p3,p4,p5⟩,-,gp⟩:=row6 RP.out
 have HI:=hid (hI.below XA)
 clear XA hI
 by_cases hi0:i<0
 ·have E:Nr.of p i=([],0):=by
   unfold Nr.of Cr.sigAt
   rw[ArZ hi0]
  have D1:decide (i<0)=true:=aC hi0
  rw[E]
  clear hi0 E
  go_enter Tryz.func76,Tryz.ntmps76
  go_wp2_with fail
  refine bodyPost_ret ?_ rfl ⟨none,0,rfl,.inl rfl,X0.out,λa ha=>by cases ha⟩
  simp[results,Tryz.results76,go_sem]
 obtain⟨k,rfl⟩:∃ k:Nat,i=(k:Int):=⟨i.toNat,by omega⟩
 have D1:decide ((k:Int)<0)=false:=aB hi0
 clear hi0
 by_cases hk:p.sigs.length<=k
 ·have E:Nr.of p (k:Int)=([],0):=by
   unfold Nr.of Cr.sigAt
   rw[ArY (by omega),AsP,List.getElem?_eq_none hk]
  have D2:decide ((p.sigs.length:Int)<=(k:Int))=true:=aC (by omega)
  rw[E]
  clear E
  go_enter Tryz.func76,Tryz.ntmps76
  go_wp2_with fail
  refine bodyPost_ret ?_ rfl ⟨none,0,rfl,.inl rfl,X0.out,λa ha=>by cases ha⟩
  simp[results,Tryz.results76,go_sem]
 have hkl:k<p.sigs.length:=by omega
 have D2:decide ((p.sigs.length:Int)<=(k:Int))=false:=aB (by omega)
 have hsg:=ArN hkl
 have E0:Nr.of p (k:Int)=if p.ap=0 then([],0) else(Nr.sects p p.ap ((p.sigs[k]).sec.toNat,(p.sigs[k]).en.toNat),Nr.total p (Nr.sects p p.ap ((p.sigs[k]).sec.toNat,(p.sigs[k]).en.toNat))):=by
  unfold Nr.of Cr.sigAt
  rw[ArY (by omega),AsP,hsg]
 rw[E0]
 clear E0 hk
 by_cases hz:p.ap=0
 ·have D3:(p.ap == 0)=true:=by rw[beq_iff_eq];exact hz
  rw[ArZ hz]
  clear hz
  go_enter Tryz.func76,Tryz.ntmps76
  go_wp2_with fail
  refine bodyPost_ret ?_ rfl ⟨none,0,rfl,.inl rfl,X0.out,λa ha=>by cases ha⟩
  simp[results,Tryz.results76,go_sem]
 have D3:(p.ap == 0)=false:=by rw[ArU];exact hz
 have hap2:0<p.ap/\p.ap<=1125899906842624:=by omega
 rw[ArY hz]
 clear hz
 obtain⟨hs0,hs1,he0,he1⟩:=hf.sigs k _ hsg
 generalize hst:((p.sigs[k]).sec.toNat,(p.sigs[k]).en.toNat)=st
 have h1:st.1<p.secs.length:=by rw[<-hst];show (p.sigs[k]).sec.toNat<_;omega
 have h2:st.2<3:=by rw[<-hst];show (p.sigs[k]).en.toNat<3;omega
 have hsec:(p.sigs[k]).sec=(st.1:Int):=by rw[<-hst];show _=(((p.sigs[k]).sec.toNat:Nat):Int);omega
 have hen:(p.sigs[k]).en=(st.2:Int):=by rw[<-hst];show _=(((p.sigs[k]).en.toNat:Nat):Int);omega
 generalize p.sigs[k]=sg at hsg hsec hen hst
 have HSG:=hid hsg
 clear hst hs0 hs1 he0 he1 hsg
 have hfew:=hf.few
 have hmk:=cK ApZ (P:=Tryz.prog) () 181 170 (.agg #[.int .i64 0,.int .i64 0,.int .i64 0]) 24 Tryz.underlying181 AeJ rfl .i64 .i64 p.secs.length (by omega) (by omega)
 rw[uR] at hmk
 go_enter Tryz.func76,Tryz.ntmps76
 go_upto_region 3 with fail
 generalize w.alloc (aD p A c A' c')=w1 at X0 RP p0 p1 p2 p3 p4 p5 gp HI ⊢
 generalize hgq:w.heap.size=gq at RP p0 p1 p2 p3 p4 p5 gp ⊢
 clear hgq
 go_upto_region 4 with fail
 rw[show decide (p.sigs.length<=k)=false from decide_eq_false (by omega)]
 have HW:=hid (show NrW w1 (w1.alloc (AbV (List.replicate (3*p.secs.length) 0))) (w1.alloc (AbV (List.replicate (3*p.secs.length) 0))) w1.heap.size (List.replicate (3*p.secs.length) 0) from
  ⟨AsW w1 _,(AtB w1).alloc (ArR _) _,ArR _⟩)
 have KP:=hid (λW (hW:Below w1.heap.size w1 W)=>(hW.block _ gp).trans RP.out)
 clear p0 p1 p2 p3 p4 p5 hmk
 generalize w1.alloc (AbV (List.replicate (3*p.secs.length) 0))=w2 at HW ⊢
 generalize hb:w1.heap.size=b at HW ⊢
 have HB:=hid hb
 have hbW:w1.heap.size<=b:=Nat.le_of_eq hb
 clear hb
 go_wp2_with fail
 go_loopw [7] (λv w'=>∃ (j:Nat) (T:List Int),j<=p.secs.length/\v=.int .i64 j/\NrW w1 w2 w' b T/\Nr.Blank T p.secs.length j) (λv _=>p.secs.length-(intOf v).toNat)
 case atStart=>exact⟨0,List.replicate (3*p.secs.length) 0,AsD _,rfl,HW.out,List.length_replicate,λa ha=>absurd ha (Nat.not_lt_zero _)⟩
 case round =>
  obtain⟨j,T,hj,rfl,hw3,hbl⟩:=hrel
  have HW3:=hid hw3
  have BL:=hid hbl
  clear hw3 hbl
  by_cases hlt:j<p.secs.length
  ·obtain⟨d1,i0,i1⟩:=ArK (show j<p.secs.length by omega)
   have hl:=BL.out.1
   have c0:=HW3.out.tab.cell (s:=j) (e:=0) (by rw[hl];exact Nr.slot_lt hlt (by show _<3;omega))
   have c1:=HW3.out.tab.cell (s:=j) (e:=1) (by rw[hl];exact Nr.slot_lt hlt (by show _<3;omega))
   have c2:=HW3.out.tab.cell (s:=j) (e:=2) (by rw[hl];exact Nr.slot_lt hlt (by show _<3;omega))
   have f0:=HW3.out.tab.frozen (j*3)
   have f1:=HW3.out.tab.frozen (j*3+1)
   have f2:=HW3.out.tab.frozen (j*3+2)
   rw[Nat.add_zero] at c0
   have HW4:=hid (((HW3.out.set hbW j 0 (-1)).set hbW j 1 (-1)).set hbW j 2 (-1))
   have BL4:=hid (BL.out.next hlt)
   clear hl
   go_wp2
   go_roundw
   case rel=>exact⟨j+1,_,by omega,by go_num,HW4.out,BL4.out⟩
   case measure=>simp[intOf];omega
  obtain rfl:j=p.secs.length:=by omega
  have d1:decide ((p.secs.length:Int)<(p.secs.length:Int))=false:=aB (by omega)
  have HT:=hid (Nr.blank_sound hap2.1 BL.out.1 BL.out.2 h1 h2)
  obtain⟨⟨-,p1,-,-,p4,p5⟩,-,-⟩:=row6 (KP.out _ HW3.out.below)
  obtain⟨bg,og,rfl,gg,on⟩:=((HI.out.below HW3.out.below).2).at hkl
  rw[(ArM HSG.out).2] at on
  obtain⟨s0,s1,s2⟩:=cF on
  rw[show k*bD.m=k*3 from rfl,hsec] at s1
  rw[show k*bD.m=k*3 from rfl,hen] at s2
  rw[show k*bD.m=k*3 from rfl] at s0
  have i0:(0:Int)<=(k:Int):=ArT k
  have i1:(k:Int)<(p.sigs.length:Int):=by omega
  have e0:(0:Int)<=(st.1:Int):=ArT _
  have e1:(st.1:Int)<(p.secs.length:Int):=by omega
  have e2:(0:Int)<=(st.2:Int):=ArT _
  have e3:(st.2:Int)<3:=by omega
  have XG:=(AtB wr).alloc (ArR _) (.cells #[.string (txt sg.name),.int .i64 st.1,.int .i64 st.2] 58)
  have RX:=hid (AsW wr (.cells #[.string (txt sg.name),.int .i64 st.1,.int .i64 st.2] 58))
  have HW4:=hid (HW3.out.behind XG)
  have hbg:b≠wr.heap.size:=Nat.ne_of_lt HW3.out.tab.lt
  clear on
  go_upto_region 9 with fail
  clear s0 s1 s2 p1 p4 p5 XG gg
  generalize wr.alloc (.cells #[.string (txt sg.name),.int .i64 st.1,.int .i64 st.2] 58)=w4 at RX HW4 ⊢
  generalize wr.heap.size=gx at RX hbg ⊢
  obtain⟨⟨-,t1,t2⟩,-,gl⟩:=row3 RX.out
  have c0:=HW4.out.tab.cell (s:=st.1) (e:=st.2) (by rw[BL.out.1];exact Nr.slot_lt h1 h2)
  have f0:=HW4.out.tab.frozen (st.1*3+st.2)
  have HW5:=hid (HW4.out.set hbW st.1 st.2 0)
  have RX5:=hid ((AsX w4 ⟨b,st.1*3+st.2,none⟩ gx (.int .i64 0) (Ne.symm hbg)).trans RX.out)
  go_cut [6] from 48 to 54 (λv6 w'=>v6=.slice (some ⟨b,0,none⟩) p.secs.length p.secs.length/\w'=(w4.setCell ⟨b,st.1*3+st.2,none⟩ (.int .i64 0)).drew)
  case first =>
   go_region_with fail
   all_goals go_wp2_with fail
   all_goals go_meet
   all_goals exact⟨rfl,rfl⟩
  case rest =>
  obtain⟨rfl,rfl⟩:=hcut
  have HW6:=hid (show NrW w1 w2 (w4.setCell ⟨b,st.1*3+st.2,none⟩ (.int .i64 0)).drew b (Nr.bet T st 0) from⟨HW5.out.tab,HW5.out.below.drew,HW5.out.size⟩)
  clear t1 t2 gl c0 f0 HW5 RX5 HW3 HW4 BL RX
  generalize (w4.setCell ⟨b,st.1*3+st.2,none⟩ (.int .i64 0)).drew=w5 at HW6 ⊢
  generalize Nr.bet T st 0=TS at HW6 HT
  clear hj hlt d1
  go_wp2_with fail
  go_loopg [9,10,11] (Nr.weight p.ap TS+1) (λgg v9 _ _ w'=>∃ (more:Bool) (T:List Int),v9=.bool more/\NrW w1 w2 w' b T/\Nr.Sound p p.ap st T/\(more=false->Nr.Closed p p.ap T)/\Nr.weight p.ap T+(if more=true then 1 else 0)<=gg)
  case atStart=>exact⟨true,TS,rfl,HW6.out,HT.out,(λh=>by cases h),ArR _⟩
  case round =>
   obtain⟨more,T0,rfl,hw7,hs7,hc7,hg7⟩:=hrel
   have HW7:=hid hw7
   have HS7:=hid hs7
   have HC7:=hid hc7
   clear hw7 hs7 hc7
   cases more with
   | true =>
     rw[ArZ rfl] at hg7
     go_wp2_with fail
     go_loopw [9,10,11] (λv9 v10 _ w'=>∃ (s:Nat) (more:Bool) (T:List Int),s<=p.secs.length/\v9=.bool more/\v10=.int .i64 s/\NrW w1 w2 w' b T/\Nr.Went p p.ap st T0 T more (∀ a:Nat × Nat,a.1<s->a.2<3->Nr.ClosedAt p p.ap T0 a)) (λ_ v10 _ _=>p.secs.length-(intOf v10).toNat)
     case atStart=>exact⟨0,false,T0,AsD _,rfl,rfl,HW7.out,⟨HS7.out,ArR _,(λh=>by cases h),λ_=>⟨rfl,λa ha=>absurd ha (Nat.not_lt_zero _)⟩⟩⟩
     case round =>
      obtain⟨s,more,T1,hs,rfl,rfl,hw8,hwe8⟩:=hrel
      have HW8:=hid hw8
      have WE8:=hid hwe8
      clear hw8 hwe8
      by_cases hsl:s<p.secs.length
      ·have d1 : decide ((s:Int)<(p.secs.length:Int))=true:=aC (by omega)
       have s0:(0:Int)<=(s:Int):=ArT s
       have s1:(s:Int)<(p.secs.length:Int):=by omega
       go_wp2_with fail
       go_loopw [9,11] (λv9 v11 w'=>∃ (e:Nat) (more:Bool) (T:List Int),e<=3/\v9=.bool more/\v11=.int .i64 e/\NrW w1 w2 w' b T/\Nr.Went p p.ap st T0 T more ((∀ a:Nat × Nat,a.1<s->a.2<3->Nr.ClosedAt p p.ap T0 a)/\∀ e',e'<e->Nr.ClosedAt p p.ap T0 (s,e'))) (λ_ v11 _=>3-(intOf v11).toNat)
       case atStart=>exact⟨0,more,T1,AsD _,rfl,rfl,HW8.out,WE8.out.next λ_ _ h=>⟨h,λe' he=>absurd he (Nat.not_lt_zero _)⟩⟩
       case round =>
        obtain⟨e,more2,T2,he,rfl,rfl,hw9,hwe9⟩:=hrel
        have HW9:=hid hw9
        have WE9:=hid hwe9
        clear hw9 hwe9
        by_cases hel:e<3
        ·have d2:decide ((e:Int)<3)=true:=aC (by omega)
         have t0:(0:Int)<=(e:Int):=ArT e
         have t1:(e:Int)<3:=by omega
         have c0:=HW9.out.tab.cell (s:=s) (e:=e) (by rw[WE9.out.sound.len];exact Nr.slot_lt hsl hel)
         by_cases h0:0<=Nr.at_ T2 (s,e)
         ·have D0:decide (0<=Nr.at_ T2 (s,e))=true:=aC h0
          obtain⟨⟨p0,p1,p2,p3,p4,p5⟩,-,-⟩:=row6 (KP.out _ HW9.out.below)
          have CB:=hid (AbW p hf hm hap2 A c (some ⟨bg,og,none⟩) c' st h2 w1 HI.out b s e T2 wr ⟨HW9.out.tab,HW9.out.below,ArR _⟩ hbW WE9.out.sound hsl hel h0 HW9.out.tab.lt)
          generalize Nr.at_ T2 (s,e)=z at c0 D0
          clear h0
          go_wp2_with fail
          refine CB.out.mono ?_;rintro e9 w9 ⟨m9,T9,rfl,hw10,hwe10⟩
          have HW10:=hid (show NrW w1 w2 w9 b T9 from⟨hw10.tab,hw10.below,ArS HW9.out.size hw10.size⟩)
          have WE10:=hid (WE9.out.trans hwe10 (S:=(∀ a:Nat × Nat,a.1<s->a.2<3->Nr.ClosedAt p p.ap T0 a)/\∀ e',e'<e+1->Nr.ClosedAt p p.ap T0 (s,e')) λe1 h1 h2=>⟨h1.1,λe' he'=>by
           by_cases hee:e'=e
           ·subst hee
            rw[<-e1];exact h2
           exact h1.2 e' (by omega)⟩)
          clear hw10 hwe10 CB c0 p0 p1 p2 p3 p4 p5
          cases m9 with
          | true =>
            rw[Bool.or_true] at WE10
            go_wp2
            go_roundw
            case rel=>exact⟨e+1,true,T9,by omega,rfl,by go_num,HW10.out,WE10.out⟩
            case measure=>simp[intOf];omega
          | false =>
            rw[Bool.or_false] at WE10
            go_wp2
            go_roundw
            case rel=>exact⟨e+1,more2,T9,by omega,rfl,by go_num,HW10.out,WE10.out⟩
            case measure=>simp[intOf];omega
         have D0:decide (0<=Nr.at_ T2 (s,e))=false:=aB h0
         have HN0:=hid h0
         generalize Nr.at_ T2 (s,e)=z at c0 D0
         clear h0
         go_wp2
         go_roundw
         case rel=>exact⟨e+1,more2,T2,by omega,rfl,by go_num,HW9.out,WE9.out.next λ_ e1 h1=>⟨h1.1,λe' he'=>by
          by_cases hee:e'=e
          ·subst hee
           intro hp
           rw[<-e1] at hp
           exact absurd hp HN0.out
          exact h1.2 e' (by omega)⟩⟩
         case measure=>simp[intOf];omega
        obtain rfl:e=3:=by omega
        have d2:decide (((3:Nat):Int)<3)=false:=by decide
        go_wp2
        go_roundw
        case rel=>exact⟨s+1,more2,T2,by omega,rfl,by go_num,HW9.out,WE9.out.next λ_ _ h1=>λa ha1 ha2=>by
         by_cases has:a.1=s
         ·obtain⟨a1,a2⟩:=a
          simp only at has ha2
          subst has
          exact h1.2 a2 ha2
         exact h1.1 a (by omega) ha2⟩
        case measure=>simp[intOf];omega
      obtain rfl:s=p.secs.length:=by omega
      have d1:decide ((p.secs.length:Int)<(p.secs.length:Int))=false:=aB (by omega)
      have hle:=WE8.out.le
      have hless:=WE8.out.less
      have hsame:=WE8.out.same
      have HGG:=hid (show (more=false->Nr.Closed p p.ap T1)/\Nr.weight p.ap T1+(if more=true then 1 else 0)<=gk-1 from by
       refine⟨λh=>?_,?_⟩
       ·obtain⟨h1,h2⟩:=hsame h
        rw[h1]
        exact h2
       cases more with
       | true=>rw[ArZ rfl];have:=hless rfl;omega
       | false=>rw[ArY (by decide)];omega)
      have hgk:0<gk:=by omega
      clear hle hless hsame
      go_wp2_with fail
      go_roundg (gk-1)
      case measure=>omega
      case rel=>exact⟨more,T1,rfl,HW8.out,WE8.out.sound,HGG.out.1,HGG.out.2⟩
   | false =>
     have HD:=hid (show Nr.Done p p.ap st T0 from⟨HS7.out,HC7.out rfl⟩)
     have WT:=HW7.out
     have hlen:=HS7.out.len
     have BF:=hid (λW (hW:Below wr.heap.size wr W)=>X0.out.trans ((HW7.out.below.trans (hW.mono HW7.out.below.size)).mono X0.out.size))
     have KQ:=hid (λW (hW:Below wr.heap.size wr W)=>KP.out _ (HW7.out.below.trans (hW.mono HW7.out.below.size)))
     have KI:=hid (λW (hW:Below wr.heap.size wr W)=>HI.out.below (HW7.out.below.trans (hW.mono HW7.out.below.size)))
     have KT:=hid (λW (hW:Below wr.heap.size wr W)=>HW7.out.tab.kept HW7.out.tab.lt hW)
     have T7:=hid (AtB wr)
     have EN:=hid (Nr.told_sects hm HD.out)
     obtain⟨i0',hi,hz0,hz1,hz2⟩:=info_parts fT
     generalize hwr:wr=w7 at BF KQ KI KT T7 ⊢
     clear hwr hg7 WT
     go_wp2_with fail
     go_loopw [12,13,14] (λv12 v13 v14 w'=>∃ (j:Nat),j<=p.secs.length/\v14=.int .i64 j/\v13=.int .i64 (Nr.total p ((List.range j).filter (Nr.told T0)))/\w'.ownsRow w7.heap.size 3 aF.m v12 ((List.range j).filter (Nr.told T0)).length (aF.all (ints ((List.range j).filter (Nr.told T0))))/\Below w7.heap.size w7 w') (λ_ _ v14 _=>p.secs.length-(intOf v14).toNat)
     case atStart=>exact⟨0,AsD _,rfl,rfl,World.ownsRow_nil _ _ _ _,T7.out⟩
     case round =>
      obtain⟨j,hj,rfl,rfl,ho,hb8⟩:=hrel
      have HO:=hid ho
      have HB8:=hid hb8
      clear ho hb8
      have hfl:((List.range j).filter (Nr.told T0)).length<=j:=by
       have:=List.length_filter_le (Nr.told T0) (List.range j)
       rwa [List.length_range] at this
      have htb:=Nr.total_bd hm ((List.range j).filter (Nr.told T0))
      by_cases hjl:j<p.secs.length
      ·obtain⟨d1,s0,s1⟩:=ArK (show j<p.secs.length by omega)
       have TB:=KT.out _ HB8.out
       have c0:=TB.cell (s:=j) (e:=0) (by rw[hlen];exact Nr.slot_lt hjl (by show _<3;omega))
       have c1:=TB.cell (s:=j) (e:=1) (by rw[hlen];exact Nr.slot_lt hjl (by show _<3;omega))
       have c2:=TB.cell (s:=j) (e:=2) (by rw[hlen];exact Nr.slot_lt hjl (by show _<3;omega))
       rw[Nat.add_zero] at c0
       have KS:=hid (λW (hW:Below wr.heap.size wr W)=>AsG ((hW.cell (p:=⟨b,j*3,none⟩) TB.lt).trans c0) (AsG ((hW.cell (p:=⟨b,j*3+1,none⟩) TB.lt).trans c1) ((hW.cell (p:=⟨b,j*3+2,none⟩) TB.lt).trans c2)))
       have U0:=hid (AtB wr)
       have HTD:=hid (show Nr.told T0 j=decide (0<=max (Nr.at_ T0 (j,0)) (max (Nr.at_ T0 (j,1)) (Nr.at_ T0 (j,2)))) from rfl)
       generalize Nr.at_ T0 (j,0)=z0 at c0 KS HTD
       generalize Nr.at_ T0 (j,1)=z1 at c1 KS HTD
       generalize Nr.at_ T0 (j,2)=z2 at c2 KS HTD
       clear TB
       go_upto_region 26 with fail
       go_region_held3 (λW=>W.cell? ⟨b,j*3,none⟩=some (.int .i64 z0)/\W.cell? ⟨b,j*3+1,none⟩=some (.int .i64 z1)/\W.cell? ⟨b,j*3+2,none⟩=some (.int .i64 z2))
        (first|with_reducible exact KS.out _ U0.out.drew|(go_keep;done))
        (fail)
       rw[max3]
       generalize max z0 (max z1 z2)=mx at HTD ⊢
       have HB9:=hid (show Below w7.heap.size w7 wr.drew from HB8.out.drew)
       have HO9:=hid (show wr.drew.ownsRow w7.heap.size 3 aF.m u12 ((List.range j).filter (Nr.told T0)).length (aF.all (ints ((List.range j).filter (Nr.told T0)))) from HO.out.drew)
       have hsz:w7.heap.size<=wr.drew.heap.size:=HB8.out.size
       clear c0 c1 c2 KS U0
       generalize wr.drew=w9 at HB9 HO9 hsz ⊢
       generalize decide (0<=mx)=dz at HTD ⊢
       cases dz with
       | true =>
         have hflt:(List.range (j+1)).filter (Nr.told T0)=(List.range j).filter (Nr.told T0)++[j]:=by
          rw[List.range_succ,List.filter_append,List.filter_cons,ArZ HTD.out];rfl
         have HFL:=hid hflt
         have XN:=hid ((AtB w9).alloc (ArR _) (.cells #[.int .i64 j] 3))
         have HO10:=hid (HO9.out.alloc (.cells #[.int .i64 j] 3))
         have RN:=hid (show aF.Row (w9.alloc (.cells #[.int .i64 j] 3)) (some ⟨w9.heap.size,0,none⟩) [(j:Int)] from Lies.Row.fresh (E:=aF) w9 [(j:Int)] 3)
         have HB10:=hid (HB9.out.alloc hsz (.cells #[.int .i64 j] 3))
         have htl:=Nr.total_snoc p ((List.range j).filter (Nr.told T0)) j
         rw[<-hflt] at htl
         have hlb:=Nr.lenAt_bd hm j
         have q:IntKind.i64.wrap (Nr.total p ((List.range j).filter (Nr.told T0))+Nr.lenAt p j)=Nr.total p ((List.range (j+1)).filter (Nr.told T0)):=by rw[IntWalk.i64_in _ (by omega),htl]
         have hll:((List.range (j+1)).filter (Nr.told T0)).length=((List.range j).filter (Nr.told T0)).length+1:=by rw[hflt,ArV];rfl
         have HLL:=hid hll
         clear hflt htl hll
         go_wp2_with (
          at_builtin
          refine aG aF _ rfl (.tmp 103) (.tmp 105) 90 rfl w7.heap.size 3 i0' _ 8 Tryz.underlying90 hi hz0 hz1 hz2 rfl _ ((List.range j).filter (Nr.told T0)).length _ rfl HO10.out (some ⟨w9.heap.size,0,none⟩) 1 1 [(j:Int)] rfl (by decide) rfl RN.out (by omega) (by omega) (by simp;omega) ?_
          intro g1 cap1 w10 hown hg1 _
          have HB11:=hid (Below.grown HB10.out hg1 (by simp;omega) (λk hk=>(HO10.out.lt k hk).1))
          have HO11:=hid (show w10.ownsRow w7.heap.size 3 aF.m (.slice (some ⟨g1,0,none⟩) (((List.range j).filter (Nr.told T0)).length+1) cap1) ((List.range (j+1)).filter (Nr.told T0)).length (aF.all (ints ((List.range (j+1)).filter (Nr.told T0)))) from by
           rw[HLL.out,HFL.out,rX,aF.all_append];exact hown)
          obtain⟨⟨-,-,-,-,p4,-⟩,-,-⟩:=row6 (KQ.out _ HB11.out)
          obtain⟨b1,o1,rfl,g2,on⟩:=bQ (KI.out _ HB11.out).1 (ArN hjl)
          have onl:=(bE on).2.2.1
          rw[show (p.secs[j]).len=Nr.lenAt p j by unfold Nr.lenAt;rw[ArN hjl];rfl] at onl
          generalize Nr.lenAt p j=lj at onl q hlb
          generalize Nr.total p ((List.range j).filter (Nr.told T0))=tt at q htb ⊢
          generalize htt:Nr.total p ((List.range (j+1)).filter (Nr.told T0))=tn at q
          have HTT:=hid htt
          clear hown hg1 on htt)
         go_roundw
         case rel=>exact⟨j+1,by omega,by go_num,by rw[HTT.out],HO11.out,HB11.out⟩
         case measure=>simp[intOf];omega
       | false =>
         have HFL:=hid (show (List.range (j+1)).filter (Nr.told T0)=(List.range j).filter (Nr.told T0) from by
          rw[List.range_succ,List.filter_append,List.filter_cons,ArY (by rw[HTD.out];decide),List.filter_nil,AsM])
         go_wp2
         go_roundw
         case rel=>exact⟨j+1,by omega,by go_num,by rw[HFL.out],by rw[HFL.out];exact HO9.out,HB9.out⟩
         case measure=>simp[intOf];omega
      obtain rfl:j=p.secs.length:=by omega
      have d1:decide ((p.secs.length:Int)<(p.secs.length:Int))=false:=aB (by omega)
      rw[EN.out] at HO ⊢
      have hlt:=HO.out.lt
      obtain⟨hln,Bx,dx,rfl,-,hRx⟩:=Lies.Row.of_own (E:=aF) HO.out
      have HNW:=hid (λa (ha:Bx=some a)=>ArS (BF.out _ T7.out).size (hlt a.block (by rw[ha];rfl)).1)
      have HRX:=hid hRx
      have HBX:=hid (BF.out _ HB8.out)
      clear hRx htb hfl hln hlt
      go_wp2_with fail
      refine bodyPost_ret ?_ rfl ⟨Bx,dx,rfl,HRX.out,HBX.out,HNW.out⟩
      simp[results,Tryz.results76,go_sem]
 --]
end
end Go.Proofs.YtjofpclmbjpgjaaGreat
