/- Lemmas. -/
import Derived.Test.YtjofpclmbjpgjaaGreatMk40
import Derived.Test.YtjofpclmbjpgjaaGreatMk42
set_option maxHeartbeats 16000000
set_option maxRecDepth 100000
namespace Go.Proofs.YtjofpclmbjpgjaaGreat
open Lib (hid)
open Go.RowKit
theorem AiI (p:Pl.Plan) (hf:Pl.Fit p) (hm:Lp.Meas p) (hap:0<=p.ap/\p.ap<=1125899906842624) (hho:0<=p.ho/\p.ho<=1125899906842624) (A:Option Addr) (c:Nat) (A':Option Addr) (c':Nat) (w:World) (h:PlanIn w p A A') :
 Calls Tryz.prog 13 #[aR p A c A' c'] w (RoutesMade (Rt.all p) w):=by
 have XA:=(AtB w).alloc (ArR _) (aD p A c A' c')
 have X0:=hid XA
 have RP:=hid (AsW w (aD p A c A' c'))
 have HI:=hid (h.below XA)
 have gp:=(ArL RP.out).1
 have hfew:=hf.gfew
 have HFE:=hid hf.few
 have HALL:=hid (show Rt.all p=Rt.from_ p ((List.range p.sigs.length).drop 0) [] from rfl)
 have COF:=hid (λ(i:Nat) (hi:i<p.sigs.length) (y:Cr.Way) (hy:y∈(Cr.of p i).1) (Aw:Option Addr) (cw:Nat) (W:World) (hI:PlanIn W p A A') (hw:TRow 129 aE W Aw y.steps) (hcw:y.steps.length<=cw)=>AmU p hf hm hap hho A c A' c' i hi y hy Aw cw W hI hw hcw)
 have HL:=hid (λ(i:Nat)=>Cr.of_len p i)
 clear XA h hf hm hap hho
 go_enter Tryz.func13,Tryz.ntmps13
 go_upto_region 1 with fail
 generalize w.alloc (aD p A c A' c')=w1 at X0 RP HI gp ⊢
 generalize w.heap.size=gq at RP gp ⊢
 have KP:=hid (λW (hW:Below w1.heap.size w1 W)=>(row6 ((hW.block _ gp).trans RP.out)).1)
 have B0:=hid (AtB w1)
 have GPL:=hid gp
 clear RP gp
 generalize hall:Rt.all p=al at HALL
 have HAL:=hid hall
 clear hall
 obtain⟨p0,p1,p2,p3,p4,p5⟩:=KP.out _ B0.out
 have gp:=GPL.out
 go_wp2_with fail
 clear p0 p1 p2 p3 p4 p5 gp
 go_loopw [4,5,6,7,11,15] (λv4 _ _ _ _ v5 w'=>∃ (i:Nat) (acc:List Rt.Route),i<=p.sigs.length/\v5=.int .i64 i/\acc.length<=30/\OwnR w1.heap.size w' v4 acc/\al=Rt.from_ p ((List.range p.sigs.length).drop i) acc/\Below w1.heap.size w1 w') (λ_ _ _ _ _ v5 _=>p.sigs.length-(intOf v5).toNat)
 case atStart=>exact⟨0,[],AsD _,rfl,AsD _,OwnR.nil _ _,HALL.out,B0.out⟩
 case round =>
  clear HALL
  obtain⟨i,acc,hi,rfl,hacc,hO,hA,hB⟩:=hrel
  obtain⟨Ao,co,rfl,hco,hRI⟩:=hO.routes
  have HO:=hid hO
  have HA:=hid hA
  have HB:=hid hB
  have HRI:=hid hRI
  clear hO hA hB hRI
  obtain⟨p0,p1,p2,p3,p4,p5⟩:=KP.out _ HB.out
  have gp:=AsE GPL.out HB.out.size
  by_cases hlt:i<p.sigs.length
  ·have d1 : decide ((i:Int)<(p.sigs.length:Int))=true:=aC (by omega)
   have CC:=hid (AqE p A c A' c' i wr (HI.out.below HB.out) HFE.out hfew)
   have EA:=hid (HA.out.trans (Rt.from_at hlt acc))
   have hlen:=HL.out i
   have CO2:=hid (COF.out i hlt)
   generalize Cr.of p i=u at CC EA hlen CO2
   obtain⟨L,er⟩:=u
   simp only at hlen CO2
   go_wp2_with fail
   refine CC.out.mono ?_;rintro e w2 ⟨B,d,rfl,hW2,hb2⟩
   have HW2:=hid hW2
   have B2:=hid (HB.out.trans (hb2.mono HB.out.size))
   have O2:=hid (HO.out.below hb2)
   clear hW2 hb2 CC p0 p1 p2 p3 p4 p5 gp HO HB HRI
   by_cases her:er=0
   ·subst her
    have EA2:=hid (show al=(if (Rt.ways p i L acc).2=0 then Rt.from_ p ((List.range p.sigs.length).drop (i+1)) (Rt.ways p i L acc).1 else([],(Rt.ways p i L acc).2)) from EA.out)
    clear EA HA
    go_wp2_with fail
    go_loopw [4,11,29] (λv4 _ v8 w'=>∃ (k:Nat) (ac:List Rt.Route),k<=L.length/\v8=.int .i64 k/\ac.length<=30/\OwnR w1.heap.size w' v4 ac/\Rt.ways p i L acc=Rt.ways p i (L.drop k) ac/\WaysT w' B L/\Below w1.heap.size w1 w') (λ_ _ v8 _=>L.length-(intOf v8).toNat)
    case atStart=>exact⟨0,acc,AsD _,rfl,hacc,O2.out,rfl,HW2.out,B2.out⟩
    case round =>
     clear O2 B2 HW2
     obtain⟨k,ac,hk,rfl,hac,hO,hE,hW,hB⟩:=hrel
     obtain⟨Ap,cp,rfl,hcp,-⟩:=hO.routes
     have HO:=hid hO
     have HE:=hid hE
     have HW:=hid hW
     have HB:=hid hB
     clear hO hE hW hB
     by_cases hkl:k<L.length
     ·have d2:decide ((k:Int)<(L.length:Int))=true:=aC (by omega)
      have hy:=ArN hkl
      have HE2:=hid (HE.out.trans (Rt.ways_at hy ac))
      have hmem:=List.getElem_mem hkl
      obtain⟨b,o,Sy,dy,rfl,hb,c0,c1,hS,hdy⟩:=HW.out.at hy
      have CO3:=hid (CO2.out (L[k]'hkl) hmem)
      have HDY:=hid hdy
      clear hdy
      generalize L[k]=y at c0 c1 hS HE2 CO3 HDY
      obtain⟨ys,yx⟩:=y
      simp only at c0 c1 hS
      have XY:=(AtB wr).alloc (ArR _) (eW Sy ys.length dy yx)
      have HXY:=hid XY
      have RY:=hid (AsW wr (eW Sy ys.length dy yx))
      have i0:(0:Int)<=(k:Int):=ArT k
      have i1:(k:Int)<(L.length:Int):=by omega
      have hS2:=hS.below XY
      clear XY
      by_cases h30:ac.length=30
      ·have D:((ac.length:Int) == 30)=true:=by rw[beq_iff_eq];omega
       have EZ:=hid (show al=([],9) from by
        rw[EA2.out,HE2.out,ArZ h30];rfl)
       clear h30
       go_wp2_with fail
       refine bodyPost_ret (v:=.tuple #[.slice none 0 0,.int .i64 9]) ?_ rfl (by
        rw[HAL.out,EZ.out]
        exact⟨none,0,rfl,ArR _,RoutesFar.nil _ _,X0.out.trans ((HB.out.trans (HXY.out.mono HB.out.size)).mono X0.out.size)⟩)
       simp[results,Tryz.results13,go_sem]
      have D:((ac.length:Int) == 30)=false:=by rw[ArU];omega
      have E3:=hid (show Rt.ways p i L acc=if (Rt.of p i ⟨ys,yx⟩).2=0 then Rt.ways p i (L.drop (k+1)) (ac++[(Rt.of p i ⟨ys,yx⟩).1]) else([],(Rt.of p i ⟨ys,yx⟩).2) from by rw[HE2.out,ArY h30])
      have h29:ac.length<=29:=by omega
      clear h30 HE HE2 hy hmem hac
      go_upto_region 11 with fail
      generalize hw4:wr.alloc (eW Sy ys.length dy yx)=w4 at HXY RY hS2 ⊢
      generalize hgy:wr.heap.size=gy at RY ⊢
      clear hw4 c0 c1
      obtain⟨⟨y0,y1⟩,-,ggy⟩:=pI RY.out
      have B4:=hid (HB.out.trans (HXY.out.mono HB.out.size))
      obtain⟨p0,p1,p2,p3,p4,p5⟩:=KP.out _ B4.out
      have gp4:=AsE GPL.out B4.out.size
      have CO:=hid (CO3.out Sy dy w4 (HI.out.below B4.out) hS2 HDY.out)
      generalize Rt.of p i ⟨ys,yx⟩=ro at E3 CO
      obtain⟨r,e2⟩:=ro
      clear hS hS2 CO3
      go_wp2_with fail
      refine CO.out.mono ?_;rintro e5 w5 ⟨m,hmr,rfl,hPN0,hl5⟩
      have HMR:=hid hmr
      have hPN1:=hPN0.below ((Below.refl _ _).alloc (ArR _) (rtO m))
      have hX5:=(AtB w5).alloc (ArR _) (rtO m)
      have hB61:=(hl5.trans (hX5.mono hl5.size))
      have HPN:=hid (PartsNew.base hPN1 HXY.out.size)
      have HB6:=hid (HXY.out.trans (hB61.mono HXY.out.size))
      have HG:=hid (AsW w5 (rtO m))
      clear hmr hPN0 hl5 hPN1 hX5 hB61 p0 p1 p2 p3 p4 p5 gp4 y0 y1 ggy CO
      go_upto_region 14 with fail
      have hg:=HG.out
      have hPN:=HPN.out
      have hB6:=HB6.out
      have hmr:=HMR.out
      generalize w5.alloc (rtO m)=wc at hg hPN hB6 ⊢
      generalize w5.heap.size=g at hg ⊢
      clear HG HPN HB6 HMR
      have B6:=hid (HB.out.trans (hB6.mono HB.out.size))
      have HW6:=hid (HW.out.below hB6)
      by_cases he2:e2=0
      ·subst he2
       have E4:=hid (show Rt.ways p i L acc=Rt.ways p i (L.drop (k+1)) (ac++[r]) from by rw[E3.out];exact ArZ rfl)
       obtain⟨M,hM,hrow,hparts⟩:=(HO.out.below hB6).ex
       subst hM
       have hj:∀ j,(Value.slice Ap (M.map RouteM.r).length cp).ownBlock=some j->j<wr.heap.size:=λj hj=>HO.out.lt hj
       have HR:=hid (AsG hrow (AsG hparts (AsG hPN (AsG hj hmr))))
       have O7:=hid (hrow.alloc (rtO m))
       have R7:=hid (show LRt.Row (wc.alloc (rtO m)) (some ⟨wc.heap.size,0,none⟩) [m] from Lies.Row.fresh (E:=LRt) wc [m] 92)
       have X7:=hid ((AtB wc).alloc (ArR _) (rtO m))
       have S16:=B6.out.size
       obtain⟨⟨r0,r1,r2,r3,r4,r5,r6,r7,r8⟩,-,gr⟩:=row9 hg
       obtain⟨i0',hi',hz0,hz1,hz2⟩:=info_parts AeG
       clear hB6 hrow hparts hPN hj hmr E3
       go_wp2_with (at_builtin;refine aG LRt _ rfl (.tmp 46) (.tmp 48) 31 rfl w1.heap.size 92 i0' _ 152 Tryz.underlying31 hi' hz0 hz1 hz2 rfl (.slice Ap (M.map RouteM.r).length cp) (M.map RouteM.r).length (LRt.all M) rfl O7.out (some ⟨wc.heap.size,0,none⟩) 1 1 [m] rfl (by decide) rfl R7.out (by omega) (by omega) (by simp;omega) ?_;intro g1 cap1 w8 hown hg1 hgr;have HN:=hid hown;have HG:=hid hg1;have HGR:=hid hgr;clear hown hg1 hgr)
       have O8:=hid (OwnR.snoc HR.out.1 HR.out.2.1 HR.out.2.2.1 HB.out.size HR.out.2.2.2.1 X7.out HN.out HG.out (λj hj=>by
        cases hj
        rcases HGR.out with h|h
        ·exact .inl h
        exact .inr (by rw[h];exact ArR _)))
       rw[HR.out.2.2.2.2] at O8
       have W8:=hid ((HW6.out.below X7.out).grown O7.out HG.out)
       have B8:=hid ((B6.out.trans (X7.out.mono B6.out.size)).grown HG.out (B6.out.trans (X7.out.mono B6.out.size)).size λj hj=>(O7.out.lt j hj).1)
       go_roundw
       case rel=>exact⟨k+1,M.map RouteM.r++[r],by omega,by go_num,by rw[ArV,List.length_singleton];omega,by have h:=O8.out;rw[AsH] at h;exact h,E4.out,W8.out,B8.out⟩
       case measure=>simp[intOf];omega
      have D2:(e2 != 0)=true:=by rw[AsV];exact he2
      have EZ:=hid (show al=([],e2) from by
       have:Rt.ways p i L acc=([],e2):=by rw[E3.out];exact ArY he2
       rw[EA2.out,this];exact ArY he2)
      clear he2
      go_wp2_with fail
      refine bodyPost_ret (v:=.tuple #[.slice none 0 0,.int .i64 e2]) ?_ rfl (by
       rw[HAL.out,EZ.out]
       exact⟨none,0,rfl,ArR _,RoutesFar.nil _ _,X0.out.trans (B6.out.mono X0.out.size)⟩)
      simp[results,Tryz.results13,go_sem]
     obtain rfl:k=L.length:=by omega
     have d2:decide ((L.length:Int)<(L.length:Int))=false:=aB (by omega)
     have HE3:=hid (show Rt.ways p i L acc=(ac,0) from by rw[HE.out,List.drop_length];rfl)
     have EA3:=hid (show al=Rt.from_ p ((List.range p.sigs.length).drop (i+1)) ac from by rw[EA2.out,HE3.out,ArZ rfl])
     go_wp2
     go_roundw
     case rel=>exact⟨i+1,ac,by omega,by go_num,hac,HO.out,EA3.out,HB.out⟩
     case measure=>simp[intOf];omega
   have D:(er != 0)=true:=by rw[AsV];exact her
   have EZ:=hid (show al=([],er) from by rw[EA.out];exact ArY her)
   clear her
   go_wp2_with fail
   refine bodyPost_ret (v:=.tuple #[.slice none 0 0,.int .i64 er]) ?_ rfl (by
    rw[HAL.out,EZ.out]
    exact⟨none,0,rfl,ArR _,RoutesFar.nil _ _,X0.out.trans (B2.out.mono X0.out.size)⟩)
   simp[results,Tryz.results13,go_sem]
  obtain rfl:i=p.sigs.length:=by omega
  have d1:decide ((p.sigs.length:Int)<(p.sigs.length:Int))=false:=aB (by omega)
  have EA:=hid (show al=(acc,0) from by rw[HA.out,List.drop_of_length_le (by rw[List.length_range];exact ArR _)];rfl)
  go_wp2_with fail
  refine bodyPost_ret (v:=.tuple #[.slice Ao acc.length co,.int .i64 0]) ?_ rfl (by
   rw[HAL.out,EA.out]
   exact⟨Ao,co,rfl,hco,HRI.out.base X0.out.size,X0.out.trans (HB.out.mono X0.out.size)⟩)
  simp[results,Tryz.results13,go_sem]
end Go.Proofs.YtjofpclmbjpgjaaGreat
