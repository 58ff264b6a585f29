/- Lemmas. -/
import Derived.Test.YtjofpclmbjpgjaaGreatMk26
set_option maxHeartbeats 16000000
set_option maxRecDepth 100000
namespace Go.Proofs.YtjofpclmbjpgjaaGreat
open Lib (hid)
open Go.RowKit
theorem yL (p:Pl.Plan) (hf:Pl.Fit p) (hm:Lp.Meas p) (hap:0<=p.ap/\p.ap<=1125899906842624) (hho:0<=p.ho/\p.ho<=1125899906842624) (A:Option Addr) (c:Nat) (A':Option Addr) (c':Nat) (w:World) (h:PlanIn w p A A') :
 Calls Tryz.prog 7 #[aR p A c A' c'] w (TableMade (Tb.make p) w):=by
 obtain⟨hP,hZ,hB⟩:=eN w (aD p A c A' c') tbZ
 have X0:=hid hB
 have HI:=hid (h.below hB)
 have HH:=hid (AsG hP hZ)
 have CA:=hid (λW (hI:PlanIn W p A A')=>AhK p hf hm hap hho A c A' c' W hI)
 have HLN:=hid (Rt.all_len p)
 have HSM:=hid (Rt.lI hf)
 have HMK:=hid (show Tb.make p=if (Rt.all p).2=0 then(⟨p.secs.map Pl.Sec.name,p.secs.map Pl.Sec.pt,p.sigs.map Pl.Sig.name,p.se,(Rt.all p).1,Cl.rows (Rt.all p).1⟩,0) else(Tb.zero,(Rt.all p).2) from rfl)
 have hfew:=hf.gfew
 have hfews:=hf.few
 have gp:=(ArL hP).1
 have gz:=(ArL hZ).1
 clear h hf hm hap hho hP hZ hB
 generalize Tb.make p=mk at HMK ⊢
 generalize Rt.all p=u at CA HLN HSM HMK
 obtain⟨R,er⟩:=u
 simp only at HLN HSM HMK
 go_enter Tryz.func7,Tryz.ntmps7
 go_upto_region 1 with fail
 generalize (w.alloc (aD p A c A' c')).alloc tbZ=w1 at X0 HI HH gp gz ⊢
 generalize hgz:w.heap.size+1=gz' at HH gz ⊢
 generalize hgp:w.heap.size=gp' at HH gp ⊢
 have GZ:=hid (AsG hgz hgp)
 have KP:=hid (λW (hW:Below w1.heap.size w1 W)=>(row6 ((hW.block _ gp).trans HH.out.1)).1)
 have KZ:=hid (λW (hW:Below w1.heap.size w1 W)=>(hW.block _ gz).trans HH.out.2)
 have B0:=hid (AtB w1)
 have GL:=hid (AsG gp gz)
 clear hgz hgp
 obtain⟨p0,p1,p2,p3,p4,p5⟩:=KP.out _ B0.out
 go_wp2_with fail
 refine(CA.out _ HI.out).mono ?_;rintro e w2 ⟨A4,c4,rfl,hc4,hR,hb2⟩
 have HR:=hid hR
 have B2:=hid hb2
 clear hR hb2 CA p0 p1 p2 p3 p4 p5 gp gz
 have XW:=hid (show Below w.heap.size w w1 from X0.out)
 by_cases her:er=0
 ·subst her
  have EM:=hid (show mk=(⟨p.secs.map Pl.Sec.name,p.secs.map Pl.Sec.pt,p.sigs.map Pl.Sig.name,p.se,R,Cl.rows R⟩,0) from HMK.out)
  have CM:=hid (λW (hW:Below w2.heap.size w2 W)=>uU A4 c4 R W ((HR.out.below hW).in_) (λr hr=>by
   obtain⟨h1,h2,h3,-,-⟩:=HSM.out r hr
   exact⟨by omega,by omega,by omega⟩) (ArS HLN.out (by omega)))
  have T0:=hid (AtB w2)
  have KS:=hid (λW (hW:Below w2.heap.size w2 W)=>(KP.out W (B2.out.trans (hW.mono B2.out.size))).2.2.1)
  clear HMK HSM
  have p2:=KS.out _ T0.out
  go_upto_region 4 with fail
  go_cut [6] from 18 to 23 (λs6 w'=>∃ (g:Nat) (A5:Option Addr) (c5:Nat),s6=.pointer (some ⟨g,0,none⟩)/\w'.heap[g]?=some (.cells #[.slice none 0 0,.slice none 0 0,.slice none 0 0,.int .i64 p.se,.slice A4 R.length c4,.slice A5 (Cl.rows R).length c5] 34)/\w2.heap.size<=g/\SetsAp w2.heap.size w' (some g) A5 (Cl.rows R)/\Below w2.heap.size w2 w')
  case first =>
   --[
   clear p2
   go_region_held3 (λW'=>W'.cell? ⟨gp',2,none⟩=some (.int .i64 p.se))
    (first|with_reducible exact KS.out _ T0.out.drew|with_reducible exact KS.out _ (T0.out.alloc T0.out.size _).drew|with_reducible exact KS.out _ h5|with_reducible exact KS.out _ (h5.alloc h5.size _)|with_reducible exact KS.out _ (eO h5 (ArR _))|(go_keep;done))
    (first
     | (go_at_call 16;(with_reducible refine(CM.out _ T0.out.drew).mono ?_);rintro e5 w5 ⟨A5,c5,rfl,hS5,hl5⟩;have HS5:=hid (show SetsNew w2.heap.size w5 A5 (Cl.rows R) from hS5);clear hS5;have h5:=T0.out.drew.trans (hl5.mono T0.out.drew.size);have hgx:=h5.size)
     | (go_at_call 16;(with_reducible refine(CM.out _ (T0.out.alloc T0.out.size tbZ).drew).mono ?_);rintro e5 w5 ⟨A5,c5,rfl,hS5,hl5⟩;have HS5:=hid (hS5.base (show w2.heap.size+1<=(w2.alloc tbZ).drew.heap.size from Nat.le_of_eq (by simp[World.drew])));clear hS5;have h5:=(T0.out.alloc T0.out.size tbZ).drew.trans (hl5.mono (T0.out.alloc T0.out.size tbZ).drew.size);have hpz:=(hl5.block w2.heap.size (by simp)).trans (AsW w2 tbZ);obtain⟨⟨z0,z1,z2,z3,z4,z5⟩,⟨y0,y1,y2,y3,y4,y5⟩,zg⟩:=row6 hpz))
   all_goals go_wp2_with fail
   all_goals go_meet
   all_goals refine⟨_,A5,c5,rfl,?_,?_,?_,?_⟩
   all_goals first
    | with_reducible exact AsW _ _
    | with_reducible exact h5.alloc h5.size _
    | with_reducible exact sF hpz
    | with_reducible exact eO h5 (ArR _)
    | with_reducible exact hgx
    | with_reducible exact ArR _
    | with_reducible exact HS5.out.laid (ArR _) _
    | with_reducible exact HS5.out.put6 (Nat.lt_succ_self _) (Nat.le_succ _)
   --]
  case rest =>
  obtain⟨g,A5,c5,rfl,hg,hge,hS,hb5⟩:=hcut
  generalize wc=w5 at hg hS hb5 ⊢
  have B5:=hid hb5
  have HS:=hid hS
  have S0:=hid (TbB.start hg)
  have HGE:=hid hge
  have B15:=hid (B2.out.trans (hb5.mono B2.out.size))
  have hgl:=(ArL hg).1
  have KB:=hid (λW (hW:TbBut g w5 W)=>show Below w1.heap.size w1 W from(B2.out.trans (hb5.mono B2.out.size)).trans (hW.to (ArS B2.out.size hge) (ArS B2.out.size hb5.size)))
  clear hg hge hS hb5 hgl p2 KS CM T0
  obtain⟨-,-,-,-,p4,p5⟩:=KP.out _ B15.out
  have gp:=GL.out.1
  have hs15:=B15.out.size
  go_wp2_with fail
  go_loopw [7] (λv7 w'=>∃ (i:Nat) (A0:Option Addr) (c0:Nat) (A1:Option Addr) (c1:Nat),i<=p.secs.length/\v7=.int .i64 i/\TbB g w5 w' #[.slice A0 i c0,.slice A1 i c1,.slice none 0 0,.int .i64 p.se,.slice A4 R.length c4,.slice A5 (Cl.rows R).length c5] (.slice A0 i c0) ((p.secs.take i).map Pl.Sec.name) (.slice A1 i c1) ((p.secs.take i).map Pl.Sec.pt)) (λv7 _=>p.secs.length-(intOf v7).toNat)
  case atStart=>exact⟨0,none,0,none,0,AsD _,rfl,S0.out⟩
  case round =>
   clear S0 p4 p5 gp hs15
   obtain⟨i,A0,c0,A1,c1,hi,rfl,hT⟩:=hrel
   have H:=hid hT
   have BW:=hid (KB.out _ hT.but)
   obtain⟨-,-,-,-,p4,p5⟩:=KP.out _ BW.out
   have gp:=AsE GL.out.1 BW.out.size
   clear hT
   by_cases hlt:i<p.secs.length
   ·--[
    obtain⟨d1,j0,j1⟩:=ArK (show i<p.secs.length by omega)
    obtain⟨b,o,rfl,hbb,on⟩:=(HI.out.1.below rfl BW.out).at hlt
    have HTN:=hid (show (p.secs.take (i+1)).map Pl.Sec.name=(p.secs.take i).map Pl.Sec.name++[p.secs[i].name] from by
     rw[AsK hlt,List.map_append];rfl)
    have HTP:=hid (show (p.secs.take (i+1)).map Pl.Sec.pt=(p.secs.take i).map Pl.Sec.pt++[p.secs[i].pt] from by
     rw[AsK hlt,List.map_append];rfl)
    have HLN:=hid (show ((p.secs.take i).map Pl.Sec.name).length=i from by rw[AsH,AsU];omega)
    have HLP:=hid (show ((p.secs.take i).map Pl.Sec.pt).length=i from by rw[AsH,AsU];omega)
    generalize hsn:p.secs[i].name=sn at HTN
    generalize hsp:p.secs[i].pt=sp at HTP
    have HSN:=hid (AsG hsn hsp)
    clear hsn hsp on
    generalize (p.secs.take i).map Pl.Sec.name=Ns at H HTN HLN
    generalize (p.secs.take i).map Pl.Sec.pt=Ps at H HTP HLP
    have KS:=hid (λW (hW:TbBut g w5 W)=>show W.cell? ⟨gp',4,none⟩=some (.slice (some ⟨b,o,none⟩) p.secs.length c)/\W.cell? ⟨b,o+i*12,none⟩=some (.string (txt sn))/\W.cell? ⟨b,o+i*12+1,none⟩=some (.bool sp) from by
     have hW1:=KB.out _ hW
     obtain⟨b',o',e,-,on⟩:=(HI.out.1.below rfl hW1).at hlt
     cases e
     have:=bE on
     rw[HSN.out.1,HSN.out.2] at this
     exact⟨(KP.out _ hW1).2.2.2.2.1,this.1,this.2.1⟩)
    have HT:=hid (λW v0 N v1 P (hW:TbB g w5 W #[.slice A0 i c0,.slice A1 i c1,.slice none 0 0,.int .i64 p.se,.slice A4 R.length c4,.slice A5 (Cl.rows R).length c5] v0 N v1 P) l=>TwoS.of (C:=λW=>W.cell? ⟨gp',4,none⟩=some (.slice (some ⟨b,o,none⟩) p.secs.length c)/\W.cell? ⟨b,o+i*12,none⟩=some (.string (txt sn))/\W.cell? ⟨b,o+i*12+1,none⟩=some (.bool sp)) (k0:=21) (D0:=λW=>W.cell? ⟨g,0,none⟩=some (.slice A0 i c0)) (k1:=23) (D1:=λW=>W.cell? ⟨g,1,none⟩=some (.slice A1 i c1)) (l:=l) (KS.out _ hW.but) (hW.cell (o:=0) rfl).1 (hW.cell (o:=1) rfl).1)
    have HS0:=hid (λl=>HT.out _ _ _ _ _ (H.out.below (AtB wr).drew) l)
    obtain⟨i0',hi,hz0,hz1,hz2⟩:=info_parts pL
    obtain⟨j0,ji,jz0,jz1,jz2⟩:=info_parts AlZ
    have HS5:=H.out.but.size
    have XN:=hid ((AtB wr).alloc (ArR _) (.cells #[.string (txt sn)] 9))
    have XNP:=hid (XN.out.alloc XN.out.size (.cells #[.bool sp] 4))
    have XP:=hid ((AtB wr).alloc (ArR _) (.cells #[.bool sp] 4))
    have XPN:=hid (XP.out.alloc XP.out.size (.cells #[.string (txt sn)] 9))
    have RN1:=hid (show LTx.Row (wr.alloc (.cells #[.string (txt sn)] 9)).drew (some ⟨wr.heap.size,0,none⟩) [sn] from Lies.Row.fresh (E:=LTx) wr [sn] 9)
    have RN2:=hid (show LTx.Row ((wr.alloc (.cells #[.string (txt sn)] 9)).alloc (.cells #[.bool sp] 4)).drew (some ⟨wr.heap.size,0,none⟩) [sn] from(show LTx.Row (wr.alloc (.cells #[.string (txt sn)] 9)) (some ⟨wr.heap.size,0,none⟩) [sn] from Lies.Row.fresh (E:=LTx) wr [sn] 9).below rfl ((Below.refl _ _).alloc (ArR _) _).drew)
    have RN3:=hid (show LTx.Row ((wr.alloc (.cells #[.bool sp] 4)).alloc (.cells #[.string (txt sn)] 9)).drew (some ⟨wr.heap.size+1,0,none⟩) [sn] from by
     have:=Lies.Row.fresh (E:=LTx) (wr.alloc (.cells #[.bool sp] 4)) [sn] 9
     rw[show (wr.alloc (.cells #[.bool sp] 4)).heap.size=wr.heap.size+1 by simp] at this
     exact this)
    have GN2:=hid (show ((wr.alloc (.cells #[.string (txt sn)] 9)).alloc (.cells #[.bool sp] 4)).drew.heap[wr.heap.size+1]?=some (.cells #[.bool sp] 4) from by
     have:=AsW (wr.alloc (.cells #[.string (txt sn)] 9)) (.cells #[.bool sp] 4)
     rw[show (wr.alloc (.cells #[.string (txt sn)] 9)).heap.size=wr.heap.size+1 by simp] at this
     exact this)
    have GN3:=hid (show ((wr.alloc (.cells #[.bool sp] 4)).alloc (.cells #[.string (txt sn)] 9)).drew.heap[wr.heap.size]?=some (.cells #[.bool sp] 4) from(heap_alloc_old (wr.alloc (.cells #[.bool sp] 4)) (.cells #[.string (txt sn)] 9) (by simp)).trans (AsW wr _))
    clear hbb p5
    go_upto_region 8 with fail
    refine goesOn.region (S:=TwoS (λW=>W.cell? ⟨gp',4,none⟩=some (.slice (some ⟨b,o,none⟩) p.secs.length c)/\W.cell? ⟨b,o+i*12,none⟩=some (.string (txt sn))/\W.cell? ⟨b,o+i*12+1,none⟩=some (.bool sp)) 21 (λW=>W.cell? ⟨g,0,none⟩=some (.slice A0 i c0)) 23 (λW=>W.cell? ⟨g,1,none⟩=some (.slice A1 i c1))) (by kernel_rfl) ?_
    refine goesOn.takes [(0,[]),(1,[9,21]),(2,[]),(3,[]),(4,[]),(5,[]),(6,[]),(7,[]),(10,[]),(11,[19,23]),(12,[]),(13,[]),(14,[]),(15,[]),(16,[]),(17,[])] (HS0.out _) ?_ (TwoS.lesses (by decide))
    repeat (refine Takes.val (v:=?_) ?_ ?_;rotate_left;(focus (intro W hW;obtain⟨k4,kn,kp⟩:=TwoS.any hW;(try have k0:=TwoS.d0 hW (by decide));(try have k1:=TwoS.d1 hW (by decide));go_simp;try with_reducible rfl));(try simp only[Act.put,ArO,ArP,ArQ]))
    refine Takes.nil ?_
    clear HS0
    refine goesOn.two 8 18 (λK hK=>?_) λK hK=>?_
    focus
     go_simp
     refine hK.out _ _ (HT.out _ _ _ _ _ (H.out.below XN.out.drew) _) ?_
     clear hK K
     (try simp only[Act.put,ArO,ArP,ArQ])
     refine goesOn.two 9 18 (λK hK=>?_) λK hK=>?_
     focus
      refine aK LTx (by rfl) (.tmp 32) (.tmp 39) 29 (by rfl) w5.heap.size 9 i0' _ 16 Tryz.underlying29 hi hz0 hz1 hz2 rfl (.slice A0 i c0) i (LTx.all Ns) (by rfl) ((H.out.below XN.out.drew).n0 HLN.out) (some ⟨wr.heap.size,0,none⟩) 1 1 [sn] (by rfl) rfl (RN1.out) (by unfold maxLen;omega) (by omega) ((H.out.below XN.out.drew)).but.size ?_
      intro v3 w3 ho hg
      have H3:=hid (((H.out.below XN.out.drew)).name hg ho (by rw[HLN.out]) rfl)
      rw[<-LTx.all_append] at ho
      obtain⟨-,A3',c3',rfl,-,-⟩:=Lies.Row.of_own ho
      clear ho hg
      refine hK.out _ _ (HT.out _ _ _ _ _ H3.out _) ?_
      clear hK K
      (try simp only[Act.put,ArO,ArP,ArQ])
      refine goesOn.takes [(20,[])] (HT.out _ _ _ _ _ H3.out _) ?_ (TwoS.lesses (by decide))
      (refine Takes.val (v:=?_) ?_ ?_;rotate_left;(focus (intro W hW;obtain⟨k4,kn,kp⟩:=TwoS.any hW;(try have k0:=TwoS.d0 hW (by decide));(try have k1:=TwoS.d1 hW (by decide));go_simp;try with_reducible rfl));(try simp only[Act.put,ArO,ArP,ArQ]))
      refine Takes.nil ?_
      refine goesOn.one 18 λK hK=>?_
      go_simp
      refine hK.out _ _ (HT.out _ _ _ _ _ (H3.out.below ((AtB w3).alloc (ArR _) _)) _) ?_
      clear hK K
      (try simp only[Act.put,ArO,ArP,ArQ])
      refine goesOn.one 19 λK hK=>?_
      refine aK LBo (by rfl) (.tmp 42) (.tmp 49) 30 (by rfl) w5.heap.size 4 j0 _ 1 Tryz.underlying30 ji jz0 jz1 jz2 rfl (.slice A1 i c1) i (LBo.all Ps) (by rfl) ((H3.out.below ((AtB w3).alloc (ArR _) _)).n1 HLP.out) (some ⟨w3.heap.size,0,none⟩) 1 1 [sp] (by rfl) rfl (Lies.Row.fresh (E:=LBo) w3 [sp] 4) (by unfold maxLen;omega) (by omega) ((H3.out.below ((AtB w3).alloc (ArR _) _))).but.size ?_
      intro v4 w4 ho hg
      have H4:=hid (((H3.out.below ((AtB w3).alloc (ArR _) _))).point hg ho (by rw[HLP.out]) rfl)
      rw[<-LBo.all_append] at ho
      obtain⟨-,A4',c4',rfl,-,-⟩:=Lies.Row.of_own ho
      clear ho hg
      refine hK.out _ _ (HT.out _ _ _ _ _ H4.out _) ?_
      clear hK K
      (try simp only[Act.put,ArO,ArP,ArQ])
     rotate_left
     focus
      go_simp
      refine hK.out _ _ (HT.out _ _ _ _ _ (H.out.below XNP.out.drew) _) ?_
      clear hK K
      (try simp only[Act.put,ArO,ArP,ArQ])
      refine goesOn.one 9 λK hK=>?_
      refine aK LTx (by rfl) (.tmp 32) (.tmp 39) 29 (by rfl) w5.heap.size 9 i0' _ 16 Tryz.underlying29 hi hz0 hz1 hz2 rfl (.slice A0 i c0) i (LTx.all Ns) (by rfl) ((H.out.below XNP.out.drew).n0 HLN.out) (some ⟨wr.heap.size,0,none⟩) 1 1 [sn] (by rfl) rfl (RN2.out) (by unfold maxLen;omega) (by omega) ((H.out.below XNP.out.drew)).but.size ?_
      intro v3 w3 ho hg
      have H3:=hid (((H.out.below XNP.out.drew)).name hg ho (by rw[HLN.out]) rfl)
      have hx:=hg.block (wr.heap.size+1) (by first|omega|simp<;>omega) (λh=>by have:=(H.out.own0.lt _ h.symm).2;omega)
      rw[GN2.out] at hx
      rw[<-LTx.all_append] at ho
      obtain⟨-,A3',c3',rfl,-,-⟩:=Lies.Row.of_own ho
      clear ho hg
      refine hK.out _ _ (HT.out _ _ _ _ _ H3.out _) ?_
      clear hK K
      (try simp only[Act.put,ArO,ArP,ArQ])
      refine goesOn.takes [(20,[])] (HT.out _ _ _ _ _ H3.out _) ?_ (TwoS.lesses (by decide))
      (refine Takes.val (v:=?_) ?_ ?_;rotate_left;(focus (intro W hW;obtain⟨k4,kn,kp⟩:=TwoS.any hW;(try have k0:=TwoS.d0 hW (by decide));(try have k1:=TwoS.d1 hW (by decide));go_simp;try with_reducible rfl));(try simp only[Act.put,ArO,ArP,ArQ]))
      refine Takes.nil ?_
      refine goesOn.one 19 λK hK=>?_
      refine aK LBo (by rfl) (.tmp 42) (.tmp 49) 30 (by rfl) w5.heap.size 4 j0 _ 1 Tryz.underlying30 ji jz0 jz1 jz2 rfl (.slice A1 i c1) i (LBo.all Ps) (by rfl) (H3.out.n1 HLP.out) (some ⟨wr.heap.size+1,0,none⟩) 1 1 [sp] (by rfl) rfl (jW (E:=LBo) (X:=[sp]) hx) (by unfold maxLen;omega) (by omega) (H3.out).but.size ?_
      intro v4 w4 ho hg
      have H4:=hid ((H3.out).point hg ho (by rw[HLP.out]) rfl)
      rw[<-LBo.all_append] at ho
      obtain⟨-,A4',c4',rfl,-,-⟩:=Lies.Row.of_own ho
      clear ho hg
      refine hK.out _ _ (HT.out _ _ _ _ _ H4.out _) ?_
      clear hK K
      (try simp only[Act.put,ArO,ArP,ArQ])
    rotate_left 2
    focus
     go_simp
     refine hK.out _ _ (HT.out _ _ _ _ _ (H.out.below XP.out.drew) _) ?_
     clear hK K
     (try simp only[Act.put,ArO,ArP,ArQ])
     refine goesOn.one 8 λK hK=>?_
     go_simp
     refine hK.out _ _ (HT.out _ _ _ _ _ (H.out.below XPN.out.drew) _) ?_
     clear hK K
     (try simp only[Act.put,ArO,ArP,ArQ])
     refine goesOn.one 9 λK hK=>?_
     refine aK LTx (by rfl) (.tmp 32) (.tmp 39) 29 (by rfl) w5.heap.size 9 i0' _ 16 Tryz.underlying29 hi hz0 hz1 hz2 rfl (.slice A0 i c0) i (LTx.all Ns) (by rfl) ((H.out.below XPN.out.drew).n0 HLN.out) (some ⟨wr.heap.size+1,0,none⟩) 1 1 [sn] (by rfl) rfl (RN3.out) (by unfold maxLen;omega) (by omega) ((H.out.below XPN.out.drew)).but.size ?_
     intro v3 w3 ho hg
     have H3:=hid (((H.out.below XPN.out.drew)).name hg ho (by rw[HLN.out]) rfl)
     have hx:=hg.block wr.heap.size (by first|omega|simp<;>omega) (λh=>by have:=(H.out.own0.lt _ h.symm).2;omega)
     rw[GN3.out] at hx
     rw[<-LTx.all_append] at ho
     obtain⟨-,A3',c3',rfl,-,-⟩:=Lies.Row.of_own ho
     clear ho hg
     refine hK.out _ _ (HT.out _ _ _ _ _ H3.out _) ?_
     clear hK K
     (try simp only[Act.put,ArO,ArP,ArQ])
     refine goesOn.takes [(20,[])] (HT.out _ _ _ _ _ H3.out _) ?_ (TwoS.lesses (by decide))
     (refine Takes.val (v:=?_) ?_ ?_;rotate_left;(focus (intro W hW;obtain⟨k4,kn,kp⟩:=TwoS.any hW;(try have k0:=TwoS.d0 hW (by decide));(try have k1:=TwoS.d1 hW (by decide));go_simp;try with_reducible rfl));(try simp only[Act.put,ArO,ArP,ArQ]))
     refine Takes.nil ?_
     refine goesOn.one 19 λK hK=>?_
     refine aK LBo (by rfl) (.tmp 42) (.tmp 49) 30 (by rfl) w5.heap.size 4 j0 _ 1 Tryz.underlying30 ji jz0 jz1 jz2 rfl (.slice A1 i c1) i (LBo.all Ps) (by rfl) (H3.out.n1 HLP.out) (some ⟨wr.heap.size,0,none⟩) 1 1 [sp] (by rfl) rfl (jW (E:=LBo) (X:=[sp]) hx) (by unfold maxLen;omega) (by omega) (H3.out).but.size ?_
     intro v4 w4 ho hg
     have H4:=hid ((H3.out).point hg ho (by rw[HLP.out]) rfl)
     rw[<-LBo.all_append] at ho
     obtain⟨-,A4',c4',rfl,-,-⟩:=Lies.Row.of_own ho
     clear ho hg
     refine hK.out _ _ (HT.out _ _ _ _ _ H4.out _) ?_
     clear hK K
     (try simp only[Act.put,ArO,ArP,ArQ])
    all_goals
     obtain⟨y0,q0,gg4⟩:=H4.out.cell (o:=0) rfl
     obtain⟨y1,q1,-⟩:=H4.out.cell (o:=1) rfl
     refine goesOn.one 21 λK hK=>?_
     go_simp
     refine hK.out _ _ (TwoS.of1 (KS.out _ (H4.out.put 0 _).but) (by kernel_rfl) ((H4.out.put 0 _).cell (o:=1) rfl).1) ?_
     clear hK K
     (try simp only[Act.put,ArO,ArP,ArQ])
     refine goesOn.takes [(22,[])] (TwoS.of1 (KS.out _ (H4.out.put 0 _).but) (by kernel_rfl) ((H4.out.put 0 _).cell (o:=1) rfl).1) ?_ (TwoS.lesses (by decide))
     (refine Takes.val (v:=?_) ?_ ?_;rotate_left;(focus (intro W hW;obtain⟨k4,kn,kp⟩:=TwoS.any hW;(try have k0:=TwoS.d0 hW (by decide));(try have k1:=TwoS.d1 hW (by decide));go_simp;try with_reducible rfl));(try simp only[Act.put,ArO,ArP,ArQ]))
     refine Takes.nil ?_
     refine goesOn.one 23 λK hK=>?_
     go_simp
     refine hK.out _ _ (TwoS.of2 (KS.out _ ((H4.out.put 0 _).put 1 _).but) (by kernel_rfl) (by kernel_rfl)) ?_
     clear hK K
     (try simp only[Act.put,ArO,ArP,ArQ])
     refine goesOn.done (by kernel_rfl) ?_ _
     go_wp2
     go_roundw
     case rel=>exact⟨i+1,_,_,_,_,by omega,by go_num,by rw[HTN.out,HTP.out];exact(H4.out.put 0 _).put 1 _⟩
     case measure=>simp[intOf];omega
    --]
   obtain⟨w6,hw6⟩:∃ w6:World,w6=wr:=⟨wr,rfl⟩
   subst hw6
   obtain rfl:i=p.secs.length:=by omega
   have d1:decide ((p.secs.length:Int)<(p.secs.length:Int))=false:=aB (by omega)
   have H6:=hid (show TbB g w5 w6 #[.slice A0 p.secs.length c0,.slice A1 p.secs.length c1,.slice none 0 0,.int .i64 p.se,.slice A4 R.length c4,.slice A5 (Cl.rows R).length c5] (.slice A0 p.secs.length c0) (p.secs.map Pl.Sec.name) (.slice A1 p.secs.length c1) (p.secs.map Pl.Sec.pt) from by have:=H.out;rw[List.take_length] at this;exact this)
   have T6:=hid (TbB.start H6.out.tab)
   have KC:=hid (λW (hW:TbBut g w6 W)=>show Below w1.heap.size w1 W from BW.out.trans (hW.to (ArS B2.out.size HGE.out) BW.out.size))
   clear H hi
   go_wp2_with fail
   clear p4 p5 gp
   go_loopw [8] (λv8 w'=>∃ (j:Nat) (A2:Option Addr) (c2:Nat),j<=p.sigs.length/\v8=.int .i64 j/\TbB g w6 w' #[.slice A0 p.secs.length c0,.slice A1 p.secs.length c1,.slice A2 j c2,.int .i64 p.se,.slice A4 R.length c4,.slice A5 (Cl.rows R).length c5] (.slice A2 j c2) ((p.sigs.take j).map Pl.Sig.name) (.slice none 0 0) []) (λv8 _=>p.sigs.length-(intOf v8).toNat)
   case atStart=>exact⟨0,none,0,AsD _,rfl,T6.out⟩
   case round =>
    clear T6
    obtain⟨j,A2,c2,hj,rfl,hT⟩:=hrel
    have H:=hid hT
    have BW7:=hid (KC.out _ hT.but)
    obtain⟨-,-,-,-,p4,p5⟩:=KP.out _ BW7.out
    have gp:=AsE GL.out.1 BW7.out.size
    clear hT
    by_cases hlt:j<p.sigs.length
    ·--[
     have HX:=hid (ArN hlt)
     obtain⟨d2,i0,i1⟩:=ArK (show j<p.sigs.length by omega)
     obtain⟨b,o,rfl,hbb,on⟩:=(HI.out.2.below rfl BW7.out).at hlt
     have HTK:=hid (show (p.sigs.take (j+1)).map Pl.Sig.name=(p.sigs.take j).map Pl.Sig.name++[p.sigs[j].name] from by
      rw[AsK hlt,List.map_append];rfl)
     have HLL:=hid (show ((p.sigs.take j).map Pl.Sig.name).length=j from by rw[AsH,AsU];omega)
     obtain⟨s0,-,-⟩:=cF on
     rw[show j*bD.m=j*3 from rfl] at s0
     generalize hsn:p.sigs[j].name=sn at s0 HTK
     have HSN:=hid hsn
     clear hsn
     generalize (p.sigs.take j).map Pl.Sig.name=Ns at H HTK HLL
     obtain⟨x2,f2,gg⟩:=H.out.cell (o:=2) rfl
     obtain⟨i0',hi,hz0,hz1,hz2⟩:=info_parts pL
     have XN:=hid ((AtB wr).alloc (ArR _) (.cells #[.string (txt sn)] 9))
     have RN:=hid (show LTx.Row (wr.alloc (.cells #[.string (txt sn)] 9)).drew (some ⟨wr.heap.size,0,none⟩) [sn] from Lies.Row.fresh (E:=LTx) wr [sn] 9)
     have HS6:=H.out.but.size
     have KS:=hid (λW (hW:TbBut g w6 W)=>show W.cell? ⟨gp',5,none⟩=some (.slice (some ⟨b,o,none⟩) p.sigs.length c')/\W.cell? ⟨b,o+j*3,none⟩=some (.string (txt sn)) from
      ⟨(KP.out _ (KC.out _ hW)).2.2.2.2.2,by
        have hW1:=KC.out _ hW
        obtain⟨b',o',e,-,on⟩:=(HI.out.2.below rfl hW1).at hlt
        cases e
        have:=(cF on).1
        rw[HSN.out] at this
        exact this⟩)
     have HT:=hid (λW v0 N v1 P (hW:TbB g w6 W #[.slice A0 p.secs.length c0,.slice A1 p.secs.length c1,.slice A2 j c2,.int .i64 p.se,.slice A4 R.length c4,.slice A5 (Cl.rows R).length c5] v0 N v1 P) l=>TwoS.of (C:=λW=>W.cell? ⟨gp',5,none⟩=some (.slice (some ⟨b,o,none⟩) p.sigs.length c')/\W.cell? ⟨b,o+j*3,none⟩=some (.string (txt sn))) (k0:=11) (D0:=λW=>W.cell? ⟨g,2,none⟩=some (.slice A2 j c2)) (k1:=11) (D1:=λW=>W.cell? ⟨g,2,none⟩=some (.slice A2 j c2)) (l:=l) (KS.out _ hW.but) (hW.cell (o:=2) rfl).1 (hW.cell (o:=2) rfl).1)
     have HS0:=hid (λl=>HT.out _ _ _ _ _ (H.out.below (AtB wr).drew) l)
     clear on HX p4 gp s0 hbb x2 f2 gg
     go_upto_region 12 with fail
     refine goesOn.region (S:=TwoS (λW=>W.cell? ⟨gp',5,none⟩=some (.slice (some ⟨b,o,none⟩) p.sigs.length c')/\W.cell? ⟨b,o+j*3,none⟩=some (.string (txt sn))) 11 (λW=>W.cell? ⟨g,2,none⟩=some (.slice A2 j c2)) 11 (λW=>W.cell? ⟨g,2,none⟩=some (.slice A2 j c2))) (by kernel_rfl) ?_
     refine goesOn.takes [(0,[]),(1,[9,11]),(2,[]),(3,[]),(4,[]),(5,[]),(6,[]),(7,[])] (HS0.out _) ?_ (TwoS.lesses (by decide))
     repeat (refine Takes.val (v:=?_) ?_ ?_;rotate_left;(focus (intro W hW;obtain⟨k4,kn⟩:=TwoS.any hW;(try have k0:=TwoS.d0 hW (by decide));(try have k1:=TwoS.d1 hW (by decide));go_simp;try with_reducible rfl));(try simp only[Act.put,ArO,ArP,ArQ]))
     refine Takes.nil ?_
     clear HS0
     refine goesOn.one 8 λK hK=>?_
     go_simp
     refine hK.out _ _ (HT.out _ _ _ _ _ (H.out.below XN.out.drew) _) ?_
     clear hK K
     (try simp only[Act.put,ArO,ArP,ArQ])
     refine goesOn.one 9 λK hK=>?_
     refine aK LTx (by rfl) (.tmp 61) (.tmp 68) 29 (by rfl) w6.heap.size 9 i0' _ 16 Tryz.underlying29 hi hz0 hz1 hz2 rfl (.slice A2 j c2) j (LTx.all Ns) (by rfl) ((H.out.below XN.out.drew).n0 HLL.out) (some ⟨wr.heap.size,0,none⟩) 1 1 [sn] (by rfl) rfl (RN.out) (by unfold maxLen;omega) (by omega) ((H.out.below XN.out.drew)).but.size ?_
     intro v3 w3 ho hg
     have H3:=hid (((H.out.below XN.out.drew)).name hg ho (by rw[HLL.out]) rfl)
     rw[<-LTx.all_append] at ho
     obtain⟨-,A3',c3',rfl,-,-⟩:=Lies.Row.of_own ho
     clear ho hg
     refine hK.out _ _ (HT.out _ _ _ _ _ H3.out _) ?_
     clear hK K
     (try simp only[Act.put,ArO,ArP,ArQ])
     obtain⟨y2,q2,gg3⟩:=H3.out.cell (o:=2) rfl
     refine goesOn.takes [(10,[])] (HT.out _ _ _ _ _ H3.out _) ?_ (TwoS.lesses (by decide))
     (refine Takes.val (v:=?_) ?_ ?_;rotate_left;(focus (intro W hW;obtain⟨k4,kn⟩:=TwoS.any hW;(try have k0:=TwoS.d0 hW (by decide));(try have k1:=TwoS.d1 hW (by decide));go_simp;try with_reducible rfl));(try simp only[Act.put,ArO,ArP,ArQ]))
     refine Takes.nil ?_
     refine goesOn.one 11 λK hK=>?_
     go_simp
     refine hK.out _ _ (TwoS.of2 (KS.out _ (H3.out.put 2 _).but) (by kernel_rfl) (by kernel_rfl)) ?_
     clear hK K
     (try simp only[Act.put,ArO,ArP,ArQ])
     refine goesOn.done (by kernel_rfl) ?_ _
     go_wp2
     go_roundw
     case rel=>exact⟨j+1,_,_,by omega,by go_num,by rw[HTK.out];exact H3.out.put 2 _⟩
     case measure=>simp[intOf];omega
     --]
    obtain rfl:j=p.sigs.length:=by omega
    have d2:decide ((p.sigs.length:Int)<(p.sigs.length:Int))=false:=aB (by omega)
    have FT:=hid (show TableFar w1.heap.size wr ⟨A0,c0,A1,c1,A2,c2,A4,c4,A5,c5,⟨p.secs.map Pl.Sec.name,p.secs.map Pl.Sec.pt,p.sigs.map Pl.Sig.name,p.se,R,Cl.rows R⟩⟩ from
     TableFar.up (AsH ..) (AsH ..) (AsH ..) H6.out (by have:=H.out;rw[List.take_length] at this;exact this) HR.out B5.out HGE.out HS.out B2.out.size)
    have HZ:=hid (KZ.out _ BW7.out)
    obtain⟨⟨x0,x1,x2,x3,x4,x5⟩,-,gx⟩:=row6 H.out.tab
    obtain⟨⟨z0,z1,z2,z3,z4,z5⟩,⟨e0,e1,e2,e3,e4,e5⟩,gz⟩:=row6 HZ.out
    have hne:g≠gz':=by have:=HGE.out;have:=B2.out.size;have:=GL.out.2;omega
    have FIN:=hid (λv0 v1 v2 v3 v4 v5=>TableMade.put (x:=(⟨p.secs.map Pl.Sec.name,p.secs.map Pl.Sec.pt,p.sigs.map Pl.Sig.name,p.se,R,Cl.rows R⟩,0)) (w:=w) (v0:=v0) (v1:=v1) (v2:=v2) (v3:=v3) (v4:=v4) (v5:=v5) rfl FT.out HZ.out GL.out.2 (by have:=GZ.out;omega) (XW.out.trans (BW7.out.mono XW.out.size)))
    have L0:(p.secs.map Pl.Sec.name).length=p.secs.length:=AsH ..
    have L1:(p.secs.map Pl.Sec.pt).length=p.secs.length:=AsH ..
    have L2:(p.sigs.map Pl.Sig.name).length=p.sigs.length:=AsH ..
    clear FT H H6
    go_wp2_with fail
    refine bodyPost_ret ?_ rfl (by rw[EM.out];exact FIN.out _ _ _ _ _ _)
    simp[results,Tryz.results7,go_sem, *]
 --[
 have D:(er != 0)=true:=by rw[AsV];exact her
 have EM:=hid (show mk=(Tb.zero,er) from by rw[HMK.out,ArY her])
 have HZ:=hid (KZ.out _ B2.out)
 obtain⟨⟨z0,z1,z2,z3,z4,z5⟩,⟨e0,e1,e2,e3,e4,e5⟩,gz⟩:=row6 HZ.out
 have FIN:=hid (λv0 v1 v2 v3 v4 v5=>TableMade.put (x:=(Tb.zero,er)) (w:=w) (v0:=v0) (v1:=v1) (v2:=v2) (v3:=v3) (v4:=v4) (v5:=v5) (m:=⟨none,0,none,0,none,0,none,0,none,0,Tb.zero⟩) rfl (TableFar.zero w1.heap.size w2) HZ.out GL.out.2 (by have:=GZ.out;omega) (XW.out.trans (B2.out.mono XW.out.size)))
 clear her
 go_wp2_with fail
 refine bodyPost_ret ?_ rfl (by rw[EM.out];exact FIN.out _ _ _ _ _ _)
 simp[results,Tryz.results7,go_sem,Tb.zero, *]
 --]
end Go.Proofs.YtjofpclmbjpgjaaGreat
namespace Go.Proofs.YtjofpclmbjpgjaaGreat.Tb
open Lib (hid)
open Go Pl Wk
def rises (l:List Int):Bool:=ups (λi=>decide (l.getD (i-1) 0<l.getD i 0)) 1 l.length
def risesN (l:List Nm):Bool:=ups (λi=>decide (l.getD (i-1) []<l.getD i [])) 1 l.length
def isIn (x n:Int):Bool:=decide (0<=x) && decide (x<n)
def upTo (x n:Int):Bool:=decide (0<=x) && decide (x<=n)
theorem isIn_iff {x n:Int}:isIn x n=true ↔ 0<=x/\x<n:=by unfold isIn;rw[AsF,AsC,AsC]
theorem ups_over (f:Nat->Bool) {j n:Nat} (h:n<=j):ups f j n=true:=by
 unfold ups
 rw[Nat.sub_eq_zero_of_le h]
 rfl
theorem uV {α:Type} {l:List α} {q:α->Bool}:(!l.any λx=>!q x)=true ↔ ∀ x∈l,q x=true:=by
 rw[Bool.not_eq_true',List.any_eq_false]
 exact⟨λh x hx=>by have:=h x hx;simpa using this,λh x hx=>by rw[h x hx];decide⟩
theorem all_at {α:Type} {l:List α} {p:α->Prop} (d:α):(∀ x∈l,p x) ↔ ∀ i,i<l.length->p (l.getD i d):=by
 constructor
 ·intro h i hi
  rw[getD_at (ArN hi)]
  exact h _ (List.getElem_mem hi)
 intro h x hx
 obtain⟨i,hi,rfl⟩:=List.getElem_of_mem hx
 have:=h i hi
 rwa [getD_at (ArN hi)] at this
theorem mG (n:Nat) {p r:Nat->Prop}:(∀ i,0<=i->i<n->p i/\(i=0∨r i)) ↔ (∀ i,1<=i->i<n->r i)/\∀ i,i<n->p i :=
 ⟨λh=>⟨λi hi hn=>(h i (AsD _) hn).2.elim (λe=>by omega) id,λi hi=>(h i (AsD _) hi).1⟩,λh i _ hi=>⟨h.2 i hi,(Nat.eq_zero_or_pos i).imp id λh0=>h.1 i h0 hi⟩⟩
theorem places_eq (l:List Int) (n:Int):(rises l && !l.any λx=>!isIn x n)=risingOk l n:=by
 rw[Bool.eq_iff_iff,AsF,uV,all_at 0,rises,risingOk,bX,bX]
 simp only[AlU,isIn_iff,AsF,Bool.or_eq_true,AsC]
 exact(mG l.length (p:=λi=>0<=l.getD i 0/\l.getD i 0<n) (r:=λi=>l.getD (i-1) 0<l.getD i 0)).symm
theorem named_eq (l:List Nm):(risesN l && !l.any λx=>!Fig.nameB x)=namesOk l:=by
 rw[Bool.eq_iff_iff,AsF,uV,all_at [],risesN,namesOk,bX,bX]
 simp only[AlT,AsF,Bool.or_eq_true,AsC]
 exact(mG l.length (p:=λi=>Fig.nameB (l.getD i [])=true) (r:=λi=>l.getD (i-1) []<l.getD i [])).symm
def askedOk (pts:List Bool) (n:Int) (x:Dm.Dem):Bool:=isIn x.pt n && pts.getD x.pt.toNat false && ((x.pos == 1) || (x.pos == 2))
theorem asked_eq (pts:List Bool) (l:List Dm.Dem):(l.all (askedOk pts pts.length) && rises (l.map Dm.Dem.pt))=demandsOk pts l:=by
 have hm:∀ i,i<l.length->(l.map Dm.Dem.pt).getD i 0=(l.getD i dem0).pt:=λi hi=>by
  rw[getD_at (ArN hi),getD_at (x:=l[i].pt)]
  rw[List.getElem?_map,ArN hi];rfl
 rw[Bool.eq_iff_iff,AsF,List.all_eq_true,all_at dem0,rises,demandsOk,bX,bX,AsH]
 simp only[AlV,askedOk,isIn_iff,AsF,Bool.or_eq_true,AsC]
 constructor
 ·intro h i _ hi
  obtain⟨⟨⟨h1,h2⟩,h3⟩,h4⟩:=h.1 i hi
  refine⟨⟨⟨⟨h1,h2⟩,h3⟩,h4⟩,(Nat.eq_zero_or_pos i).imp id λh0=>?_⟩
  have:=h.2 i h0 hi
  rwa [hm i hi,hm (i-1) (by omega)] at this
 intro h
 refine⟨λi hi=>?_,λi h0 hi=>?_⟩
 ·obtain⟨⟨⟨⟨h1,h2⟩,h3⟩,h4⟩,-⟩:=h i (AsD _) hi
  exact⟨⟨⟨h1,h2⟩,h3⟩,h4⟩
 rw[hm i hi,hm (i-1) (by omega)]
 exact(h i (AsD _) hi).2.elim (λe=>by omega) id
def throughOk (pt:Bool) (x:Stp):Bool:=(min x.f x.t == 0) && decide (0<max x.f x.t) && decide (max x.f x.t<=if pt=true then 2 else 1)
theorem AcG (pts:List Bool) (x:Stp):throughOk (pts.getD x.s.toNat false) x=pJ pts x:=by
 unfold throughOk pJ
 generalize pts.getD x.s.toNat false=z
 generalize max x.f x.t=k
 rw[Bool.eq_iff_iff]
 simp only[AsF,Bool.or_eq_true,AsC,beq_iff_eq]
 cases z
 ·simp only[Bool.false_eq_true,if_false,and_false,or_false]
  omega
 simp only[if_true,and_true]
 omega
def passOk (pts:List Bool) (l:List Stp) (i:Nat):Bool:=isIn (l.getD i stp0).s pts.length && !within (l.take i) (l.getD i stp0).s && throughOk (pts.getD (l.getD i stp0).s.toNat false) (l.getD i stp0)
def passes (pts:List Bool) (l:List Stp):Bool:=decide ((l.length:Int)<=16) && ups (passOk pts l) 0 l.length
theorem passes_eq (pts:List Bool) (l:List Stp):passes pts l=stepsOk pts l []:=by
 have h:passOk pts l=lH pts l []:=funext λi=>by
  unfold passOk lH isIn
  rw[AcG]
  show _=(_ && _ && _ && !false && _)
  rw[Bool.not_false,Bool.and_true]
 unfold passes stepsOk
 rw[h,Bool.and_comm]
theorem yM (pts:List Bool) (l o:List Stp):stepsOk pts l o=(stepsOk pts l [] && !o.any λx=>within l x.s):=by
 have hw:∀ (l:List Stp) (s:Int),within l s=true ↔ ∃ x∈l,x.s=s:=λl s=>by
  unfold within
  rw[List.any_eq_true]
  simp only[AsC]
 rw[Bool.eq_iff_iff,AsF,Bool.not_eq_true',List.any_eq_false]
 unfold stepsOk
 rw[AsF,AsF,bX,bX]
 have hn:∀ s,within [] s=false:=λ_=>rfl
 simp only[lH,AsF,hn,Bool.not_false,and_true,Bool.not_eq_true']
 constructor
 ·rintro⟨h,h16⟩
  refine⟨⟨λi h0 hi=>?_,h16⟩,λx hx=>?_⟩
  ·obtain⟨⟨h1,-⟩,h2⟩:=h i h0 hi
   exact⟨h1,h2⟩
  intro hwx
  obtain⟨y,hy,hys⟩:=(hw _ _).1 hwx
  obtain⟨i,hi,rfl⟩:=List.getElem_of_mem hy
  have:=(h i (AsD _) hi).1.2
  rw[getD_at (ArN hi),hys] at this
  rw[(hw o x.s).2 ⟨x,hx,rfl⟩] at this
  cases this
 rintro⟨⟨h,h16⟩,ha⟩
 refine⟨λi h0 hi=>?_,h16⟩
 obtain⟨h1,h2⟩:=h i h0 hi
 refine⟨⟨h1,?_⟩,h2⟩
 cases hz:within o (l.getD i stp0).s with
 | false=>rfl
 | true =>
   obtain⟨y,hy,hys⟩:=(hw _ _).1 hz
   refine absurd ((hw _ _).2 ⟨l[i],List.getElem_mem hi,?_⟩) (ha y hy)
   rw[hys,getD_at (ArN hi)]
def possible (t:Table) (r:Rt.Route):Bool :=
 isIn r.entry t.sigs.length && ((r.exit == -1) || isIn r.exit t.sigs.length) && decide (0<(r.steps.length:Int)) && passes t.points r.steps && passes t.points r.lap && (!r.steps.any λx=>within r.lap x.s) && (r.pts.all (askedOk t.points t.points.length) && rises (r.pts.map Dm.Dem.pt)) &&
  asksOk t.points r.pts r.steps && asksOk t.points r.pts r.lap && (rises r.fl && !r.fl.any λx=>!isIn x t.sigs.length) && (rises r.near && !r.near.any λx=>!isIn x t.names.length) && upTo r.dist 281474976710655 && upTo r.timer 4294967295
theorem possible_eq (t:Table) (r:Rt.Route):possible t r=fits t r:=by
 unfold possible fits
 rw[asked_eq,places_eq,places_eq,passes_eq,passes_eq,yM t.points r.lap r.steps]
 generalize (!r.steps.any λx=>within r.lap x.s)=a1
 generalize stepsOk t.points r.steps []=a2
 generalize stepsOk t.points r.lap []=a3
 generalize demandsOk t.points r.pts=a4
 generalize asksOk t.points r.pts r.steps=a5
 generalize asksOk t.points r.pts r.lap=a6
 generalize risingOk r.fl _=a7
 generalize risingOk r.near _=a8
 rw[Bool.eq_iff_iff]
 unfold isIn upTo
 simp only[AsF,Bool.or_eq_true,AsC,beq_iff_eq]
 constructor
 ·rintro⟨⟨⟨⟨⟨⟨⟨⟨⟨⟨⟨⟨h1,h2⟩,h3⟩,h4⟩,h5⟩,h6⟩,h7⟩,h8⟩,h9⟩,h10⟩,h11⟩,h12⟩,h13⟩
  refine⟨⟨⟨⟨⟨⟨⟨⟨⟨⟨⟨⟨⟨⟨⟨h1.1,h1.2⟩,?_⟩,?_⟩,h3⟩,h4⟩,h5,h6⟩,h7⟩,h8⟩,h9⟩,h10⟩,h11⟩,h12.1⟩,?_⟩,h13.1⟩,?_⟩ <;> omega
 rintro⟨⟨⟨⟨⟨⟨⟨⟨⟨⟨⟨⟨⟨⟨⟨h1,h1'⟩,h2⟩,h2'⟩,h3⟩,h4⟩,h5,h6⟩,h7⟩,h8⟩,h9⟩,h10⟩,h11⟩,h12⟩,h12'⟩,h13⟩,h13'⟩
 refine⟨⟨⟨⟨⟨⟨⟨⟨⟨⟨⟨⟨⟨h1,h1'⟩,?_⟩,h3⟩,h4⟩,h5⟩,h6⟩,h7⟩,h8⟩,h9⟩,h10⟩,h11⟩,h12,?_⟩,h13,?_⟩ <;> omega
end Go.Proofs.YtjofpclmbjpgjaaGreat.Tb
