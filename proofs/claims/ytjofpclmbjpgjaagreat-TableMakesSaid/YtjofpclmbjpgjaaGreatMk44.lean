/- Lemmas. -/
import Derived.Test.YtjofpclmbjpgjaaGreatMk32
import Derived.Test.YtjofpclmbjpgjaaGreatMk43
set_option maxHeartbeats 16000000
set_option maxRecDepth 100000
namespace Go.Proofs.YtjofpclmbjpgjaaGreat
open Lib (hid)
open Go.RowKit
theorem mR (p:Pl.Plan) (hf:Pl.Fit p) (hm:Lp.Meas p) (hap:0<=p.ap/\p.ap<=1125899906842624) (hho:0<=p.ho/\p.ho<=1125899906842624) (A:Option Addr) (c:Nat) (A':Option Addr) (c':Nat) (w:World) (h:PlanIn w p A A') :
 Calls Tryz.prog 6 #[aR p A c A' c'] w (TableMade (Tb.make p) w):=by
 obtain⟨hP,hZ,hB⟩:=eN w (aD p A c A' c') tbZ
 have X0:=hid hB
 have HI:=hid (h.below hB)
 have HH:=hid (AsG hP hZ)
 have CA:=hid (λW (hI:PlanIn W p A A')=>AiI p hf hm hap hho A c A' c' W hI)
 have HLN:=hid (Rt.all_len p)
 have HSM:=hid (Rt.lI hf)
 have HMK:=hid (show Tb.make p=if (Rt.all p).2=0 then(⟨p.secs.map Pl.Sec.name,p.secs.map Pl.Sec.pt,p.sigs.map Pl.Sig.name,p.se,(Rt.all p).1,Cl.rows (Rt.all p).1⟩,0) else(Tb.zero,(Rt.all p).2) from rfl)
 have hfew:=hf.gfew
 have hfews:=hf.few
 have gp:=(ArL hP).1
 have gz:=(ArL hZ).1
 clear h hf hm hap hho hP hZ hB
 generalize Tb.make p=mk at HMK ⊢
 generalize Rt.all p=u at CA HLN HSM HMK
 obtain⟨R,er⟩:=u
 simp only at HLN HSM HMK
 go_enter Tryz.func6,Tryz.ntmps6
 go_upto_region 1 with fail
 generalize (w.alloc (aD p A c A' c')).alloc tbZ=w1 at X0 HI HH gp gz ⊢
 generalize hgz:w.heap.size+1=gz' at HH gz ⊢
 generalize hgp:w.heap.size=gp' at HH gp ⊢
 have GZ:=hid (AsG hgz hgp)
 have KP:=hid (λW (hW:Below w1.heap.size w1 W)=>(row6 ((hW.block _ gp).trans HH.out.1)).1)
 have KZ:=hid (λW (hW:Below w1.heap.size w1 W)=>(hW.block _ gz).trans HH.out.2)
 have B0:=hid (AtB w1)
 have GL:=hid (AsG gp gz)
 clear hgz hgp
 obtain⟨p0,p1,p2,p3,p4,p5⟩:=KP.out _ B0.out
 go_wp2_with fail
 refine(CA.out _ HI.out).mono ?_;rintro e w2 ⟨A4,c4,rfl,hc4,hR,hb2⟩
 have HR:=hid hR
 have B2:=hid hb2
 clear hR hb2 CA p0 p1 p2 p3 p4 p5 gp gz
 have XW:=hid (show Below w.heap.size w w1 from X0.out)
 by_cases her:er=0
 ·subst her
  have EM:=hid (show mk=(⟨p.secs.map Pl.Sec.name,p.secs.map Pl.Sec.pt,p.sigs.map Pl.Sig.name,p.se,R,Cl.rows R⟩,0) from HMK.out)
  have CM:=hid (λW (hW:Below w2.heap.size w2 W)=>kK A4 c4 R W ((HR.out.below hW).in_) (λr hr=>by
   obtain⟨h1,h2,h3,-,-⟩:=HSM.out r hr
   exact⟨by omega,by omega,by omega⟩) (ArS HLN.out (by omega)))
  have T0:=hid (AtB w2)
  have KS:=hid (λW (hW:Below w2.heap.size w2 W)=>(KP.out W (B2.out.trans (hW.mono B2.out.size))).2.2.1)
  clear HMK HSM
  have p2:=KS.out _ T0.out
  go_upto_region 4 with fail
  go_cut [6] from 20 to 25 (λs6 w'=>∃ (g:Nat) (A5:Option Addr) (c5:Nat),s6=.pointer (some ⟨g,0,none⟩)/\w'.heap[g]?=some (.cells #[.slice none 0 0,.slice none 0 0,.slice none 0 0,.int .i64 p.se,.slice A4 R.length c4,.slice A5 (Cl.rows R).length c5] 34)/\w2.heap.size<=g/\SetsAp w2.heap.size w' (some g) A5 (Cl.rows R)/\Below w2.heap.size w2 w')
  case first =>
   --[
   clear p2
   go_region_held3 (λW'=>W'.cell? ⟨gp',2,none⟩=some (.int .i64 p.se))
    (first|with_reducible exact KS.out _ T0.out.drew|with_reducible exact KS.out _ (T0.out.alloc T0.out.size _).drew|with_reducible exact KS.out _ h5|with_reducible exact KS.out _ (h5.alloc h5.size _)|with_reducible exact KS.out _ (eO h5 (ArR _))|(go_keep;done))
    (first
     | (go_at_call 14;(with_reducible refine(CM.out _ T0.out.drew).mono ?_);rintro e5 w5 ⟨A5,c5,rfl,hS5,hl5⟩;have HS5:=hid (show SetsNew w2.heap.size w5 A5 (Cl.rows R) from hS5);clear hS5;have h5:=T0.out.drew.trans (hl5.mono T0.out.drew.size);have hgx:=h5.size)
     | (go_at_call 14;(with_reducible refine(CM.out _ (T0.out.alloc T0.out.size tbZ).drew).mono ?_);rintro e5 w5 ⟨A5,c5,rfl,hS5,hl5⟩;have HS5:=hid (hS5.base (show w2.heap.size+1<=(w2.alloc tbZ).drew.heap.size from Nat.le_of_eq (by simp[World.drew])));clear hS5;have h5:=(T0.out.alloc T0.out.size tbZ).drew.trans (hl5.mono (T0.out.alloc T0.out.size tbZ).drew.size);have hpz:=(hl5.block w2.heap.size (by simp)).trans (AsW w2 tbZ);obtain⟨⟨z0,z1,z2,z3,z4,z5⟩,⟨y0,y1,y2,y3,y4,y5⟩,zg⟩:=row6 hpz))
   all_goals go_wp2_with fail
   all_goals go_meet
   all_goals refine⟨_,A5,c5,rfl,?_,?_,?_,?_⟩
   all_goals first
    | with_reducible exact AsW _ _
    | with_reducible exact h5.alloc h5.size _
    | with_reducible exact sF hpz
    | with_reducible exact eO h5 (ArR _)
    | with_reducible exact hgx
    | with_reducible exact ArR _
    | with_reducible exact HS5.out.laid (ArR _) _
    | with_reducible exact HS5.out.put6 (Nat.lt_succ_self _) (Nat.le_succ _)
   --]
  case rest =>
  obtain⟨g,A5,c5,rfl,hg,hge,hS,hb5⟩:=hcut
  generalize wc=w5 at hg hS hb5 ⊢
  have B5:=hid hb5
  have HS:=hid hS
  have S0:=hid (TbB.start hg)
  have HGE:=hid hge
  have B15:=hid (B2.out.trans (hb5.mono B2.out.size))
  have hgl:=(ArL hg).1
  have KB:=hid (λW (hW:TbBut g w5 W)=>show Below w1.heap.size w1 W from(B2.out.trans (hb5.mono B2.out.size)).trans (hW.to (ArS B2.out.size hge) (ArS B2.out.size hb5.size)))
  clear hg hge hS hb5 hgl p2 KS CM T0
  obtain⟨-,-,-,-,p4,p5⟩:=KP.out _ B15.out
  have gp:=GL.out.1
  have hs15:=B15.out.size
  go_wp2_with fail
  go_loopw [8,29] (λ_ v7 w'=>∃ (i:Nat) (A0:Option Addr) (c0:Nat) (A1:Option Addr) (c1:Nat),i<=p.secs.length/\v7=.int .i64 i/\TbB g w5 w' #[.slice A0 i c0,.slice A1 i c1,.slice none 0 0,.int .i64 p.se,.slice A4 R.length c4,.slice A5 (Cl.rows R).length c5] (.slice A0 i c0) ((p.secs.take i).map Pl.Sec.name) (.slice A1 i c1) ((p.secs.take i).map Pl.Sec.pt)) (λ_ v7 _=>p.secs.length-(intOf v7).toNat)
  case atStart=>exact⟨0,none,0,none,0,AsD _,rfl,S0.out⟩
  case round =>
   clear S0 p4 p5 gp hs15
   obtain⟨i,A0,c0,A1,c1,hi,rfl,hT⟩:=hrel
   have H:=hid hT
   have BW:=hid (KB.out _ hT.but)
   obtain⟨-,-,-,-,p4,p5⟩:=KP.out _ BW.out
   have gp:=AsE GL.out.1 BW.out.size
   clear hT
   by_cases hlt:i<p.secs.length
   ·--[
    obtain⟨d1,j0,j1⟩:=ArK (show i<p.secs.length by omega)
    obtain⟨b,o,rfl,hbb,on⟩:=(HI.out.1.below rfl BW.out).at hlt
    have HTN:=hid (show (p.secs.take (i+1)).map Pl.Sec.name=(p.secs.take i).map Pl.Sec.name++[p.secs[i].name] from by
     rw[AsK hlt,List.map_append];rfl)
    have HTP:=hid (show (p.secs.take (i+1)).map Pl.Sec.pt=(p.secs.take i).map Pl.Sec.pt++[p.secs[i].pt] from by
     rw[AsK hlt,List.map_append];rfl)
    have HLN:=hid (show ((p.secs.take i).map Pl.Sec.name).length=i from by rw[AsH,AsU];omega)
    have HLP:=hid (show ((p.secs.take i).map Pl.Sec.pt).length=i from by rw[AsH,AsU];omega)
    generalize hsn:p.secs[i].name=sn at HTN
    generalize hsp:p.secs[i].pt=sp at HTP
    have HSN:=hid (AsG hsn hsp)
    clear hsn hsp on
    generalize (p.secs.take i).map Pl.Sec.name=Ns at H HTN HLN
    generalize (p.secs.take i).map Pl.Sec.pt=Ps at H HTP HLP
    have KS:=hid (λW (hW:TbBut g w5 W)=>show W.cell? ⟨gp',4,none⟩=some (.slice (some ⟨b,o,none⟩) p.secs.length c)/\W.cell? ⟨b,o+i*12,none⟩=some (.string (txt sn))/\W.cell? ⟨b,o+i*12+1,none⟩=some (.bool sp) from by
     have hW1:=KB.out _ hW
     obtain⟨b',o',e,-,on⟩:=(HI.out.1.below rfl hW1).at hlt
     cases e
     have:=bE on
     rw[HSN.out.1,HSN.out.2] at this
     exact⟨(KP.out _ hW1).2.2.2.2.1,this.1,this.2.1⟩)
    obtain⟨i0',hi,hz0,hz1,hz2⟩:=info_parts pL
    obtain⟨j0',ji,jz0,jz1,jz2⟩:=info_parts AlZ
    have HS5:=H.out.but.size
    obtain⟨b',o',e,-,on⟩:=(HI.out.1.below rfl BW.out).at hlt
    cases e
    obtain⟨s0,s1,s2,s3,s4,s5,s6,s7,s8,s9,s10,s11⟩:=bE on
    rw[show i*aQ.m=i*12 from rfl] at s0 s1 s2 s3 s4 s5 s6 s7 s8 s9 s10 s11
    rw[HSN.out.1] at s0
    rw[HSN.out.2] at s1
    generalize p.secs[i].len=n2 at s2
    generalize p.secs[i].e0=e0 at s3 s4 s5
    generalize p.secs[i].e1=e1 at s6 s7 s8
    generalize p.secs[i].e2=e2 at s9 s10 s11
    obtain⟨e00,e01,e02⟩:=e0
    obtain⟨e10,e11,e12⟩:=e1
    obtain⟨e20,e21,e22⟩:=e2
    simp only at s3 s4 s5 s6 s7 s8 s9 s10 s11
    have XS:=hid ((AtB wr).alloc (ArR _) (.cells #[.string (txt sn),.bool sp,.int .i64 n2,.int .i64 e00,.int .i64 e01,.int .i64 e02,.int .i64 e10,.int .i64 e11,.int .i64 e12,.int .i64 e20,.int .i64 e21,.int .i64 e22] 56))
    have RS:=hid (AsW wr (.cells #[.string (txt sn),.bool sp,.int .i64 n2,.int .i64 e00,.int .i64 e01,.int .i64 e02,.int .i64 e10,.int .i64 e11,.int .i64 e12,.int .i64 e20,.int .i64 e21,.int .i64 e22] 56))
    have H3:=hid (H.out.below XS.out)
    clear p4 p5 gp on KS hbb
    go_upto_region 8 with fail
    generalize wr.alloc (.cells #[.string (txt sn),.bool sp,.int .i64 n2,.int .i64 e00,.int .i64 e01,.int .i64 e02,.int .i64 e10,.int .i64 e11,.int .i64 e12,.int .i64 e20,.int .i64 e21,.int .i64 e22] 56)=w3 at RS H3 ⊢
    have hgs:g<wr.heap.size:=AsE H.out.lt HS5
    generalize wr.heap.size=gs at RS hgs HS5 ⊢
    have GG:=hid (AsG hgs HS5)
    clear s0 s1 s2 s3 s4 s5 s6 s7 s8 s9 s10 s11 XS H hgs HS5
    obtain⟨x0,f0,gg⟩:=H3.out.cell (o:=0) rfl
    have t0:=AsY _ gs 0 _ _ _ RS.out
    have gls:=(ArL RS.out).1
    have XN:=hid ((AtB w3).alloc (ArR _) (.cells #[.string (txt sn)] 9))
    have RN:=hid (show LTx.Row (w3.alloc (.cells #[.string (txt sn)] 9)) (some ⟨w3.heap.size,0,none⟩) [sn] from Lies.Row.fresh (E:=LTx) w3 [sn] 9)
    have H4:=hid (H3.out.below XN.out)
    have HS3:=H3.out.but.size
    go_upto_region 9 with (at_builtin;refine aG LTx _ rfl (.tmp 34) (.tmp 37) 29 rfl w5.heap.size 9 i0' _ 16 Tryz.underlying29 hi hz0 hz1 hz2 rfl (.slice A0 i c0) i (LTx.all Ns) rfl (H4.out.n0 HLN.out) (some ⟨w3.heap.size,0,none⟩) 1 1 [sn] rfl (by decide) rfl RN.out (by omega) (by omega) H4.out.but.size ?_;intro g1 cap1 w7 ho hg hgr;have H7:=hid (H4.out.name hg ho (by rw[HLN.out]) rfl);have RS7:=hid (show w7.heap[gs]?=_ from(hg.block _ (AsE gls XN.out.size) (λe=>fG H4.out.own0 ((XN.out.block _ gls).trans RS.out) (by decide) e.symm)).trans ((XN.out.block _ gls).trans RS.out));clear ho hg hgr x0 f0 gg t0 gls HS3;obtain⟨x0,f0,gg⟩:=H7.out.cell (o:=0) rfl)
    have H8:=hid (H7.out.put 0 (.slice (some ⟨g1,0,none⟩) (i+1) cap1))
    have RS8:=hid ((AsX w7 ⟨g,0,none⟩ gs (.slice (some ⟨g1,0,none⟩) (i+1) cap1) (by have:=GG.out.1;simp only;omega)).trans RS7.out)
    generalize w7.setCell ⟨g,0,none⟩ (.slice (some ⟨g1,0,none⟩) (i+1) cap1)=w8 at H8 RS8 ⊢
    clear x0 f0 gg H7 RS7 H4 XN RN H3 RS
    obtain⟨x1,f1,gg⟩:=H8.out.cell (o:=1) rfl
    have t1:=AsY _ gs 1 _ _ _ RS8.out
    have gls:=(ArL RS8.out).1
    have XN:=hid ((AtB w8).alloc (ArR _) (.cells #[.bool sp] 4))
    have RN:=hid (show LBo.Row (w8.alloc (.cells #[.bool sp] 4)) (some ⟨w8.heap.size,0,none⟩) [sp] from Lies.Row.fresh (E:=LBo) w8 [sp] 4)
    have H9:=hid (H8.out.below XN.out)
    have HS3:=H8.out.but.size
    go_wp2_with (at_builtin;refine aG LBo _ rfl (.tmp 41) (.tmp 44) 30 rfl w5.heap.size 4 j0' _ 1 Tryz.underlying30 ji jz0 jz1 jz2 rfl (.slice A1 i c1) i (LBo.all Ps) rfl (H9.out.n1 HLP.out) (some ⟨w8.heap.size,0,none⟩) 1 1 [sp] rfl (by decide) rfl RN.out (by omega) (by omega) H9.out.but.size ?_;intro g2 cap2 w9 ho hg hgr;have H10:=hid (H9.out.point hg ho (by rw[HLP.out]) rfl);clear ho hg hgr x1 f1 gg t1 gls HS3;obtain⟨x1,f1,gg⟩:=H10.out.cell (o:=1) rfl)
    go_roundw
    case rel=>exact⟨i+1,_,_,_,_,by omega,by go_num,by rw[HTN.out,HTP.out];exact H10.out.put 1 _⟩
    case measure=>simp[intOf];omega
    --]
   obtain⟨w6,hw6⟩:∃ w6:World,w6=wr:=⟨wr,rfl⟩
   subst hw6
   obtain rfl:i=p.secs.length:=by omega
   have d1:decide ((p.secs.length:Int)<(p.secs.length:Int))=false:=aB (by omega)
   have H6:=hid (show TbB g w5 w6 #[.slice A0 p.secs.length c0,.slice A1 p.secs.length c1,.slice none 0 0,.int .i64 p.se,.slice A4 R.length c4,.slice A5 (Cl.rows R).length c5] (.slice A0 p.secs.length c0) (p.secs.map Pl.Sec.name) (.slice A1 p.secs.length c1) (p.secs.map Pl.Sec.pt) from by have:=H.out;rw[List.take_length] at this;exact this)
   have T6:=hid (TbB.start H6.out.tab)
   have KC:=hid (λW (hW:TbBut g w6 W)=>show Below w1.heap.size w1 W from BW.out.trans (hW.to (ArS B2.out.size HGE.out) BW.out.size))
   clear H hi
   go_wp2_with fail
   clear p4 p5 gp
   go_loopw [10,51] (λ_ v8 w'=>∃ (j:Nat) (A2:Option Addr) (c2:Nat),j<=p.sigs.length/\v8=.int .i64 j/\TbB g w6 w' #[.slice A0 p.secs.length c0,.slice A1 p.secs.length c1,.slice A2 j c2,.int .i64 p.se,.slice A4 R.length c4,.slice A5 (Cl.rows R).length c5] (.slice A2 j c2) ((p.sigs.take j).map Pl.Sig.name) (.slice none 0 0) []) (λ_ v8 _=>p.sigs.length-(intOf v8).toNat)
   case atStart=>exact⟨0,none,0,AsD _,rfl,T6.out⟩
   case round =>
    clear T6
    obtain⟨j,A2,c2,hj,rfl,hT⟩:=hrel
    have H:=hid hT
    have BW7:=hid (KC.out _ hT.but)
    obtain⟨-,-,-,-,p4,p5⟩:=KP.out _ BW7.out
    have gp:=AsE GL.out.1 BW7.out.size
    clear hT
    by_cases hlt:j<p.sigs.length
    ·--[
     have HX:=hid (ArN hlt)
     obtain⟨d2,i0,i1⟩:=ArK (show j<p.sigs.length by omega)
     obtain⟨b,o,rfl,hbb,on⟩:=(HI.out.2.below rfl BW7.out).at hlt
     have HTK:=hid (show (p.sigs.take (j+1)).map Pl.Sig.name=(p.sigs.take j).map Pl.Sig.name++[p.sigs[j].name] from by
      rw[AsK hlt,List.map_append];rfl)
     have HLL:=hid (show ((p.sigs.take j).map Pl.Sig.name).length=j from by rw[AsH,AsU];omega)
     generalize hsn:p.sigs[j].name=sn at HTK
     have HSN:=hid hsn
     clear hsn
     generalize (p.sigs.take j).map Pl.Sig.name=Ns at H HTK HLL
     obtain⟨x2,f2,gg⟩:=H.out.cell (o:=2) rfl
     obtain⟨i0',hi,hz0,hz1,hz2⟩:=info_parts pL
     have HS6:=H.out.but.size
     obtain⟨b',o',e,-,on2⟩:=(HI.out.2.below rfl BW7.out).at hlt
     cases e
     obtain⟨s0,s1,s2⟩:=cF on2
     rw[show j*bD.m=j*3 from rfl] at s0 s1 s2
     rw[HSN.out] at s0
     generalize p.sigs[j].sec=n1 at s1
     generalize p.sigs[j].en=n2 at s2
     have XS:=hid ((AtB wr).alloc (ArR _) (.cells #[.string (txt sn),.int .i64 n1,.int .i64 n2] 58))
     have RS:=hid (AsW wr (.cells #[.string (txt sn),.int .i64 n1,.int .i64 n2] 58))
     have H3:=hid (H.out.below XS.out)
     clear p4 p5 gp on on2 hbb x2 f2 gg HX
     go_upto_region 14 with fail
     generalize wr.alloc (.cells #[.string (txt sn),.int .i64 n1,.int .i64 n2] 58)=w3 at RS H3 ⊢
     generalize wr.heap.size=gs at RS ⊢
     clear s0 s1 s2 XS H HS6
     obtain⟨x2,f2,gg⟩:=H3.out.cell (o:=2) rfl
     have t0:=AsY _ gs 0 _ _ _ RS.out
     have gls:=(ArL RS.out).1
     have XN:=hid ((AtB w3).alloc (ArR _) (.cells #[.string (txt sn)] 9))
     have RN:=hid (show LTx.Row (w3.alloc (.cells #[.string (txt sn)] 9)) (some ⟨w3.heap.size,0,none⟩) [sn] from Lies.Row.fresh (E:=LTx) w3 [sn] 9)
     have H4:=hid (H3.out.below XN.out)
     have HS3:=H3.out.but.size
     go_wp2_with (at_builtin;refine aG LTx _ rfl (.tmp 56) (.tmp 59) 29 rfl w6.heap.size 9 i0' _ 16 Tryz.underlying29 hi hz0 hz1 hz2 rfl (.slice A2 j c2) j (LTx.all Ns) rfl (H4.out.n0 HLL.out) (some ⟨w3.heap.size,0,none⟩) 1 1 [sn] rfl (by decide) rfl RN.out (by omega) (by omega) H4.out.but.size ?_;intro g1 cap1 w7 ho hg hgr;have H7:=hid (H4.out.name hg ho (by rw[HLL.out]) rfl);clear ho hg hgr x2 f2 gg t0 gls HS3;obtain⟨x2,f2,gg⟩:=H7.out.cell (o:=2) rfl)
     go_roundw
     case rel=>exact⟨j+1,_,_,by omega,by go_num,by rw[HTK.out];exact H7.out.put 2 _⟩
     case measure=>simp[intOf];omega
     --]
    obtain rfl:j=p.sigs.length:=by omega
    have d2:decide ((p.sigs.length:Int)<(p.sigs.length:Int))=false:=aB (by omega)
    have FT:=hid (show TableFar w1.heap.size wr ⟨A0,c0,A1,c1,A2,c2,A4,c4,A5,c5,⟨p.secs.map Pl.Sec.name,p.secs.map Pl.Sec.pt,p.sigs.map Pl.Sig.name,p.se,R,Cl.rows R⟩⟩ from
     TableFar.up (AsH ..) (AsH ..) (AsH ..) H6.out (by have:=H.out;rw[List.take_length] at this;exact this) HR.out B5.out HGE.out HS.out B2.out.size)
    have HZ:=hid (KZ.out _ BW7.out)
    obtain⟨⟨x0,x1,x2,x3,x4,x5⟩,-,gx⟩:=row6 H.out.tab
    obtain⟨⟨z0,z1,z2,z3,z4,z5⟩,⟨e0,e1,e2,e3,e4,e5⟩,gz⟩:=row6 HZ.out
    have hne:g≠gz':=by have:=HGE.out;have:=B2.out.size;have:=GL.out.2;omega
    have FIN:=hid (λv0 v1 v2 v3 v4 v5=>TableMade.put (x:=(⟨p.secs.map Pl.Sec.name,p.secs.map Pl.Sec.pt,p.sigs.map Pl.Sig.name,p.se,R,Cl.rows R⟩,0)) (w:=w) (v0:=v0) (v1:=v1) (v2:=v2) (v3:=v3) (v4:=v4) (v5:=v5) rfl FT.out HZ.out GL.out.2 (by have:=GZ.out;omega) (XW.out.trans (BW7.out.mono XW.out.size)))
    have L0:(p.secs.map Pl.Sec.name).length=p.secs.length:=AsH ..
    have L1:(p.secs.map Pl.Sec.pt).length=p.secs.length:=AsH ..
    have L2:(p.sigs.map Pl.Sig.name).length=p.sigs.length:=AsH ..
    clear FT H H6
    go_wp2_with fail
    refine bodyPost_ret ?_ rfl (by rw[EM.out];exact FIN.out _ _ _ _ _ _)
    simp[results,Tryz.results6,go_sem, *]
 --[
 have D:(er != 0)=true:=by rw[AsV];exact her
 have EM:=hid (show mk=(Tb.zero,er) from by rw[HMK.out,ArY her])
 have HZ:=hid (KZ.out _ B2.out)
 obtain⟨⟨z0,z1,z2,z3,z4,z5⟩,⟨e0,e1,e2,e3,e4,e5⟩,gz⟩:=row6 HZ.out
 have FIN:=hid (λv0 v1 v2 v3 v4 v5=>TableMade.put (x:=(Tb.zero,er)) (w:=w) (v0:=v0) (v1:=v1) (v2:=v2) (v3:=v3) (v4:=v4) (v5:=v5) (m:=⟨none,0,none,0,none,0,none,0,none,0,Tb.zero⟩) rfl (TableFar.zero w1.heap.size w2) HZ.out GL.out.2 (by have:=GZ.out;omega) (XW.out.trans (B2.out.mono XW.out.size)))
 clear her
 go_wp2_with fail
 refine bodyPost_ret ?_ rfl (by rw[EM.out];exact FIN.out _ _ _ _ _ _)
 simp[results,Tryz.results6,go_sem,Tb.zero, *]
 --]
end Go.Proofs.YtjofpclmbjpgjaaGreat
namespace Go.Proofs.YtjofpclmbjpgjaaGreat.Rt
open Lib (hid)
open Go Pl Wk
theorem mY (p:Plan) (x:Stp):0<=position p x:=by
 unfold position
 split
 ·omega
 exact Int.le_refl _
structure Asks (p:Plan) (L:List Stp) (D:List Dm.Dem):Prop where
 good:Dm.Good D
 asks:∀ x∈L,position p x≠0->Dm.posOf D x.s=position p x
 only:∀ k,(∀ x∈L,x.s≠k)->Dm.posOf D k=0
theorem AiJ {p:Plan} {L:List Stp} {D:List Dm.Dem} (h:Asks p L D) {y:Stp} (hy:∀ x∈L,x.s≠y.s):Asks p (L++[y]) (if 0<position p y then Dm.put D ⟨y.s,position p y⟩ else D):=by
 have h0:=mY p y
 by_cases hp:0<position p y
 ·rw[ArZ hp]
  have hne:(⟨y.s,position p y⟩:Dm.Dem).pos≠0:=by show position p y≠0;omega
  have hz:=h.only y.s hy
  refine⟨h.good.put hne,λx hx hpx=>?_,λk hk=>?_⟩
  ·rw[h.good.posOf_put]
   rcases ArW.1 hx with hx|hx
   ·rw[ArZ (by rw[h.asks x hx hpx];exact hpx)]
    exact h.asks x hx hpx
   rw[AsS.1 hx,ArY (λe=>e hz),ArZ rfl]
  rw[h.good.posOf_put,ArY (λe=>e (h.only k λx hx=>hk x (List.mem_append_left _ hx))),ArY]
  exact λe=>hk y (List.mem_append_right _ (AsS.2 rfl)) e.symm
 rw[ArY hp]
 refine⟨h.good,λx hx hpx=>?_,λk hk=>h.only k λx hx=>hk x (List.mem_append_left _ hx)⟩
 rcases ArW.1 hx with hx|hx
 ·exact h.asks x hx hpx
 rw[AsS.1 hx] at hpx
 exact absurd hpx (by omega)
theorem AeS {p:Plan}:∀ (R L:List Stp) (D:List Dm.Dem),Asks p L D->(∀ x∈L,∀ y∈R,x.s≠y.s)->(R.map (·.s)).Nodup->Asks p (L++R) (R.foldl (λout x=>if 0<position p x then Dm.put out ⟨x.s,position p x⟩ else out) D)
 | [],L,D,h,_,_=>by rw[AsM];exact h
 | y :: R,L,D,h,hLR,hn=>by
   rw[List.map_cons,List.nodup_cons] at hn
   have:=AeS R (L++[y]) _ (AiJ h λx hx=>hLR x hx y (List.mem_cons_self ..)) (λx hx z hz=>by
    rcases ArW.1 hx with hx|hx
    ·exact hLR x hx z (List.mem_cons_of_mem _ hz)
    rw[AsS.1 hx]
    intro e
    exact hn.1 (by rw[e];exact List.mem_map.2 ⟨z,hz,rfl⟩)) hn.2
   rw[List.append_assoc] at this
   exact this
theorem asks_steps {p:Plan} {L:List Stp} (h:(L.map (·.s)).Nodup):Asks p L (Dm.ofSteps p L) :=
 AeS L [] [] ⟨Dm.Good.nil,(λ_ hx=>by cases hx),λ_ _=>rfl⟩ (λ_ hx=>by cases hx) h
theorem AiK {p:Plan} (hf:Fit p) (own:List Stp) (g:Fl.G) (x:Stp):Fl.Keeps g (Fl.one p own g x):=by
 unfold Fl.one
 split
 ·exact(Fl.Keeps.of_pts (g:=g) (h:={ g with seen:=[] }) rfl).trans (Fl.on_keeps p own 9 _ _ _ (next_end hf _ _) λs e=>next_end hf s e)
 exact Fl.Keeps.refl g
theorem of_keeps {p:Plan} (hf:Fit p) (own:List Stp):Fl.Keeps ⟨Dm.ofSteps p own,[],[]⟩ (Fl.of p own):=by
 have:∀ (l:List Stp) (g:Fl.G),Fl.Keeps g (l.foldl (Fl.one p own) g):=by
  intro l
  induction l with
  | nil=>intro g;exact Fl.Keeps.refl g
  | cons x l ih=>intro g;exact(AiK hf own g x).trans (ih _)
 exact this own _
theorem mS {p:Plan} {b:Int}:∀ {t:List Stp} {s f:Int} {st:List Stp} {e:Int},Cr.Chain p b s f st t e->(t.map (·.s)).Nodup
 | [],_,_,_,_,_=>List.nodup_nil
 | x :: t,s,f,st,e,h=>by
   rw[List.map_cons,List.nodup_cons]
   refine⟨λhm=>?_,?_⟩
   ·obtain⟨y,hy,hys⟩:=List.mem_map.1 hm
    exact Cr.chain_head h y hy hys
   unfold Cr.Chain at h
   obtain⟨-,h⟩:=h
   rcases h with ⟨-,rfl,-⟩|⟨-,h⟩
   ·exact List.nodup_nil
   exact mS h
theorem own_nodup {p:Plan} {i:Nat} (hi:i<p.sigs.length) {w:Cr.Way} (hw:w∈(Cr.of p i).1):((w.steps++(Lp.of p i w).1).map (·.s)).Nodup:=by
 have h1:(w.steps.map (·.s)).Nodup:=by
  rw[Cr.of_some (sig_at hi)] at hw
  exact mS (Cr.of_way hw).2.2.2
 rw[List.map_append,List.nodup_append]
 rcases lap_of (p:=p) (i:=i) (w:=w) with h|⟨b,s,f,sum,h⟩
 ·rw[h]
  exact⟨h1,List.nodup_nil,λ_ _ _ hb=>by cases hb⟩
 refine⟨h1,(Lp.chain_apart h).1,λa ha c hc e=>?_⟩
 obtain⟨x,hx,rfl⟩:=List.mem_map.1 ha
 obtain⟨y,hy,rfl⟩:=List.mem_map.1 hc
 have:=AeE h y hy
 unfold within at this
 rw[List.any_eq_false] at this
 exact this x hx (decide_eq_true e)
def AqZ (p:Plan) (r:Route):Prop:=∀ x∈r.steps++r.lap,position p x≠0->Dm.posOf r.pts x.s=position p x
theorem fill_asks {p:Plan} (hf:Fit p) {i:Nat} (hi:i<p.sigs.length) {w:Cr.Way} (hw:w∈(Cr.of p i).1):AqZ p (fill p i w (Lp.of p i w).1):=by
 intro x hx hp
 have ha:=asks_steps (p:=p) (own_nodup hi hw)
 have h1:=ha.asks x hx hp
 have h2:=(of_keeps hf (w.steps++(Lp.of p i w).1)).same ha.good x.s (by show Dm.posOf (Dm.ofSteps p _) x.s≠0;rw[h1];exact hp)
 exact h2.trans h1
end Go.Proofs.YtjofpclmbjpgjaaGreat.Rt
namespace Go.Proofs.YtjofpclmbjpgjaaGreat.Tb
open Lib (hid)
open Go Pl Wk
structure Goes (p:Plan) (x:Stp):Prop where
 low:0<=x.s
 high:x.s<(p.secs.length:Int)
 goes:pJ (p.secs.map Sec.pt) x=true
 pos:isPoint p x.s=true->position p x=max x.f x.t/\(max x.f x.t=1∨max x.f x.t=2)
theorem AdD {p:Plan} {s:Int} {x:Sec} (h:secAt p s=some x):0<=s/\s<(p.secs.length:Int)/\(p.secs.map Sec.pt).getD s.toNat false=x.pt/\isPoint p s=x.pt:=by
 have h0:=h
 unfold secAt at h
 split at h
 ·cases h
 have hl:=(ArM h).1
 refine⟨by omega,by omega,?_,by unfold isPoint;rw[h0];rfl⟩
 rw[getD_at (x:=x.pt)]
 rw[List.getElem?_map,h]
 rfl
theorem sP {p:Plan} {s f:Int} {x:Stp} (h:x∈outs p s f):Goes p x:=by
 have hs:=Cr.outs_sec h
 unfold outs at h
 cases hz:secAt p s with
 | none=>rw[hz] at h;cases h
 | some y =>
   rw[hz] at h
   obtain⟨h1,h2,h3,h4⟩:=AdD hz
   have key:∀ a b:Int,x=⟨s,a,b⟩->(min a b=0)->(max a b=1∨(max a b=2/\y.pt=true))->Goes p x:=λa b e hmin hmax=>by
    subst e
    refine⟨h1,h2,?_,λhp=>?_⟩
    ·unfold pJ
     simp only[h3,AsF,Bool.or_eq_true,beq_iff_eq]
     exact⟨hmin,hmax⟩
    unfold position
    simp only at hp ⊢
    rw[ArZ hp]
    rcases hmax with h|⟨h,-⟩
    ·rw[h];exact⟨rfl,.inl rfl⟩
    rw[h];exact⟨rfl,.inr rfl⟩
   simp only at h
   split at h
   ·rename_i hp
    split at h
    ·rcases AsN.1 h with h|h
     ·exact key 0 1 h rfl (.inl rfl)
     exact key 0 2 (AsS.1 h) rfl (.inr ⟨rfl,hp⟩)
    split at h
    ·rename_i h12
     rcases h12 with rfl|rfl
     ·exact key 1 0 (AsS.1 h) rfl (.inl rfl)
     exact key 2 0 (AsS.1 h) rfl (.inr ⟨rfl,hp⟩)
    cases h
   split at h
   ·rename_i h01
    rcases h01 with rfl|rfl
    ·exact key 0 (1-0) (AsS.1 h) rfl (.inl rfl)
    exact key 1 (1-1) (AsS.1 h) rfl (.inl rfl)
   cases h
theorem pZ {p:Plan} {b:Int}:∀ {t:List Stp} {s f:Int} {st:List Stp} {e:Int},Cr.Chain p b s f st t e->∀ y∈t,Goes p y
 | [],_,_,_,_,_,y,hy=>by cases hy
 | x :: t,s,f,st,e,h,y,hy=>by
   unfold Cr.Chain at h
   obtain⟨⟨-,-,h1⟩,h⟩:=h
   rcases AsN.1 hy with rfl|hy
   ·exact sP h1
   rcases h with ⟨-,rfl,-⟩|⟨-,h⟩
   ·cases hy
   exact pZ h y hy
theorem zL {p:Plan} {b:Int} {way:List Stp}:∀ {t:List Stp} {s f:Int} {st:List Stp} {sum:Int},Lp.Chain p b way s f st sum t->∀ y∈t,Goes p y
 | [],_,_,_,_,_,y,hy=>by cases hy
 | x :: t,s,f,st,sum,h,y,hy=>by
   unfold Lp.Chain at h
   obtain⟨⟨-,-,-,h1⟩,h⟩:=h
   rcases AsN.1 hy with rfl|hy
   ·exact sP h1
   rcases h with ⟨-,rfl⟩|⟨-,h⟩
   ·cases hy
   exact zL h y hy
theorem AmW {p:Plan} {i:Nat} (hi:i<p.sigs.length) {w:Cr.Way} (hw:w∈(Cr.of p i).1):∀ y∈w.steps++(Lp.of p i w).1,Goes p y:=by
 intro y hy
 rcases ArW.1 hy with hy|hy
 ·rw[Cr.of_some (Rt.sig_at hi)] at hw
  exact pZ (Cr.of_way hw).2.2.2 y hy
 rcases Rt.lap_of (p:=p) (i:=i) (w:=w) with h|⟨b,s,f,sum,h⟩
 ·rw[h] at hy;cases hy
 exact zL h y hy
theorem qA {l:List Stp} {s:Int}:within l s=true ↔ ∃ x∈l,x.s=s:=by
 unfold within
 rw[List.any_eq_true]
 simp only[AsC]
theorem qB {p:Plan} {l o:List Stp} (hg:∀ y∈l,Goes p y) (hn:((o++l).map (·.s)).Nodup) (h16:l.length<=16):stepsOk (p.secs.map Sec.pt) l o=true:=by
 rw[List.map_append,List.nodup_append] at hn
 obtain⟨-,hl,ho⟩:=hn
 unfold stepsOk
 rw[AsF,bX,AsC]
 refine⟨λi _ hi=>?_,by omega⟩
 have hx:=hg _ (List.getElem_mem hi)
 unfold lH
 rw[getD_at (ArN hi),AsH]
 simp only[AsF,AsC,Bool.not_eq_true']
 refine⟨⟨⟨⟨hx.low,hx.high⟩,?_⟩,?_⟩,hx.goes⟩
 ·refine Bool.eq_false_iff.2 λh=>?_
  obtain⟨y,hy,hys⟩:=qA.1 h
  obtain⟨k,hk,hky⟩:=List.getElem_of_mem hy
  rw[AsU] at hk
  rw[List.getElem_take] at hky
  have:=List.pairwise_iff_getElem.1 hl k i (by rw[AsH];omega) (by rw[AsH];exact hi) (by omega)
  rw[List.getElem_map,List.getElem_map,hky] at this
  exact this hys
 refine Bool.eq_false_iff.2 λh=>?_
 obtain⟨y,hy,hys⟩:=qA.1 h
 exact ho y.s (List.mem_map.2 ⟨y,hy,rfl⟩) l[i].s (List.mem_map.2 ⟨_,List.getElem_mem hi,rfl⟩) hys
def Fair (p:Plan) (d:Dm.Dem):Prop:=isPoint p d.pt=true/\(d.pos=1∨d.pos=2)
theorem zM {p:Plan} {L:List Dm.Dem} {x:Dm.Dem} (h:∀ d∈L,Fair p d) (hx:Fair p x):∀ d∈Dm.put L x,Fair p d:=by
 unfold Dm.put
 split
 ·exact h
 intro d hd
 rcases ArW.1 hd with hd|hd
 ·exact h d ((List.takeWhile_sublist _).mem hd)
 rcases AsN.1 hd with rfl|hd
 ·exact hx
 exact h d ((List.dropWhile_sublist _).mem hd)
theorem kR {p:Plan}:∀ (l:List Stp) (D:List Dm.Dem),(∀ y∈l,Goes p y)->(∀ d∈D,Fair p d)->∀ d∈l.foldl (λout x=>if 0<position p x then Dm.put out ⟨x.s,position p x⟩ else out) D,Fair p d
 | [],_,_,h=>h
 | y :: l,D,hg,h=>by
   rw[List.foldl_cons]
   refine kR l _ (λz hz=>hg z (List.mem_cons_of_mem _ hz)) ?_
   split
   ·rename_i hp
    refine zM h ?_
    have hpt:isPoint p y.s=true:=by
     unfold position at hp
     split at hp
     ·assumption
     omega
    obtain⟨h1,h2⟩:=(hg y (List.mem_cons_self ..)).pos hpt
    exact⟨hpt,by rw[h1];exact h2⟩
   exact h
structure Told (p:Plan) (g:Fl.G):Prop where
 pts:∀ d∈g.pts,Fair p d
 fl:g.fl.Pairwise (·<·)
 sig:∀ x∈g.fl,0<=x/\x<(p.sigs.length:Int)
theorem Told.see {p:Plan} {g:Fl.G} (h:Told p g) (l:List Int):Told p { g with seen:=l }:=⟨h.pts,h.fl,h.sig⟩
theorem fV {p:Plan} (hf:Fit p) (hm:Lp.Meas p) (own:List Stp):∀ (k:Nat) (s e:Int) (g:Fl.G),Told p g->Told p (Fl.on p own k s e g)
 | 0,_,_,_,h=>h
 | k + 1,s,e,g,h=>by
   have he:=Rt.next_end hf s e
   unfold Fl.on
   split
   ·exact h
   generalize hn:next p s e=w at he
   obtain⟨q,f,ok⟩:=w
   simp only at he ⊢
   split
   ·rename_i h0
    have hs:=Fl.put_rise h.fl (signal p q f)
    refine⟨h.pts,hs.1,λx hx=>?_⟩
    rcases (hs.2 x).1 hx with hx|rfl
    ·exact h.sig x hx
    exact⟨h0,(Lp.signal_bd hm q f).2⟩
   split
   ·exact fV hf hm own k _ _ _ (h.see _)
   rename_i hpt
   have hpt':isPoint p q=true:=by cases hz:isPoint p q with|true=>rfl|false=>exact absurd hz hpt
   split
   ·exact fV hf hm own k _ _ _ (fV hf hm own k _ _ _ (h.see _))
   rename_i hf0
   split
   ·exact fV hf hm own k _ _ _ (h.see _)
   split
   ·exact⟨zM h.pts ⟨hpt',by show 3-f=1∨3-f=2;omega⟩,h.fl,h.sig⟩
   exact h.see _
theorem AoQ {p:Plan} (hf:Fit p) (hm:Lp.Meas p) {own:List Stp} (hg:∀ y∈own,Goes p y):Told p (Fl.of p own):=by
 have : ∀ (l:List Stp) (g:Fl.G),Told p g->Told p (l.foldl (Fl.one p own) g):=by
  intro l
  induction l with
  | nil=>intro g h;exact h
  | cons x l ih =>
    intro g h
    refine ih _ ?_
    unfold Fl.one
    split
    ·exact fV hf hm own 9 _ _ _ (h.see _)
    exact h
 exact this own _ ⟨kR own [] hg (λ_ h=>by cases h),.nil,λ_ h=>by cases h⟩
theorem AmX {p:Plan} {s:Int} (h:isPoint p s=true):0<=s/\s<(p.secs.length:Int)/\(p.secs.map Sec.pt).getD s.toNat false=true:=by
 cases hz:secAt p s with
 | none=>unfold isPoint at h;rw[hz] at h;cases h
 | some y =>
   obtain⟨h1,h2,h3,h4⟩:=AdD hz
   exact⟨h1,h2,by rw[h3,<-h4];exact h⟩
theorem nT {α:Type} {R:α->α->Prop} {l:List α} (h:l.Pairwise R) (d:α):∀ i,1<=i->i<l.length->R (l.getD (i-1) d) (l.getD i d):=λi h1 hi=>by
 rw[getD_at (ArN hi),getD_at (ArN (show i-1<l.length by omega))]
 exact List.pairwise_iff_getElem.1 h (i-1) i (by omega) hi (by omega)
theorem vL {p:Plan} {D:List Dm.Dem} (h:∀ d∈D,Fair p d) (hr:D.Pairwise λx y=>x.pt<y.pt):demandsOk (p.secs.map Sec.pt) D=true:=by
 unfold demandsOk
 rw[bX]
 intro i _ hi
 have hd:=h _ (List.getElem_mem hi)
 obtain⟨h1,h2,h3⟩:=AmX hd.1
 unfold AlV
 rw[getD_at (ArN hi),AsH]
 simp only[AsF,Bool.or_eq_true,AsC,beq_iff_eq]
 refine⟨⟨⟨⟨h1,h2⟩,h3⟩,hd.2⟩,(Nat.eq_zero_or_pos i).imp id λh0=>?_⟩
 have:=nT hr dem0 i h0 hi
 rwa [getD_at (ArN hi)] at this
theorem mT {l:List Int} {n:Int} (h:l.Pairwise (·<·)) (hn:∀ x∈l,0<=x/\x<n):risingOk l n=true:=by
 rw[<-places_eq,AsF,uV]
 refine⟨?_,λx hx=>isIn_iff.2 (hn x hx)⟩
 unfold rises
 rw[bX]
 exact λi h1 hi=>decide_eq_true (nT h 0 i h1 hi)
theorem sQ {p:Plan} {D:List Dm.Dem} {l:List Stp} (hg:∀ y∈l,Goes p y) (ha:∀ x∈l,position p x≠0->Dm.posOf D x.s=position p x):asksOk (p.secs.map Sec.pt) D l=true:=by
 unfold asksOk
 rw[List.all_eq_true]
 intro x hx
 have hgx:=hg x hx
 unfold askOk
 cases hz:secAt p x.s with
 | none =>
   rw[show (p.secs.map Sec.pt).getD x.s.toNat false=false from ?_]
   ·rfl
   have:=hgx.low;have:=hgx.high
   unfold secAt at hz
   rw[ArY (by omega),List.getElem?_eq_none_iff] at hz
   omega
 | some y =>
   obtain⟨-,-,h3,h4⟩:=AdD hz
   rw[h3]
   cases hp:y.pt with
   | false=>rfl
   | true =>
     rw[hp] at h4
     obtain⟨h5,h6⟩:=hgx.pos h4
     rw[ha x hx (by rw[h5];omega),h5]
     simp
structure Named (p:Plan):Prop where
 secs:∀ s∈p.secs,Fig.nameB s.name=true
 rise:p.secs.Pairwise λa b=>a.name<b.name
 sigs:∀ s∈p.sigs,Fig.nameB s.name=true
 grise:p.sigs.Pairwise λa b=>a.name<b.name
 se:0<=p.se/\p.se<=1000
 ho:0<=p.ho/\p.ho<=1000
theorem AeT {L:List It.Itm} (hL:Pl.Ok L) {k:Int} (hk:k=3∨k=4):0<=num L k/\num L k<=1000:=by
 unfold num
 cases h:L.find? (λx=>decide (x.k=k)) with
 | none=>exact⟨Int.le_refl _,by decide⟩
 | some x =>
   have hx:=hL.right x (List.mem_of_find?_eq_some h)
   have hxk:x.k=k:=by simpa using List.find?_some h
   refine⟨(Lp.right_le hx).1,?_⟩
   obtain⟨T,hT⟩:=cO hx
   unfold It.parseK at hT
   have hnum:It.isNum x.k=true:=by rw[hxk];rcases hk with rfl|rfl <;> rfl
   rw[ArZ hnum] at hT
   split at hT
   ·split at hT
    ·rename_i hb
     have e:=AsO hT
     have:=Lp.parseN_le hb
     have hm:It.most x.k=1000:=by rw[hxk];rcases hk with rfl|rfl <;> rfl
     rw[hm] at this e
     show x.n<=1000
     rw[<-e]
     exact this
    cases hT
   cases hT
theorem named_fin {L:List It.Itm} (hL:Pl.Ok L):Named (fin L) where
 secs s hs:=by
  obtain⟨i,hi⟩:=List.getElem?_of_mem hs
  obtain⟨x,-,hx,-,-,rfl⟩:=nB hL hi
  exact(AfG (hL.right x (mem_secs.1 hx).1) (mem_secs.1 hx).2).2.1
 rise:=AfI hL
 sigs s hs:=by
  obtain⟨i,hi⟩:=List.getElem?_of_mem hs
  obtain⟨x,-,hx,-,-,rfl⟩:=AdN hL hi
  have h:=List.mem_filter.1 hx
  exact(right_sig (hL.right x h.1) (of_decide_eq_true h.2)).2.1
 grise:=AfJ hL
 se:=AeT hL (.inl rfl)
 ho:=AeT hL (.inr rfl)
theorem AiL {p:Plan} (hf:Fit p) (hm:Lp.Meas p) (hn:Named p) {i:Nat} (hi:i<p.sigs.length) {w:Cr.Way} (hw:w∈(Cr.of p i).1) (t:Table) (hp:t.points=p.secs.map Sec.pt) (ht:t.names.length=p.secs.length) (hs:t.sigs.length=p.sigs.length):fits t (Rt.fill p i w (Lp.of p i w).1)=true:=by
 have hg:=AmW hi hw
 have hnd:=Rt.own_nodup hi hw
 have hto:=AoQ hf hm hg
 have hst:=Cr.of_steps hw
 have hlt:=Lp.of_steps (p:=p) (i:=i) (w:=w)
 have hex:=Lp.way_exit hm hw
 have hso:=Rt.way_some hi hw
 have hnb:=Rt.near_bd hf hm (i:Int)
 have ho:=hn.ho
 have hask:=Rt.fill_asks hf hi hw
 have hgood:Dm.Good (Fl.of p (w.steps++(Lp.of p i w).1)).pts:=(Rt.of_keeps hf _).good (Rt.asks_steps hnd).good
 have hnear:((Nr.of p i).1.map λ(n:Nat)=>(n:Int)).Pairwise (·<·)/\∀ x∈(Nr.of p i).1.map (λ(n:Nat)=>(n:Int)),0<=x/\x<(p.secs.length:Int):=by
  rw[Nr.of_at hm (ArN hi)]
  simp only
  refine⟨List.pairwise_map.2 ((Nr.sects_rise p _ _).imp λh=>by omega),λx hx=>?_⟩
  obtain⟨n,hn,rfl⟩:=List.mem_map.1 hx
  have:=(Nr.mem_sects.1 hn).1
  exact⟨by omega,by omega⟩
 unfold fits
 rw[hp,ht,hs]
 simp only[AsF,AsC]
 refine⟨⟨⟨⟨⟨⟨⟨⟨⟨⟨⟨⟨⟨⟨⟨?_,?_⟩,?_⟩,?_⟩,?_⟩,?_⟩,?_⟩,?_⟩,?_⟩,?_⟩,?_⟩,?_⟩,?_⟩,?_⟩,?_⟩,?_⟩
 ·show (0:Int)<=(i:Int);omega
 ·show (i:Int)<_;omega
 ·exact hex.1
 ·exact hex.2
 ·show (0:Int)<(w.steps.length:Int);omega
 ·exact qB (λy hy=>hg y (List.mem_append_left _ hy)) (by
   rw[List.map_append,List.nodup_append] at hnd
   exact hnd.1) hst
 ·exact qB (λy hy=>hg y (List.mem_append_right _ hy)) hnd hlt
 ·exact vL hto.pts hgood.rise
 ·exact sQ (λy hy=>hg y (List.mem_append_left _ hy)) λx hx=>hask x (List.mem_append_left _ hx)
 ·exact sQ (λy hy=>hg y (List.mem_append_right _ hy)) λx hx=>hask x (List.mem_append_right _ hx)
 ·exact mT hto.fl hto.sig
 ·exact mT hnear.1 hnear.2
 ·exact hnb.1
 ·show (Nr.of p i).2<_;omega
 ·show 0<=p.ho+(Nr.of p i).2 / 100000;omega
 show p.ho+(Nr.of p i).2 / 100000<_;omega
theorem AmY {p:Plan} (hf:Fit p) (hm:Lp.Meas p) (hn:Named p) (t:Table) (hp:t.points=p.secs.map Sec.pt) (ht:t.names.length=p.secs.length) (hs:t.sigs.length=p.sigs.length):∀ r∈(Rt.all p).1,fits t r=true :=
 Rt.all_each λi hi w hw h=>by
  rw[Rt.of_err] at h
  rw[Rt.of_ok h]
  exact AiL hf hm hn hi hw t hp ht hs
theorem qC {p:Plan} {i:Int}:∀ {ws:List Cr.Way} {acc:List Rt.Route},(acc.Pairwise λa b=>a.entry<=b.entry)->(∀ r∈acc,r.entry<=i)->((Rt.ways p i ws acc).1.Pairwise λa b=>a.entry<=b.entry)/\∀ r∈(Rt.ways p i ws acc).1,r.entry<=i
 | [],acc,h,h2=>⟨h,h2⟩
 | w :: ws,acc,h,h2=>by
   unfold Rt.ways
   split
   ·exact⟨.nil,λ_ h=>by cases h⟩
   split
   ·rename_i hz
    have he:(Rt.of p i w).1.entry=i:=by
     rw[Rt.of_err] at hz
     rw[Rt.of_ok hz]
     rfl
    refine qC ?_ λr hr=>?_
    ·rw[List.pairwise_append]
     exact⟨h,List.pairwise_singleton _ _,λa ha b hb=>by rw[AsS.1 hb,he];exact h2 a ha⟩
    rcases ArW.1 hr with hr|hr
    ·exact h2 r hr
    rw[AsS.1 hr,he];exact Int.le_refl _
   exact⟨.nil,λ_ h=>by cases h⟩
theorem qD {p:Plan}:∀ {l:List Nat} {acc:List Rt.Route},l.Pairwise (·<·)->(acc.Pairwise λa b=>a.entry<=b.entry)->(∀ r∈acc,∀ i∈l,r.entry<=(i:Int))->(Rt.from_ p l acc).1.Pairwise λa b=>a.entry<=b.entry
 | [],acc,_,h,_=>h
 | i :: l,acc,hl,h,h2=>by
   obtain⟨hl1,hl2⟩:=List.pairwise_cons.1 hl
   unfold Rt.from_
   split
   ·split
    ·have hw:=qC (p:=p) (i:=(i:Int)) (ws:=(Cr.of p i).1) h λr hr=>h2 r hr i (List.mem_cons_self ..)
     exact qD hl2 hw.1 λr hr k hk=>by
      have h3:=hw.2 r hr
      have h4:=hl1 k hk
      omega
    exact .nil
   exact .nil
theorem AiM (p:Plan):(Rt.all p).1.Pairwise λa b=>a.entry<=b.entry:=qD List.pairwise_lt_range .nil λ_ h=>by cases h
theorem qE {l:List Nm} (h:l.Pairwise (·<·)) (hn:∀ x∈l,Fig.nameB x=true):namesOk l=true:=by
 rw[<-named_eq,AsF,uV]
 refine⟨?_,hn⟩
 unfold risesN
 rw[bX]
 exact λi h1 hi=>decide_eq_true (nT h [] i h1 hi)
theorem right_make {p:Plan} (hf:Fit p) (hm:Lp.Meas p) (hn:Named p) (h:(Rt.all p).2=0):right (make p).1=true:=by
 have e:make p=(⟨p.secs.map Sec.name,p.secs.map Sec.pt,p.sigs.map Sig.name,p.se,(Rt.all p).1,Cl.rows (Rt.all p).1⟩,0):=ArZ h
 rw[e]
 have h1:=hf.few
 have h2:=hf.gfew
 have h3:=Rt.all_len p
 have h4:=hn.se
 unfold right sizesOk
 simp only[AsF,AsC,beq_iff_eq,AsH]
 refine⟨⟨⟨⟨⟨⟨⟨⟨⟨by omega,trivial⟩,by omega⟩,by omega⟩,?_⟩,?_⟩,h4.1⟩,h4.2⟩,?_⟩,trivial⟩
 ·exact qE (List.pairwise_map.2 hn.rise) λx hx=>by
   obtain⟨s,hs,rfl⟩:=List.mem_map.1 hx
   exact hn.secs s hs
 ·exact qE (List.pairwise_map.2 hn.grise) λx hx=>by
   obtain⟨s,hs,rfl⟩:=List.mem_map.1 hx
   exact hn.sigs s hs
 rw[bX]
 intro i _ hi
 unfold routeOk
 rw[AsF,Bool.or_eq_true,AsC,AsC]
 refine⟨?_,(Nat.eq_zero_or_pos i).imp id λh0=>nT (AiM p) Rt.zero i h0 hi⟩
 rw[getD_at (ArN hi)]
 exact AmY hf hm hn _ rfl (AsH ..) (AsH ..) _ (List.getElem_mem hi)
end Go.Proofs.YtjofpclmbjpgjaaGreat.Tb
