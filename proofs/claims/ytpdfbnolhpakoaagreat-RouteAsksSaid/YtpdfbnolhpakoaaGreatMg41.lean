/-
  Texts of this claim, merged: RtAwake.
-/
import Derived.Test.YtpdfbnolhpakoaaGreatMg13
import Derived.Test.YtpdfbnolhpakoaaGreatMg21
import Derived.Test.YtpdfbnolhpakoaaGreatMg40
namespace Go.Proofs.YtpdfbnolhpakoaaGreat
open Go.RowKit
theorem awRt_fit:Pl.Fit awL∧Lp.Meas awL:=by
  obtain ⟨hf,L,hL,hS,e⟩:=madeP_some made_exL
  refine ⟨hf,?_⟩
  rw [e]
  exact Lp.meas_fin hL hS
def rtT0:List Int:=[-1,-1,-1,-1,-1,-1,-1,-1,-1,-1,-1,-1,-1,-1,-1,-1,-1,-1,-1,9000,-1,-1,0,-1]
theorem rtN0:Nr.of awL 0=([6,7],17000) :=
  Nr.of_eval awRt_fit.1 awRt_fit.2 (i:=0) (g:=⟨[65],7,1⟩) (by decide +kernel) (by decide +kernel) (T:=rtT0) (by decide +kernel) (by decide +kernel) (by decide +kernel)
theorem rtL0:Lp.of awL 0 ⟨[⟨2,0,1⟩,⟨4,0,1⟩],1⟩ = ([⟨3,1,0⟩],0):=by decide +kernel
theorem rtF0:(Fl.of awL [⟨2,0,1⟩,⟨4,0,1⟩,⟨3,1,0⟩]).fl=[2,5]:=by decide +kernel
theorem rtA_ok:∀ i∈List.range awL.sigs.length,(Cr.of awL i).2=0∧∀ w∈(Cr.of awL i).1,(Lp.of awL i w).2=0:=by decide +kernel
theorem rtA_len:((List.range awL.sigs.length).map fun (i:Nat)=>(Cr.of awL i).1.length).sum≤30:=by decide +kernel
theorem rtA_ent:((List.range awL.sigs.length).flatMap fun (i:Nat)=>(Cr.of awL i).1.map fun _=>(i:Int))=[0,0,1,2,3,3,4,5,6,7]:=by decide +kernel
theorem rtA_all:Rt.all awL=((List.range awL.sigs.length).flatMap (fun (i:Nat)=>(Cr.of awL i).1.map fun w=>Rt.fill awL i w (Lp.of awL i w).1),0):=Rt.all_all rtA_ok rtA_len
theorem rtA_ents:(Rt.all awL).1.map Rt.Route.entry=[0,0,1,2,3,3,4,5,6,7]:=(Rt.all_entries rtA_all).trans rtA_ent
noncomputable def rtR0:Rt.Route:=⟨0,1,[⟨2,0,1⟩,⟨4,0,1⟩],[⟨3,1,0⟩],(Fl.of awL [⟨2,0,1⟩,⟨4,0,1⟩,⟨3,1,0⟩]).pts,[2,5],[6,7],17000,1⟩
theorem rtA_fill:Rt.fill awL 0 ⟨[⟨2,0,1⟩,⟨4,0,1⟩],1⟩ [⟨3,1,0⟩]=rtR0:=by
  unfold Rt.fill rtR0
  rw [rtN0]
  show Rt.Route.mk _ _ _ _ _ (Fl.of awL [⟨2,0,1⟩,⟨4,0,1⟩,⟨3,1,0⟩]).fl _ _ _=_
  rw [rtF0]
  congr 1
theorem rtA_of:Rt.of awL 0 ⟨[⟨2,0,1⟩,⟨4,0,1⟩],1⟩ = (rtR0,0):=by
  rw [Rt.of_ok (by rw[rtL0]),rtL0]
  exact congrArg (fun x=>(x,(0:Int))) rtA_fill
theorem rtA_one:∃ L:List Rt.Route,Rt.all awL=(L,0)∧L.length=10∧L.take 1=[rtR0]∧∃ y,L[9]? = some y∧y.entry=7:=by
  refine ⟨(Rt.all awL).1,by rw[rtA_all],?_,?_,?_⟩
  · have:=congrArg List.length rtA_ents
    rw [List.length_map] at this
    exact this
  · rw [rtA_all]
    have e8:List.range awL.sigs.length=0 :: [1,2,3,4,5,6,7]:=by decide +kernel
    rw [e8,List.flatMap_cons]
    have h:(Cr.of awL ((0:Nat):Int)).1=[⟨[⟨2,0,1⟩,⟨4,0,1⟩],1⟩,⟨[⟨2,0,2⟩,⟨5,0,1⟩],2⟩]:=by
      have:=awL_of0
      exact congrArg Prod.fst this
    rw [h,List.map_cons,List.cons_append,List.take_succ_cons,List.take_zero]
    congr 1
    show Rt.fill awL 0 _ (Lp.of awL 0 _).1=_
    rw [rtL0]
    exact rtA_fill
  · have h:=congrArg (fun l=>l[9]?) rtA_ents
    simp only [List.getElem?_map] at h
    cases hy:(Rt.all awL).1[9]? with
    | none=>rw[hy] at h;cases h
    | some y =>
      rw [hy] at h
      exact ⟨y,rfl,Option.some.inj h⟩
theorem RoutesIn.take {w:World} {A:Option Addr} {L:List Rt.Route} (h:RoutesIn w A L) (k:Nat):RoutesIn w A (L.take k):=by
  obtain ⟨M,rfl,h2,h3⟩:=h
  exact ⟨M.take k,List.map_take,Lies.Row.take LRt h2 k,fun m hm=>h3 m (List.mem_of_mem_take hm)⟩
theorem RoutesIn.one {w:World} {m:RouteM} (h:PartsIn w m):RoutesIn (w.alloc (rtO m)) (some ⟨w.heap.size,0,none⟩) [m.r] :=
  ⟨[m],rfl,Lies.Row.fresh (E:=LRt) w [m] 43,fun x hx=>by
    rw [List.mem_singleton.1 hx]
    exact h.below ((Below.refl _ _).alloc (Nat.le_refl _) _)⟩
theorem pLoop12_any (w:World):Calls Tryz.prog 24 #[] w fun e w'=>e=.returned (.string exL)∧w=w':=by
  go_enter Tryz.func24,Tryz.ntmps24
  go_wp2
  go_ret
  exact ⟨rfl,rfl⟩
set_option maxHeartbeats 16000000 in
set_option maxRecDepth 100000 in
theorem rtAwake_any (w:World):Calls Tryz.prog 8 #[] w fun e w'=>e=.returned (.bool true)∧Below w.heap.size w w':=by
  have CL:=Lib.hid pLoop12_any
  have CM:=Lib.hid (fun W=>made_some made_exL W)
  obtain ⟨L,hal,hl10,htk,y9,hy9,he9⟩:=rtA_one
  go_enter Tryz.func8,Tryz.ntmps8
  go_wp2_with fail
  refine (CL.out _).mono ?_;rintro e w0 ⟨rfl,rfl⟩
  go_wp2_with fail
  refine (CM.out _).mono ?_;rintro e w1 ⟨A,c,A',c',rfl,pin,hb1⟩
  have X1:=(Below.refl w1.heap.size w1).alloc (Nat.le_refl _) (planO awL A c A' c')
  have B5:=Lib.hid (hb1.trans (X1.mono hb1.size))
  have I5:=Lib.hid (pin.below X1)
  have RP:=Lib.hid (heap_alloc_new w1 (planO awL A c A' c'))
  obtain ⟨⟨p0,p1,p2,p3,p4,p5⟩,-,gx⟩:=row6 RP.out
  clear hb1 pin CM CL X1
  go_upto_region 4 with fail
  generalize w1.alloc (planO awL A c A' c')=w5 at B5 I5 RP p0 p1 p2 p3 p4 p5 gx ⊢
  generalize w1.heap.size=g at RP p0 p1 p2 p3 p4 p5 gx ⊢
  have KP:=Lib.hid (fun W (hW:Below w5.heap.size w5 W)=>(row6 ((hW.block _ gx).trans RP.out)).1)
  have GX:=Lib.hid gx
  have C1:=Lib.hid (ptAll_any awL awRt_fit.1 awRt_fit.2 (by decide) (by decide) A c A' c' w5 I5.out)
  rw [hal] at C1
  have HL:=Lib.hid (And.intro hl10 (And.intro htk (And.intro hy9 he9)))
  clear hal hl10 htk hy9 he9 RP
  go_wp2_with fail
  refine C1.out.mono ?_;rintro e w6 ⟨Al,cl,rfl,hcl,hRI,hb6⟩
  have T6:=Lib.hid hb6
  have RI6:=Lib.hid hRI
  have C2:=Lib.hid (rcOf_t awL A c A' c' 0 w6 (I5.out.below hb6))
  rw [awL_of0] at C2
  obtain ⟨q0,q1,q2,q3,q4,q5⟩:=KP.out _ hb6
  have gx6:=Nat.lt_of_lt_of_le gx hb6.size
  clear p0 p1 p2 p3 p4 p5 gx hRI hb6 C1
  rw [show L.length=10 from HL.out.1]
  have hcl10:10≤cl:=by have:=HL.out.1;have h:L.length≤cl:=hcl;omega
  clear hcl
  go_wp2_with fail
  refine C2.out.mono ?_;rintro e w7 ⟨Bw,dw,rfl,hW7,hb7⟩
  have T7:=Lib.hid (T6.out.trans (hb7.mono T6.out.size))
  have RI7:=Lib.hid (RI6.out.below hb7)
  obtain ⟨bw,ow,Sw,uw,rfl,hbw,c0,c1,hSw,-⟩:=hW7.at (k:=0) rfl
  have HS7:=Lib.hid hSw
  clear q0 q1 q2 q3 q4 q5 gx6 hb7 C2 hW7 RI6 hSw
  have T0:=Lib.hid (Below.refl w7.heap.size w7)
  have KS:=Lib.hid (fun W (hW:Below w7.heap.size w7 W)=>And.intro (KP.out _ (T7.out.trans (hW.mono T7.out.size))) (show W.cell? ⟨bw,ow,none⟩ = some (.slice Sw 2 uw)∧W.cell? ⟨bw,ow+1,none⟩ = some (.int .i64 1) from And.intro ((hW.cell (p:=⟨bw,ow,none⟩) hbw).trans (by have:=c0;rw[Nat.zero_mul,Nat.add_zero] at this;exact this)) ((hW.cell (p:=⟨bw,ow+1,none⟩) hbw).trans (by have:=c1;rw[Nat.zero_mul,Nat.add_zero] at this;exact this))))
  have CO:=Lib.hid (fun W (hW:Below w7.heap.size w7 W)=>ptOf_any awL awRt_fit.1 awRt_fit.2 (by decide) (by decide) A c A' c' 0 (by decide) ⟨[⟨2,0,1⟩,⟨4,0,1⟩],1⟩ (by have h:=awL_of0;rw[show ((0:Nat):Int)=0 from rfl,h];exact List.mem_cons_self ..) Sw uw W (I5.out.below (T7.out.trans (hW.mono T7.out.size))) (HS7.out.below hW))
  rw [show Rt.of awL ((0:Nat):Int) ⟨[⟨2,0,1⟩,⟨4,0,1⟩],1⟩ = (rtR0,0) from rtA_of] at CO
  have CO:=Lib.hid (fun W (hW:Below w7.heap.size w7 W)=>show Calls Tryz.prog 13 #[.agg #[.int .i64 awL.ov,.int .i64 awL.ap,.int .i64 awL.se,.int .i64 awL.ho,.slice A awL.secs.length c,.slice A' awL.sigs.length c'],.int .i64 0,.agg #[.slice Sw 2 uw,.int .i64 1]] W (RouteYes (rtR0,0) W) from CO.out W hW)
  clear c0 c1
  go_upto_region 8 with fail
  go_cut [7,8] from 34 to 105 (fun s7 s8 w'=>OneRt w7 rtR0 0 s7 s8 w')
  case first =>
    go_region_held3 (fun W'=>(W'.cell? ⟨g,0,none⟩ = some (.int .i64 awL.ov)∧W'.cell? ⟨g,1,none⟩ = some (.int .i64 awL.ap)∧W'.cell? ⟨g,2,none⟩ = some (.int .i64 awL.se)∧W'.cell? ⟨g,3,none⟩ = some (.int .i64 awL.ho)∧W'.cell? ⟨g,4,none⟩ = some (.slice A awL.secs.length c)∧W'.cell? ⟨g,5,none⟩ = some (.slice A' awL.sigs.length c'))∧W'.cell? ⟨bw,ow,none⟩ = some (.slice Sw 2 uw)∧W'.cell? ⟨bw,ow+1,none⟩ = some (.int .i64 1))
      (first | with_reducible exact KS.out _ T0.out.drew | with_reducible exact KS.out _ (T0.out.alloc T0.out.size _).drew | with_reducible exact KS.out _ h5 | with_reducible exact KS.out _ (h5.alloc h5.size _) | with_reducible exact KS.out _ (set9_below h5 (Nat.le_refl _)) | (go_keep;done))
      (first
        | (go_at_call 13;(with_reducible refine (CO.out _ T0.out.drew).mono ?_);rintro e5 z5 ⟨m,hmr,rfl,hPN,hl5⟩;have HMR:=Lib.hid hmr;clear hmr;have h5:=T0.out.drew.trans (hl5.mono T0.out.drew.size);have hPW:=hPN.base T0.out.drew.size)
        | (go_at_call 13;(with_reducible refine (CO.out _ (T0.out.alloc T0.out.size rtZ).drew).mono ?_);rintro e5 z5 ⟨m,hmr,rfl,hPN,hl5⟩;have HMR:=Lib.hid hmr;clear hmr;have h5:=(T0.out.alloc T0.out.size rtZ).drew.trans (hl5.mono (T0.out.alloc T0.out.size rtZ).drew.size);have hpz:=(hl5.block w7.heap.size (by simp)).trans (heap_alloc_new w7 rtZ);obtain ⟨⟨z0,z1,z2,z3,z4,z5',z6,z7,z8⟩,⟨y0,y1,y2,y3,y4,y5,y6,y7,y8⟩,zg⟩:=row9 hpz))
    all_goals go_wp2_with fail
    all_goals go_meet
    all_goals refine ⟨_,m,rfl,rfl,HMR.out,?_,?_,?_⟩
    all_goals first
      | with_reducible exact heap_alloc_new _ _
      | with_reducible exact hPW.below ((Below.refl _ _).alloc (Nat.le_refl _) _)
      | with_reducible exact h5.alloc h5.size _
      | with_reducible exact set9_same hpz
      | with_reducible exact PartsNew.base (PartsNew.set9 hPN hpz (.inl (by simp))) (by simp)
      | with_reducible exact set9_below h5 (Nat.le_refl _)
  case rest =>
    obtain ⟨gr,m,rfl,rfl,hmr,hgr,hPN,hB8⟩:=hcut
    obtain ⟨A1,c1,A2,c2,A3,c3,A4,c4,A5,c5,r⟩:=m
    simp only at hmr
    subst hmr
    have hP:=hPN.in_
    have RI8:=Lib.hid (RI7.out.below hB8)
    obtain ⟨bl,ol,m9,rfl,hbl,hm9,hon9,-⟩:=RI8.out.at HL.out.2.2.1
    have HG:=Lib.hid hgr
    have HP:=Lib.hid hP
    have B8:=Lib.hid ((B5.out.trans (T7.out.mono B5.out.size)).trans (hB8.mono (B5.out.trans (T7.out.mono B5.out.size)).size))
    have gl:=(Array.getElem?_eq_some_iff.1 hgr).1
    have T8:=Lib.hid (Below.refl wc.heap.size wc)
    have KG:=Lib.hid (fun W (hW:Below wc.heap.size wc W)=>row9 (show W.heap[gr]? = some (.cells #[.int .i64 0,.int .i64 1,.slice A1 2 c1,.slice A2 1 c2,.slice A3 rtR0.pts.length c3,.slice A4 2 c4,.slice A5 2 c5,.int .i64 17000,.int .i64 1] 43 (0,0)) from (hW.block _ gl).trans HG.out))
    have K9:=Lib.hid (fun W (hW:Below wc.heap.size wc W)=>show W.cell? ⟨bl,ol+9 * 9,none⟩ = some (.int .i64 7)∧W.cell? ⟨bl,ol+81,none⟩ = some (.int .i64 7) from by
      have h:=(rt_on (hon9.below hbl hW)).1
      rw [hm9,HL.out.2.2.2] at h
      exact ⟨h,h⟩)
    have KQ:=Lib.hid (fun W (hW:Below wc.heap.size wc W)=>show W.cell? ⟨gr,0,none⟩ = some (.int .i64 0)∧W.cell? ⟨gr,1,none⟩ = some (.int .i64 1)∧W.cell? ⟨gr,2,none⟩ = some (.slice A1 2 c1)∧W.cell? ⟨gr,3,none⟩ = some (.slice A2 1 c2)∧W.cell? ⟨gr,4,none⟩ = some (.slice A3 rtR0.pts.length c3)∧W.cell? ⟨gr,5,none⟩ = some (.slice A4 2 c4)∧W.cell? ⟨gr,6,none⟩ = some (.slice A5 2 c5)∧W.cell? ⟨gr,7,none⟩ = some (.int .i64 17000)∧W.cell? ⟨gr,8,none⟩ = some (.int .i64 1)∧W.cell? ⟨bl,ol+81,none⟩ = some (.int .i64 7) from by
      obtain ⟨⟨r0,r1,r2,r3,r4,r5,r6,r7,r8⟩,-,-⟩:=KG.out W hW
      exact ⟨r0,r1,r2,r3,r4,r5,r6,r7,r8,(K9.out W hW).2⟩)
    have CSM:=Lib.hid (fun W k (hk:W.heap.size=k) (hW:Below wc.heap.size wc W)=>show Calls Tryz.prog 11 #[.slice (some ⟨bl,ol,none⟩) 1 cl,.slice (some ⟨k,0,none⟩) 1 1] (W.alloc (.cells #[.int .i64 0,.int .i64 1,.slice A1 2 c1,.slice A2 1 c2,.slice A3 rtR0.pts.length c3,.slice A4 2 c4,.slice A5 2 c5,.int .i64 17000,.int .i64 1] 43)).drew (fun e w'=>e=.returned (.bool true)∧Below wc.heap.size wc w') from by
      subst hk
      have X:=(hW.alloc hW.size (rtO ⟨A1,c1,A2,c2,A3,c3,A4,c4,A5,c5,rtR0⟩)).drew
      refine (rtSame_any [rtR0] (some ⟨bl,ol,none⟩) cl (some ⟨W.heap.size,0,none⟩) 1 _ (by have h:=(RI8.out.below X).take 1;rw[HL.out.2.1] at h;exact h) ((RoutesIn.one (HP.out.below hW)).below (Below.refl _ _).drew) (by show 1≤1000;decide) (fun y hy=>by
        rw [List.mem_singleton.1 hy]
        have hp:rtR0.pts.length≤1000:=by decide +kernel
        exact ⟨by decide,by decide,hp,by decide,by decide⟩)).mono ?_
      rintro e w' ⟨rfl,hb⟩
      exact ⟨rfl,X.trans (hb.mono X.size)⟩)
    have CI1:=Lib.hid (fun W k (hk:W.heap.size=k) (hW:Below wc.heap.size wc W)=>show Calls Tryz.prog 19 #[.slice A4 2 c4,.slice (some ⟨k,0,none⟩) 2 2] (W.alloc (.cells #[.int .i64 2,.int .i64 5] 3)) (fun e w'=>e=.returned (.bool true)∧Below wc.heap.size wc w') from by
      subst hk
      have X:=hW.alloc hW.size (.cells #[.int .i64 2,.int .i64 5] 3)
      refine (rtInts_any A4 c4 2 [2,5] (some ⟨W.heap.size,0,none⟩) 2 2 [2,5] _ rfl (HP.out.p4.below rfl X) (by decide) rfl (Lies.Row.fresh (E:=LNum) W [2,5] 3)).mono ?_
      rintro e w' ⟨rfl,hb⟩
      exact ⟨by rw[decide_eq_true rfl],X.trans (hb.mono X.size)⟩)
    have CI2:=Lib.hid (fun W k (hk:W.heap.size=k) (hW:Below wc.heap.size wc W)=>show Calls Tryz.prog 19 #[.slice A5 2 c5,.slice (some ⟨k,0,none⟩) 2 2] (W.alloc (.cells #[.int .i64 6,.int .i64 7] 3)) (fun e w'=>e=.returned (.bool true)∧Below wc.heap.size wc w') from by
      subst hk
      have X:=hW.alloc hW.size (.cells #[.int .i64 6,.int .i64 7] 3)
      refine (rtInts_any A5 c5 2 [6,7] (some ⟨W.heap.size,0,none⟩) 2 2 [6,7] _ rfl (HP.out.p5.below rfl X) (by decide) rfl (Lies.Row.fresh (E:=LNum) W [6,7] 3)).mono ?_
      rintro e w' ⟨rfl,hb⟩
      exact ⟨by rw[decide_eq_true rfl],X.trans (hb.mono X.size)⟩)
    have HN1:1≤cl:=by omega
    have HN2:¬ cl<1:=by omega
    have HN3:(1:Int)≤(cl:Int):=by omega
    have HN4:(0:Int)≤(cl:Int):=by omega
    have HN6:¬ cl=0:=by omega
    clear hPN hgr hP hB8 hon9 hm9 hbl RI7 HS7 KS CO T0 KP GX I5 gl
    go_upto_region 9 with fail
    dsimp only [List.append]
    go_region_held3 (fun W=>W.cell? ⟨gr,0,none⟩ = some (.int .i64 0)∧W.cell? ⟨gr,1,none⟩ = some (.int .i64 1)∧W.cell? ⟨gr,2,none⟩ = some (.slice A1 2 c1)∧W.cell? ⟨gr,3,none⟩ = some (.slice A2 1 c2)∧W.cell? ⟨gr,4,none⟩ = some (.slice A3 rtR0.pts.length c3)∧W.cell? ⟨gr,5,none⟩ = some (.slice A4 2 c4)∧W.cell? ⟨gr,6,none⟩ = some (.slice A5 2 c5)∧W.cell? ⟨gr,7,none⟩ = some (.int .i64 17000)∧W.cell? ⟨gr,8,none⟩ = some (.int .i64 1)∧W.cell? ⟨bl,ol+81,none⟩ = some (.int .i64 7))
      (first | with_reducible exact KQ.out _ T8.out.drew | with_reducible exact KQ.out _ (T8.out.alloc T8.out.size _).drew | with_reducible exact KQ.out _ u1 | with_reducible exact KQ.out _ (u1.alloc u1.size _) | with_reducible exact KQ.out _ u2 | with_reducible exact KQ.out _ (u2.alloc u2.size _) | with_reducible exact KQ.out _ u3 | (go_keep;done))
      (first
        | (go_at_call 11;(with_reducible refine (CSM.out _ _ rfl T8.out).mono ?_);rintro e1 v1 ⟨rfl,u1⟩)
        | (go_at_call 19;(with_reducible refine (CI1.out _ _ rfl u1).mono ?_);rintro e2 v2 ⟨rfl,u2⟩)
        | (go_at_call 19;(with_reducible refine (CI2.out _ _ rfl u2).mono ?_);rintro e3 v3 ⟨rfl,u3⟩))
    all_goals go_wp2_with fail
    all_goals go_ret
    all_goals exact ⟨rfl,B8.out.trans (u3.mono B8.out.size)⟩
end Go.Proofs.YtpdfbnolhpakoaaGreat
