/-
  Texts of this claim, merged: RouteAsksWalk, RtHeld.
-/
import Derived.Test.YtpdfbnolhpakoaaGreatMg19
import Derived.Test.YtpdfbnolhpakoaaGreatMg42
import Derived.Test.YtpdfbnolhpakoaaGreatMg50
namespace Go.Proofs.YtpdfbnolhpakoaaGreat
open Go.RowKit
set_option maxHeartbeats 16000000 in
set_option maxRecDepth 100000 in
theorem routeAsks_walk (s:ByteArray) (W:World) (_ws:s.size≤maxLen) :
    Calls Tryz.prog 5 #[.string s] W fun e w'=>e=.returned (.bool true)∧Below W.heap.size W w':=by
  have AW:=Lib.hid rtAwake_any
  cases hm:madeP s.data.toList with
  | none =>
    have CM:=Lib.hid (fun W=>made_void hm W)
    go_enter Tryz.func5,Tryz.ntmps5
    go_wp2_with fail
    refine (CM.out _).mono ?_;rintro e w1 ⟨p,S,cS,G,cG,rfl,-,hb1⟩
    have B5:=Lib.hid (hb1.alloc hb1.size (planO p S cS G cG))
    clear hb1 CM
    go_wp2_with fail
    refine (AW.out _).mono ?_;rintro e w8 ⟨rfl,hb8⟩
    go_wp2
    go_ret
    exact ⟨rfl,B5.out.trans (hb8.mono B5.out.size)⟩
  | some p =>
    obtain ⟨hfit,hmeas,hap,hho⟩:=madeP_route hm
    have hho2:0≤p.ho∧p.ho≤1125899906842624:=by omega
    have CM:=Lib.hid (fun W=>made_some hm W)
    have HSM:=Lib.hid (Rt.all_small hfit)
    have HAS:=Lib.hid (Rt.all_asks hfit)
    have hln:=Rt.all_len p
    clear hm
    go_enter Tryz.func5,Tryz.ntmps5
    go_wp2_with fail
    refine (CM.out _).mono ?_;rintro e w1 ⟨S,cS,G,cG,rfl,pin,hb1⟩
    have X1:=(Below.refl w1.heap.size w1).alloc (Nat.le_refl _) (planO p S cS G cG)
    have B5:=Lib.hid (hb1.trans (X1.mono hb1.size))
    have RP:=Lib.hid (heap_alloc_new w1 (planO p S cS G cG))
    have I5:=Lib.hid (pin.below X1:PlanIn (w1.alloc (planO p S cS G cG)) p S G)
    obtain ⟨⟨p0,p1,p2,p3,p4,p5⟩,-,gx⟩:=row6 RP.out
    clear pin hb1 X1 CM
    go_upto_region 4 with fail
    generalize w1.alloc (planO p S cS G cG)=w5 at B5 RP I5 p0 p1 p2 p3 p4 p5 gx ⊢
    generalize w1.heap.size=gq at RP p0 p1 p2 p3 p4 p5 gx ⊢
    have KP:=Lib.hid (fun W' (hW:Below w5.heap.size w5 W')=>(row6 ((hW.block _ gx).trans RP.out)).1)
    have C1:=Lib.hid (ptAll_any p hfit hmeas hap hho2 S cS G cG w5 I5.out)
    generalize Rt.all p=al at C1 HSM HAS hln
    obtain ⟨L,er⟩:=al
    have hln':L.length≤30:=hln
    clear hfit hmeas hap hho hho2 hln
    go_wp2_with fail
    refine C1.out.mono ?_;rintro e w6 ⟨A1,c1,rfl,hc1,hR1,hb6⟩
    have T6:=Lib.hid hb6
    have R1:=Lib.hid hR1
    have T0:=Lib.hid (Below.refl w6.heap.size w6)
    have KP6:=Lib.hid (fun W' (hW:Below w6.heap.size w6 W')=>KP.out W' (T6.out.trans (hW.mono T6.out.size)))
    have I6:=Lib.hid (fun W' (hW:Below w6.heap.size w6 W')=>I5.out.below (T6.out.trans (hW.mono T6.out.size)))
    have B6:=Lib.hid (B5.out.trans (T6.out.mono B5.out.size))
    clear hc1 hR1 hb6 C1 p0 p1 p2 p3 p4 p5 gx B5 RP I5 KP T6
    go_wp2_with fail
    go_loopw [7,8,9,10] (fun v7 _ _ _ w'=>∃ i:Nat,i≤L.length∧v7=.int .i64 i∧Below w6.heap.size w6 w') (fun v7 _ _ _ _=>L.length - (intOf v7).toNat)
    case atStart=>exact ⟨0,Nat.zero_le _,rfl,T0.out⟩
    case round =>
      obtain ⟨i,hi,rfl,hB⟩:=hrel
      have HB:=Lib.hid hB
      clear hB
      by_cases hlt:i<L.length
      · have d1 : decide ((i:Int)<(L.length:Int))=true:=dec_t (by omega)
        have i0:(0:Int)≤(i:Int):=Int.natCast_nonneg i
        have i1:(i:Int)<(L.length:Int):=by omega
        have hy:=List.getElem?_eq_getElem hlt
        have hym:=HSM.out _ (List.getElem_mem hlt)
        have hya:=HAS.out _ (List.getElem_mem hlt)
        obtain ⟨b,o,m,rfl,hb,hm1,hon,hP⟩:=(R1.out.below HB.out).two hy
        generalize L[i]=y at hm1 hym hya
        obtain ⟨A1,c1',A2,c2,A3,c3,A4,c4,A5,c5,r⟩:=m
        simp only at hm1
        subst hm1
        obtain ⟨en,ex,ys,yl,yp,yf,yn,yd,yt⟩:=r
        obtain ⟨hs1,hs2,hs3,-,-⟩:=hym
        simp only at hs1 hs2 hs3
        have HA:=Lib.hid (show ∀ x∈ys++yl,Wk.position p x≠0→Dm.posOf yp x.s=Wk.position p x from hya)
        have W0:=Lib.hid (Below.refl wr.heap.size wr)
        have K1:=Lib.hid (fun W (hW:Below wr.heap.size wr W)=>show W.cell? ⟨b,o+i * 9+2,none⟩ = some (.slice A1 ys.length c1')∧W.cell? ⟨b,o+i * 9+3,none⟩ = some (.slice A2 yl.length c2) from
          ⟨(rt_on (hon W hW)).2.2.1,(rt_on (hon W hW)).2.2.2.1⟩)
        have K4:=Lib.hid (fun W (hW:Below wr.heap.size wr W)=>show W.cell? ⟨b,o+i * 9+4,none⟩ = some (.slice A3 yp.length c3) from (rt_on (hon W hW)).2.2.2.2.1)
        have P1:=Lib.hid hP
        obtain ⟨i0',hi',hz0,hz1,hz2⟩:=info_parts infoStp3
        clear hy hya hon hP
        go_upto_region 8 with fail
        go_cut [8] from 24 to 71 (fun s8 w'=>w'.ownsRow wr.heap.size 59 LStp.m s8 (ys++yl).length (LStp.all (ys++yl))∧Below wr.heap.size wr w')
        case first =>
          go_region_held3 (fun W=>W.cell? ⟨b,o+i * 9+2,none⟩ = some (.slice A1 ys.length c1')∧W.cell? ⟨b,o+i * 9+3,none⟩ = some (.slice A2 yl.length c2))
            (first | with_reducible exact K1.out _ W0.out.drew | with_reducible exact K1.out _ (W0.out.alloc W0.out.size _).drew | with_reducible exact K1.out _ h9 | with_reducible exact K1.out _ h8 | (go_keep;done))
            (first
              | (refine step_append_at LStp (by rfl) (.tmp 30) (.tmp 35) 35 (by rfl) wr.heap.size 59 i0' _ 24 Tryz.underlying35 hi' hz0 hz1 hz2 rfl (.slice (some ⟨wr.heap.size,0,none⟩) 0 0) 0 [] (by rfl) ((ownstp_empty wr rfl (Nat.le_refl _)).drew) A1 ys.length c1' ys (by rfl) rfl (P1.out.p1.below rfl (W0.out.alloc W0.out.size _).drew) (by unfold maxLen;omega) (by omega) (by simp) ?_
                 intro v1 w3 hown1 hg1
                 have h8:Below wr.heap.size wr w3:=Below.grown ((W0.out.alloc W0.out.size _).drew) hg1 (by simp) (fun k hk=>by cases hk;exact Nat.le_refl _))
              | (refine step_append_at LStp (by rfl) (.tmp 36) (.tmp 41) 35 (by rfl) wr.heap.size 59 i0' _ 24 Tryz.underlying35 hi' hz0 hz1 hz2 rfl v1 (0+ys.length) ([]++LStp.all ys) (by rfl) hown1 A2 yl.length c2 yl (by rfl) rfl (P1.out.p2.below rfl h8) (by unfold maxLen;omega) (by omega) h8.size ?_
                 intro v2 w4 hown2 hg2
                 have h9:Below wr.heap.size wr w4:=Below.grown h8 hg2 h8.size (fun k hk=>(hown1.lt k hk).1)))
          all_goals go_wp2_with fail
          all_goals go_meet
          all_goals exact ⟨by
            have h:=hown2
            rw [List.nil_append,← LStp.all_append,show 0+ys.length+yl.length=(ys++yl).length by rw[List.length_append];omega] at h
            exact h,h9⟩
        case rest =>
          obtain ⟨hown,hb7⟩:=hcut
          obtain ⟨-,Bo,dO,rfl,-,hRo⟩:=Lies.Row.of_own (E:=LStp) hown
          have B7:=Lib.hid hb7
          have RO:=Lib.hid hRo
          have V0:=Lib.hid (Below.refl wc.heap.size wc)
          have holen:(ys++yl).length≤2000:=by rw[List.length_append];omega
          generalize ys++yl=own at HA RO holen ⊢
          clear hown hb7 hRo K1 i0' hi' hz0 hz1 hz2
          go_wp2_with fail
          go_loopw [9,10] (fun v9 _ w'=>∃ k:Nat,k≤own.length∧v9=.int .i64 k∧Below wc.heap.size wc w') (fun v9 _ _=>own.length - (intOf v9).toNat)
          case atStart=>exact ⟨0,Nat.zero_le _,rfl,V0.out⟩
          case round =>
            obtain ⟨k,hk,rfl,hb8⟩:=hrel
            have B8:=Lib.hid hb8
            clear hb8
            by_cases hkl:k<own.length
            · have d2:decide ((k:Int)<(own.length:Int))=true:=dec_t (by omega)
              have k0:(0:Int)≤(k:Int):=Int.natCast_nonneg k
              have k1:(k:Int)<(own.length:Int):=by omega
              have hasks:=HA.out _ (List.getElem_mem hkl)
              obtain ⟨bo,oo,rfl,hbo,on⟩:=(RO.out.below rfl B8.out).at hkl
              generalize own[k]=y at on hasks
              obtain ⟨a0,a1,a2⟩:=stp_on on
              rw [show k * LStp.m=k * 3 from rfl] at a0 a1 a2
              obtain ⟨xs,xf,xt⟩:=y
              simp only at a0 a1 a2 hasks
              have BA:=Lib.hid (B7.out.trans (B8.out.mono B7.out.size))
              have BW:=Lib.hid (HB.out.trans (BA.out.mono HB.out.size))
              have Z0:=Lib.hid (Below.refl wr.heap.size wr)
              have KS:=Lib.hid (fun W' (hW:Below wr.heap.size wr W')=>And.intro (KP6.out W' (BW.out.trans (hW.mono BW.out.size))) (And.intro ((hW.cell (p:=⟨bo,oo+k * 3,none⟩) hbo).trans a0) (And.intro ((hW.cell (p:=⟨bo,oo+k * 3+1,none⟩) hbo).trans a1) ((hW.cell (p:=⟨bo,oo+k * 3+2,none⟩) hbo).trans a2))))
              have CP:=Lib.hid (fun W' (hW:Below wr.heap.size wr W')=>Made.of (w:=wr) hW (rwPosition_any p S cS G cG ⟨xs,xf,xt⟩ W' (I6.out W' (BW.out.trans (hW.mono BW.out.size)))))
              have K5:=Lib.hid (fun W' (hW:Below wr.heap.size wr W')=>And.intro (K4.out W' (BA.out.trans (hW.mono BA.out.size))) ((hW.cell (p:=⟨bo,oo+k * 3,none⟩) hbo).trans a0))
              have CQ:=Lib.hid (fun W' (hW:Below wr.heap.size wr W')=>Made.of (w:=wr) hW (rdPosition_any A3 c3 yp xs W' (P1.out.p3.below rfl (BA.out.trans (hW.mono BA.out.size))) (by omega)))
              have HN:=Lib.hid hasks
              generalize Wk.position p ⟨xs,xf,xt⟩ = n at CP HN
              clear hasks on a0 a1 a2 hbo
              go_upto_region 12 with fail
              go_region_held3 (fun W'=>(W'.cell? ⟨gq,0,none⟩ = some (.int .i64 p.ov)∧W'.cell? ⟨gq,1,none⟩ = some (.int .i64 p.ap)∧W'.cell? ⟨gq,2,none⟩ = some (.int .i64 p.se)∧W'.cell? ⟨gq,3,none⟩ = some (.int .i64 p.ho)∧W'.cell? ⟨gq,4,none⟩ = some (.slice S p.secs.length cS)∧W'.cell? ⟨gq,5,none⟩ = some (.slice G p.sigs.length cG))∧W'.cell? ⟨bo,oo+k * 3,none⟩ = some (.int .i64 xs)∧W'.cell? ⟨bo,oo+k * 3+1,none⟩ = some (.int .i64 xf)∧W'.cell? ⟨bo,oo+k * 3+2,none⟩ = some (.int .i64 xt))
                (first | with_reducible exact KS.out _ Z0.out.drew | with_reducible exact KS.out _ h5 | (go_keep;done))
                (first | (go_at_call 20;(with_reducible refine (CP.out _ Z0.out.drew).mono ?_);rintro e5 w9 ⟨rfl,-,h5,-⟩))
              have B9:=Lib.hid h5
              clear CP KS h5
              by_cases hn:n=0
              · have D:(n != 0)=false:=by rw[bne_eq_false_iff_eq];exact hn
                have BX:=Lib.hid (B8.out.trans (B9.out.mono B8.out.size))
                clear hn HN CQ
                go_upto_region 13 with fail
                go_quiet (fail)
                go_wp2_with fail
                go_roundw
                case rel=>exact ⟨k+1,by omega,by go_num,below_drewN BX.out _⟩
                case measure=>simp [intOf];omega
              · have D:(n != 0)=true:=by rw[bne_iff_ne];exact hn
                have hz:Dm.posOf yp xs=n:=HN.out hn
                rw [hz] at CQ
                have D2:(n != n)=false:=by simp
                clear hn HN hz
                go_upto_region 13 with fail
                go_region_held3 (fun W'=>W'.cell? ⟨b,o+i * 9+4,none⟩ = some (.slice A3 yp.length c3)∧W'.cell? ⟨bo,oo+k * 3,none⟩ = some (.int .i64 xs))
                  (first | with_reducible exact K5.out _ B9.out.drew | with_reducible exact K5.out _ h6 | (go_keep;done))
                  (first | (go_at_call 21;(with_reducible refine (CQ.out _ B9.out.drew).mono ?_);rintro e6 w10 ⟨rfl,-,h6,-⟩))
                have BX:=Lib.hid (B8.out.trans (h6.mono B8.out.size))
                go_wp2_with fail
                go_roundw
                case rel=>exact ⟨k+1,by omega,by go_num,BX.out⟩
                case measure=>simp [intOf];omega
            · obtain rfl:k=own.length:=by omega
              have d2:decide ((own.length:Int)<(own.length:Int))=false:=dec_f (by omega)
              have BX:=Lib.hid (HB.out.trans ((B7.out.trans (B8.out.mono B7.out.size)).mono HB.out.size))
              go_wp2_with fail
              go_roundw
              case rel=>exact ⟨i+1,by omega,by go_num,BX.out⟩
              case measure=>simp [intOf];omega
      · obtain rfl:i=L.length:=by omega
        have d1:decide ((L.length:Int)<(L.length:Int))=false:=dec_f (by omega)
        have BX:=Lib.hid (B6.out.trans (HB.out.mono B6.out.size))
        go_wp2_with fail
        refine (AW.out _).mono ?_;rintro e w8 ⟨rfl,hb8⟩
        go_wp2
        go_ret
        exact ⟨rfl,BX.out.trans (hb8.mono BX.out.size)⟩
end Go.Proofs.YtpdfbnolhpakoaaGreat
namespace Go.Proofs.YtpdfbnolhpakoaaGreat.Rt
open Go Pl Wk
def held (p:Plan) (n:Int):Plan:={ p with ho:=n }
def later (n:Int) (r:Route):Route:={ r with timer:=r.timer+n }
section
variable {p : Plan} {n : Int}
theorem held_enter (b:Int):∀ (k:Nat) (s f:Int) (st:List Stp) (h:Cr.HSt),Cr.enter (held p n) b k s f st h=Cr.enter p b k s f st h
  | 0,s,f,st,h=>rfl
  | k+1,s,f,st,h=>by
    show (if Cr.turns b s st h then Cr.came h else (outs p s f).foldl (Cr.gone (held p n) (Cr.enter (held p n) b k) s st) (Cr.came h))=(if Cr.turns b s st h then Cr.came h else (outs p s f).foldl (Cr.gone p (Cr.enter p b k) s st) (Cr.came h))
    rw [show Cr.enter (held p n) b k=Cr.enter p b k from by funext s f st h;exact held_enter b k s f st h]
    rfl
theorem held_course (i:Int):Cr.of (held p n) i=Cr.of p i:=by
  have hh:∀ g:Sig,Cr.hunt (held p n) g=Cr.hunt p g:=fun g=>by
    show (if (next p g.sec g.en).2.2 then Cr.enter (held p n) g.sec 16 (next p g.sec g.en).1 (next p g.sec g.en).2.1 [] Cr.hunt0 else Cr.hunt0)=_
    rw [held_enter]
    rfl
  have ho:∀ g:Sig,Cr.ofSig (held p n) g=Cr.ofSig p g:=fun g=>by
    unfold Cr.ofSig
    rw [hh]
  show (match Cr.sigAt p i with | none=>([],4) | some g=>Cr.ofSig (held p n) g)=_
  unfold Cr.of
  cases Cr.sigAt p i with
  | none=>rfl
  | some g=>exact ho g
theorem held_lapenter (b:Int) (way:List Stp):∀ (k:Nat) (s f:Int) (st:List Stp) (sum:Int) (m:Nat),Lp.enter (held p n) b way k s f st sum m=Lp.enter p b way k s f st sum m
  | 0,_,_,_,_,_=>rfl
  | k + 1, s,f,st,sum,m=>by
    have hk:∀ (g h:Int→Int→List Stp→Nat→Option (List Stp) × Nat) (l:List Stp) (m:Nat) (sum:Int),g=h→Lp.seek (held p n) g s sum st l m=Lp.seek p h s sum st l m:=by
      intro g h l m sum e
      subst e
      induction l generalizing m with
      | nil=>rfl
      | cons x l ih =>
        show (if Lp.lasts p sum s x then (some (st++[x]),m) else match g (next p s x.t).1 (next p s x.t).2.1 (st++[x]) m with | (some r,m)=>(some r,m) | (none,m)=>Lp.seek (held p n) g s sum st l m)=(if Lp.lasts p sum s x then (some (st++[x]),m) else match g (next p s x.t).1 (next p s x.t).2.1 (st++[x]) m with | (some r,m)=>(some r,m) | (none,m)=>Lp.seek p g s sum st l m)
        congr 1
        cases g (next p s x.t).1 (next p s x.t).2.1 (st++[x]) m with
        | mk a b=>cases a with
          | none=>exact ih b
          | some r=>rfl
    show (if decide (400<m+1) || Lp.bars b way st s then (none,m+1) else Lp.seek (held p n) (fun s' f' st' n'=>Lp.enter (held p n) b way k s' f' st' (sum+Lp.secLen p s) n') s (sum+Lp.secLen p s) st (outs p s f) (m+1))=(if decide (400<m+1) || Lp.bars b way st s then (none,m+1) else Lp.seek p (fun s' f' st' n'=>Lp.enter p b way k s' f' st' (sum+Lp.secLen p s) n') s (sum+Lp.secLen p s) st (outs p s f) (m+1))
    congr 1
    refine hk _ _ _ _ _ ?_
    funext s' f' st' n'
    exact held_lapenter b way k s' f' st' _ n'
theorem held_lap (i:Int) (w:Cr.Way):Lp.of (held p n) i w=Lp.of p i w:=by
  have hh:∀ (b:Int) (way:List Stp) (x:Sig),Lp.ofSig (held p n) b way x=Lp.ofSig p b way x:=fun b way x=>by
    unfold Lp.ofSig Lp.hunt
    rw [held_lapenter]
    rfl
  show (match Cr.sigAt p i with | none=>([],4) | some g=>if (p.sigs.length:Int)≤w.exit then ([],4) else if w.exit<0∨p.ov=0 then ([],0) else match Cr.sigAt p w.exit with | none=>([],4) | some x=>Lp.ofSig (held p n) g.sec w.steps x)=_
  unfold Lp.of
  cases Cr.sigAt p i with
  | none=>rfl
  | some g =>
    cases Cr.sigAt p w.exit with
    | none=>rfl
    | some x =>
      simp only
      rw [hh]
theorem held_on (own:List Stp):∀ (k:Nat) (s e:Int) (g:Fl.G),Fl.on (held p n) own k s e g=Fl.on p own k s e g
  | 0,_,_,_=>rfl
  | k+1,s,e,g=>by
    have ih:Fl.on (held p n) own k=Fl.on p own k:=by funext s e g;exact held_on own k s e g
    unfold Fl.on
    rw [ih]
    rfl
theorem held_flank (own:List Stp):Fl.of (held p n) own=Fl.of p own:=by
  have h1:Fl.one (held p n) own=Fl.one p own:=by
    funext g x
    unfold Fl.one
    rw [held_on]
    rfl
  unfold Fl.of
  rw [h1]
  rfl
theorem held_reach {st a:Nat × Nat} {m:Int}:Nr.Reach (held p n) st a m ↔ Nr.Reach p st a m:=by
  constructor
  · intro h
    induction h with
    | start=>exact .start
    | step _ he ih=>exact .step ih he
  · intro h
    induction h with
    | start=>exact .start
    | @step a b k _ he ih=>exact Nr.Reach.step (p:=held p n) (a:=a) (b:=b) ih he
theorem held_near (i:Int):Nr.of (held p n) i=Nr.of p i:=by
  have hs:∀ ap st,Nr.sects (held p n) ap st=Nr.sects p ap st:=fun ap st=>by
    unfold Nr.sects
    show (List.range p.secs.length).filter _=_
    apply List.filter_congr
    intro s _
    rw [Bool.eq_iff_iff,Nr.yes_iff,Nr.yes_iff]
    exact ⟨fun ⟨e,m,he,hr,hn⟩=>⟨e,m,he,held_reach.1 hr,hn⟩,fun ⟨e,m,he,hr,hn⟩=>⟨e,m,he,held_reach.2 hr,hn⟩⟩
  show (match Cr.sigAt p i with | none=>([],0) | some g=>if p.ap=0 then ([],0) else (Nr.sects (held p n) p.ap (g.sec.toNat,g.en.toNat),Nr.total p (Nr.sects (held p n) p.ap (g.sec.toNat,g.en.toNat))))=_
  unfold Nr.of
  cases Cr.sigAt p i with
  | none=>rfl
  | some g =>
    simp only
    rw [hs]
theorem held_fill (i:Int) (w:Cr.Way) (l:List Stp):fill (held p (p.ho+n)) i w l=later n (fill p i w l):=by
  unfold fill later
  rw [held_flank,held_near]
  simp only [held]
  congr 1
  omega
theorem held_of (i:Int) (w:Cr.Way):(of (held p (p.ho+n)) i w).2=(of p i w).2∧((of p i w).2=0→(of (held p (p.ho+n)) i w).1=later n (of p i w).1):=by
  rw [of_err,of_err,held_lap]
  refine ⟨rfl,fun h=>?_⟩
  rw [of_ok h,of_ok (by rw[held_lap];exact h),held_lap]
  exact held_fill i w _
theorem held_ways (i:Int):∀ (ws:List Cr.Way) (acc:List Route),ways (held p (p.ho+n)) i ws (acc.map (later n))=((ways p i ws acc).1.map (later n),(ways p i ws acc).2)
  | [],acc=>rfl
  | w :: ws,acc=>by
    have hl:(acc.map (later n)).length=acc.length:=List.length_map ..
    obtain ⟨k1,k2⟩:=held_of (p:=p) (n:=n) i w
    by_cases h1:acc.length=30
    · rw[ways_full h1,ways_full (by rw[hl];exact h1)];rfl
    by_cases h2:(of p i w).2=0
    · rw [ways_ok h1 h2,ways_ok (by rw[hl];exact h1) (by rw[k1];exact h2),k2 h2,← held_ways i ws,List.map_append]
      rfl
    · rw[ways_bad h1 h2,ways_bad (by rw[hl];exact h1) (by rw[k1];exact h2),k1];rfl
theorem held_from:∀ (l:List Nat) (acc:List Route),from_ (held p (p.ho+n)) l (acc.map (later n))=((from_ p l acc).1.map (later n),(from_ p l acc).2)
  | [],acc=>rfl
  | i :: l,acc=>by
    have hc:=held_course (p:=p) (n:=p.ho+n) (i:Int)
    have hw:=held_ways (p:=p) (n:=n) (i:Int) (Cr.of p i).1 acc
    by_cases h1:(Cr.of p i).2=0
    · by_cases h2:(ways p i (Cr.of p i).1 acc).2=0
      · rw [from_ok h1 h2,from_ok (by rw[hc];exact h1) (by rw[hc,hw];exact h2),hc,hw]
        exact held_from l _
      · rw[from_bad h1 h2,from_bad (by rw[hc];exact h1) (by rw[hc,hw];exact h2),hc,hw];rfl
    · rw[from_long h1,from_long (by rw[hc];exact h1),hc];rfl
theorem held_all:all (held p (p.ho+n))=((all p).1.map (later n),(all p).2):=held_from (List.range p.sigs.length) []
end
end Go.Proofs.YtpdfbnolhpakoaaGreat.Rt
