/-
  Texts of this claim, merged: RtProg, RtEval, NrEval, CrAwake.
-/
import Derived.Test.YtpdfbnolhpakoaaGreatMg16
import Derived.Test.YtpdfbnolhpakoaaGreatMg19
import Derived.Test.YtpdfbnolhpakoaaGreatMg26
import Derived.Test.YtpdfbnolhpakoaaGreatMg37
import Derived.Test.YtpdfbnolhpakoaaGreatMg39
namespace Go.Proofs.YtpdfbnolhpakoaaGreat
open Go.RowKit
set_option maxHeartbeats 16000000 in
set_option maxRecDepth 100000 in
theorem ptAll_any (p:Pl.Plan) (hf:Pl.Fit p) (hm:Lp.Meas p) (hap:0≤p.ap∧p.ap≤1125899906842624) (hho:0≤p.ho∧p.ho≤1125899906842624) (A:Option Addr) (c:Nat) (A':Option Addr) (c':Nat) (w:World) (h:PlanIn w p A A') :
    Calls Tryz.prog 9 #[planV p A c A' c'] w (RoutesYes (Rt.all p) w):=by
  have XA:=(Below.refl w.heap.size w).alloc (Nat.le_refl _) (planO p A c A' c')
  have X0:=Lib.hid XA
  have RP:=Lib.hid (heap_alloc_new w (planO p A c A' c'))
  have HI:=Lib.hid (h.below XA)
  have gp:=(Array.getElem?_eq_some_iff.1 RP.out).1
  have hfew:=hf.gfew
  have HFE:=Lib.hid hf.few
  have HALL:=Lib.hid (show Rt.all p=Rt.from_ p ((List.range p.sigs.length).drop 0) [] from rfl)
  have COF:=Lib.hid (fun (i:Nat) (hi:i<p.sigs.length) (y:Cr.Way) (hy:y∈(Cr.of p i).1) (Aw:Option Addr) (cw:Nat) (W:World) (hI:PlanIn W p A A') (hw:TRow 59 LStp W Aw y.steps)=>ptOf_any p hf hm hap hho A c A' c' i hi y hy Aw cw W hI hw)
  have HL:=Lib.hid (fun (i:Nat)=>Cr.of_len p i)
  clear XA h hf hm hap hho
  go_enter Tryz.func9,Tryz.ntmps9
  go_upto_region 1 with fail
  generalize w.alloc (planO p A c A' c')=w1 at X0 RP HI gp ⊢
  generalize w.heap.size=gq at RP gp ⊢
  have KP:=Lib.hid (fun W (hW:Below w1.heap.size w1 W)=>(row6 ((hW.block _ gp).trans RP.out)).1)
  have B0:=Lib.hid (Below.refl w1.heap.size w1)
  have GPL:=Lib.hid gp
  clear RP gp
  generalize hall:Rt.all p=al at HALL
  have HAL:=Lib.hid hall
  clear hall
  obtain ⟨p0,p1,p2,p3,p4,p5⟩:=KP.out _ B0.out
  have gp:=GPL.out
  go_wp2_with fail
  clear p0 p1 p2 p3 p4 p5 gp
  go_loopw [4,5,6,7,11,15] (fun v4 _ _ _ _ v5 w'=>∃ (i:Nat) (acc:List Rt.Route),i≤p.sigs.length∧v5=.int .i64 i∧acc.length≤30∧OwnR w1.heap.size w' v4 acc∧al=Rt.from_ p ((List.range p.sigs.length).drop i) acc∧Below w1.heap.size w1 w') (fun _ _ _ _ _ v5 _=>p.sigs.length - (intOf v5).toNat)
  case atStart=>exact ⟨0,[],Nat.zero_le _,rfl,Nat.zero_le _,OwnR.nil _ _,HALL.out,B0.out⟩
  case round =>
    clear HALL
    obtain ⟨i,acc,hi,rfl,hacc,hO,hA,hB⟩:=hrel
    obtain ⟨Ao,co,rfl,hco,hRI⟩:=hO.routes
    have HO:=Lib.hid hO
    have HA:=Lib.hid hA
    have HB:=Lib.hid hB
    have HRI:=Lib.hid hRI
    clear hO hA hB hRI
    obtain ⟨p0,p1,p2,p3,p4,p5⟩:=KP.out _ HB.out
    have gp:=Nat.lt_of_lt_of_le GPL.out HB.out.size
    by_cases hlt:i<p.sigs.length
    · have d1 : decide ((i:Int)<(p.sigs.length:Int))=true:=dec_t (by omega)
      have CC:=Lib.hid (pcOf_t p A c A' c' i wr (HI.out.below HB.out) HFE.out hfew)
      have EA:=Lib.hid (HA.out.trans (Rt.from_at hlt acc))
      have hlen:=HL.out i
      have CO2:=Lib.hid (COF.out i hlt)
      generalize Cr.of p i=u at CC EA hlen CO2
      obtain ⟨L,er⟩:=u
      simp only at hlen CO2
      go_wp2_with fail
      refine CC.out.mono ?_;rintro e w2 ⟨B,d,rfl,hW2,hb2⟩
      have HW2:=Lib.hid hW2
      have B2:=Lib.hid (HB.out.trans (hb2.mono HB.out.size))
      have O2:=Lib.hid (HO.out.below hb2)
      clear hW2 hb2 CC p0 p1 p2 p3 p4 p5 gp HO HB HRI
      by_cases her:er=0
      · subst her
        have EA2:=Lib.hid (show al=(if (Rt.ways p i L acc).2=0 then Rt.from_ p ((List.range p.sigs.length).drop (i+1)) (Rt.ways p i L acc).1 else ([],(Rt.ways p i L acc).2)) from EA.out)
        clear EA HA
        go_wp2_with fail
        go_loopw [4,11,29] (fun v4 _ v8 w'=>∃ (k:Nat) (ac:List Rt.Route),k≤L.length∧v8=.int .i64 k∧ac.length≤30∧OwnR w1.heap.size w' v4 ac∧Rt.ways p i L acc=Rt.ways p i (L.drop k) ac∧WaysT w' B L∧Below w1.heap.size w1 w') (fun _ _ v8 _=>L.length - (intOf v8).toNat)
        case atStart=>exact ⟨0,acc,Nat.zero_le _,rfl,hacc,O2.out,rfl,HW2.out,B2.out⟩
        case round =>
          clear O2 B2 HW2
          obtain ⟨k,ac,hk,rfl,hac,hO,hE,hW,hB⟩:=hrel
          obtain ⟨Ap,cp,rfl,hcp,-⟩:=hO.routes
          have HO:=Lib.hid hO
          have HE:=Lib.hid hE
          have HW:=Lib.hid hW
          have HB:=Lib.hid hB
          clear hO hE hW hB
          by_cases hkl:k<L.length
          · have d2:decide ((k:Int)<(L.length:Int))=true:=dec_t (by omega)
            have hy:=List.getElem?_eq_getElem hkl
            have HE2:=Lib.hid (HE.out.trans (Rt.ways_at hy ac))
            have hmem:=List.getElem_mem hkl
            obtain ⟨b,o,Sy,dy,rfl,hb,c0,c1,hS,-⟩:=HW.out.at hy
            have CO3:=Lib.hid (CO2.out (L[k]'hkl) hmem)
            generalize L[k]=y at c0 c1 hS HE2 CO3
            obtain ⟨ys,yx⟩:=y
            simp only at c0 c1 hS
            have XY:=(Below.refl wr.heap.size wr).alloc (Nat.le_refl _) (wayO Sy ys.length dy yx)
            have HXY:=Lib.hid XY
            have RY:=Lib.hid (heap_alloc_new wr (wayO Sy ys.length dy yx))
            have i0:(0:Int)≤(k:Int):=Int.natCast_nonneg k
            have i1:(k:Int)<(L.length:Int):=by omega
            have hS2:=hS.below XY
            clear XY
            by_cases h30:ac.length=30
            · have D:((ac.length:Int) == 30)=true:=by rw[beq_iff_eq];omega
              have EZ:=Lib.hid (show al=([],9) from by
                rw [EA2.out,HE2.out,if_pos h30];rfl)
              clear h30
              go_wp2_with fail
              refine bodyPost_ret (v:=.tuple #[.slice none 0 0,.int .i64 9]) ?_ rfl (by
                rw [HAL.out,EZ.out]
                exact ⟨none,0,rfl,Nat.le_refl _,RoutesIn.nil _ _,X0.out.trans ((HB.out.trans (HXY.out.mono HB.out.size)).mono X0.out.size)⟩)
              simp [results,Tryz.results9,go_sem]
            · have D:((ac.length:Int) == 30)=false:=by rw[beq_eq_false_iff_ne];omega
              have E3:=Lib.hid (show Rt.ways p i L acc=if (Rt.of p i ⟨ys,yx⟩).2=0 then Rt.ways p i (L.drop (k+1)) (ac++[(Rt.of p i ⟨ys,yx⟩).1]) else ([],(Rt.of p i ⟨ys,yx⟩).2) from by rw[HE2.out,if_neg h30])
              have h29:ac.length≤29:=by omega
              clear h30 HE HE2 hy hmem hac
              go_upto_region 11 with fail
              generalize hw4:wr.alloc (wayO Sy ys.length dy yx)=w4 at HXY RY hS2 ⊢
              generalize hgy:wr.heap.size=gy at RY ⊢
              clear hw4 c0 c1
              obtain ⟨⟨y0,y1⟩,-,ggy⟩:=rowY RY.out
              have B4:=Lib.hid (HB.out.trans (HXY.out.mono HB.out.size))
              obtain ⟨p0,p1,p2,p3,p4,p5⟩:=KP.out _ B4.out
              have gp4:=Nat.lt_of_lt_of_le GPL.out B4.out.size
              have CO:=Lib.hid (CO3.out Sy dy w4 (HI.out.below B4.out) hS2)
              generalize Rt.of p i ⟨ys,yx⟩ = ro at E3 CO
              obtain ⟨r,e2⟩:=ro
              clear hS hS2 CO3
              go_wp2_with fail
              refine CO.out.mono ?_;rintro e5 w5 ⟨m,hmr,rfl,hPN0,hl5⟩
              have HMR:=Lib.hid hmr
              have hPN1:=hPN0.below ((Below.refl _ _).alloc (Nat.le_refl _) (rtO m))
              have hX5:=(Below.refl w5.heap.size w5).alloc (Nat.le_refl _) (rtO m)
              have hB61:=(hl5.trans (hX5.mono hl5.size))
              have HPN:=Lib.hid (PartsNew.base hPN1 HXY.out.size)
              have HB6:=Lib.hid (HXY.out.trans (hB61.mono HXY.out.size))
              have HG:=Lib.hid (heap_alloc_new w5 (rtO m))
              clear hmr hPN0 hl5 hPN1 hX5 hB61 p0 p1 p2 p3 p4 p5 gp4 y0 y1 ggy CO
              go_upto_region 14 with fail
              have hg:=HG.out
              have hPN:=HPN.out
              have hB6:=HB6.out
              have hmr:=HMR.out
              generalize w5.alloc (rtO m)=wc at hg hPN hB6 ⊢
              generalize w5.heap.size=g at hg ⊢
              clear HG HPN HB6 HMR
              have B6:=Lib.hid (HB.out.trans (hB6.mono HB.out.size))
              have HW6:=Lib.hid (HW.out.below hB6)
              by_cases he2:e2=0
              · subst he2
                have E4:=Lib.hid (show Rt.ways p i L acc=Rt.ways p i (L.drop (k+1)) (ac++[r]) from by rw[E3.out];exact if_pos rfl)
                obtain ⟨M,hM,hrow,hparts⟩:=(HO.out.below hB6).ex
                subst hM
                have hj:∀ j,(Value.slice Ap (M.map RouteM.r).length cp).ownBlock=some j→j<wr.heap.size:=fun j hj=>HO.out.lt hj
                have HR:=Lib.hid (And.intro hrow (And.intro hparts (And.intro hPN (And.intro hj hmr))))
                have O7:=Lib.hid (hrow.alloc (rtO m))
                have R7:=Lib.hid (show LRt.Row (wc.alloc (rtO m)) (some ⟨wc.heap.size,0,none⟩) [m] from Lies.Row.fresh (E:=LRt) wc [m] 43)
                have X7:=Lib.hid ((Below.refl wc.heap.size wc).alloc (Nat.le_refl _) (rtO m))
                have S16:=B6.out.size
                obtain ⟨⟨r0,r1,r2,r3,r4,r5,r6,r7,r8⟩,-,gr⟩:=row9 hg
                obtain ⟨i0',hi',hz0,hz1,hz2⟩:=info_parts infoRt3
                clear hB6 hrow hparts hPN hj hmr E3
                go_wp2_with (at_builtin;refine wpList_append_row LRt _ rfl (.tmp 46) (.tmp 48) 30 rfl w1.heap.size 43 i0' _ 152 Tryz.underlying30 hi' hz0 hz1 hz2 rfl (.slice Ap (M.map RouteM.r).length cp) (M.map RouteM.r).length (LRt.all M) rfl O7.out (some ⟨wc.heap.size,0,none⟩) 1 1 [m] rfl (by decide) rfl R7.out (by omega) (by omega) (by simp;omega) ?_;intro g1 cap1 w8 hown hg1 hgr;have HN:=Lib.hid hown;have HG:=Lib.hid hg1;have HGR:=Lib.hid hgr;clear hown hg1 hgr)
                have O8:=Lib.hid (OwnR.snoc HR.out.1 HR.out.2.1 HR.out.2.2.1 HR.out.2.2.2.1 X7.out HN.out HG.out (fun j hj=>by
                  cases hj
                  rcases HGR.out with h | h
                  · exact .inl h
                  · exact .inr (by rw[h];exact Nat.le_refl _)))
                rw [HR.out.2.2.2.2] at O8
                have W8:=Lib.hid ((HW6.out.below X7.out).grown O7.out HG.out)
                have B8:=Lib.hid ((B6.out.trans (X7.out.mono B6.out.size)).grown HG.out (B6.out.trans (X7.out.mono B6.out.size)).size fun j hj=>(O7.out.lt j hj).1)
                go_roundw
                case rel=>exact ⟨k+1,M.map RouteM.r++[r],by omega,by go_num,by rw[List.length_append,List.length_singleton];omega,by have h:=O8.out;rw[List.length_map] at h;exact h,E4.out,W8.out,B8.out⟩
                case measure=>simp [intOf];omega
              · have D2:(e2 != 0)=true:=by rw[bne_iff_ne];exact he2
                have EZ:=Lib.hid (show al=([],e2) from by
                  have:Rt.ways p i L acc=([],e2):=by rw[E3.out];exact if_neg he2
                  rw [EA2.out,this];exact if_neg he2)
                clear he2
                go_wp2_with fail
                refine bodyPost_ret (v:=.tuple #[.slice none 0 0,.int .i64 e2]) ?_ rfl (by
                  rw [HAL.out,EZ.out]
                  exact ⟨none,0,rfl,Nat.le_refl _,RoutesIn.nil _ _,X0.out.trans (B6.out.mono X0.out.size)⟩)
                simp [results,Tryz.results9,go_sem]
          · obtain rfl:k=L.length:=by omega
            have d2:decide ((L.length:Int)<(L.length:Int))=false:=dec_f (by omega)
            have HE3:=Lib.hid (show Rt.ways p i L acc=(ac,0) from by rw[HE.out,List.drop_length];rfl)
            have EA3:=Lib.hid (show al=Rt.from_ p ((List.range p.sigs.length).drop (i+1)) ac from by rw[EA2.out,HE3.out,if_pos rfl])
            go_wp2_with fail
            go_roundw
            case rel=>exact ⟨i+1,ac,by omega,by go_num,hac,HO.out,EA3.out,HB.out⟩
            case measure=>simp [intOf];omega
      · have D:(er != 0)=true:=by rw[bne_iff_ne];exact her
        have EZ:=Lib.hid (show al=([],er) from by rw[EA.out];exact if_neg her)
        clear her
        go_wp2_with fail
        refine bodyPost_ret (v:=.tuple #[.slice none 0 0,.int .i64 er]) ?_ rfl (by
          rw [HAL.out,EZ.out]
          exact ⟨none,0,rfl,Nat.le_refl _,RoutesIn.nil _ _,X0.out.trans (B2.out.mono X0.out.size)⟩)
        simp [results,Tryz.results9,go_sem]
    · obtain rfl:i=p.sigs.length:=by omega
      have d1:decide ((p.sigs.length:Int)<(p.sigs.length:Int))=false:=dec_f (by omega)
      have EA:=Lib.hid (show al=(acc,0) from by rw[HA.out,List.drop_of_length_le (by rw[List.length_range];exact Nat.le_refl _)];rfl)
      go_wp2_with fail
      refine bodyPost_ret (v:=.tuple #[.slice Ao acc.length co,.int .i64 0]) ?_ rfl (by
        rw [HAL.out,EA.out]
        exact ⟨Ao,co,rfl,hco,HRI.out,X0.out.trans (HB.out.mono X0.out.size)⟩)
      simp [results,Tryz.results9,go_sem]
end Go.Proofs.YtpdfbnolhpakoaaGreat
namespace Go.Proofs.YtpdfbnolhpakoaaGreat.Rt
open Go Pl Wk
theorem ways_all {p:Plan} {i:Int}:∀ {ws:List Cr.Way} {acc:List Route},(∀ w∈ws,(Lp.of p i w).2=0)→acc.length+ws.length≤30→ways p i ws acc=(acc++ws.map fun w=>fill p i w (Lp.of p i w).1,0)
  | [],acc,_,_=>by rw[List.map_nil,List.append_nil];rfl
  | w :: ws,acc,h,hl=>by
    rw [List.length_cons] at hl
    have h1:=h w (List.mem_cons_self ..)
    rw [ways_ok (by omega) (by rw[of_err];exact h1),of_ok h1,ways_all (fun x hx=>h x (List.mem_cons_of_mem _ hx)) (by rw[List.length_append,List.length_singleton];omega),List.append_assoc]
    rfl
theorem from_all {p:Plan}:∀ {l:List Nat} {acc:List Route},(∀ i∈l,(Cr.of p i).2=0∧∀ w∈(Cr.of p i).1,(Lp.of p i w).2=0)→acc.length+(l.map fun (i:Nat)=>(Cr.of p i).1.length).sum≤30→from_ p l acc=(acc++l.flatMap (fun (i:Nat)=>(Cr.of p i).1.map fun w=>fill p i w (Lp.of p i w).1),0)
  | [],acc,_,_=>by rw[List.flatMap_nil,List.append_nil];rfl
  | i :: l,acc,h,hl=>by
    rw [List.map_cons,List.sum_cons] at hl
    obtain ⟨h1,h2⟩:=h i (List.mem_cons_self ..)
    have hw:=ways_all (p:=p) (i:=i) (acc:=acc) h2 (by omega)
    rw [from_ok h1 (by rw[hw]),hw,from_all (fun x hx=>h x (List.mem_cons_of_mem _ hx)) (by rw[List.length_append,List.length_map];omega),List.append_assoc,List.flatMap_cons]
theorem all_all {p:Plan} (h:∀ i∈List.range p.sigs.length,(Cr.of p i).2=0∧∀ w∈(Cr.of p i).1,(Lp.of p i w).2=0) (hl:((List.range p.sigs.length).map fun (i:Nat)=>(Cr.of p i).1.length).sum≤30):all p=((List.range p.sigs.length).flatMap (fun (i:Nat)=>(Cr.of p i).1.map fun w=>fill p i w (Lp.of p i w).1),0):=by
  unfold all
  rw [from_all h (by rw[List.length_nil];omega),List.nil_append]
theorem all_entries {p:Plan} (h:all p=((List.range p.sigs.length).flatMap (fun (i:Nat)=>(Cr.of p i).1.map fun w=>fill p i w (Lp.of p i w).1),0)):(all p).1.map Route.entry=(List.range p.sigs.length).flatMap fun (i:Nat)=>(Cr.of p i).1.map fun _=>(i:Int):=by
  rw [h,List.map_flatMap]
  congr 1
  funext i
  rw [List.map_map]
  rfl
end Go.Proofs.YtpdfbnolhpakoaaGreat.Rt
namespace Go.Proofs.YtpdfbnolhpakoaaGreat.Nr
open Go Pl Wk
def edgeB (p:Plan) (a b:Nat × Nat):Bool:=[0,1,2].any fun (k:Nat)=>((outs p a.1 k).any fun x=>decide (x.t=(a.2:Int))) && decide (next p a.1 k=((b.1:Int),(b.2:Int),true))
theorem edgeB_iff {p:Plan} {a b:Nat × Nat}:edgeB p a b=true ↔ Edge p a b:=by
  unfold edgeB Edge
  rw [List.any_eq_true]
  constructor
  · rintro ⟨k,hk,h⟩
    rw [Bool.and_eq_true,List.any_eq_true] at h
    obtain ⟨⟨x,hx,ht⟩,hn⟩:=h
    refine ⟨k,?_,⟨x,hx,of_decide_eq_true ht⟩,of_decide_eq_true hn⟩
    simp only [List.mem_cons,List.not_mem_nil,or_false] at hk
    omega
  · rintro ⟨k,hk,⟨x,hx,ht⟩,hn⟩
    refine ⟨k,?_,?_⟩
    · simp only [List.mem_cons,List.not_mem_nil,or_false]
      omega
    · rw [Bool.and_eq_true,List.any_eq_true]
      exact ⟨⟨x,hx,decide_eq_true ht⟩,decide_eq_true hn⟩
def reachB (p:Plan) (st:Nat × Nat):Nat→Nat × Nat→Int→Bool
  | 0,b,n=>decide (b=st) && decide (n=0)
  | k+1,b,n=>(decide (b=st) && decide (n=0)) || (allEnds p.secs.length).any fun a=>edgeB p a b && reachB p st k a (n - lenAt p a.1)
theorem reachB_reach {p:Plan} {st:Nat × Nat}:∀ {k:Nat} {b:Nat × Nat} {n:Int},reachB p st k b n=true→Reach p st b n
  | 0,b,n,h=>by
    unfold reachB at h
    rw [Bool.and_eq_true] at h
    obtain ⟨h1,h2⟩:=h
    rw [of_decide_eq_true h1,of_decide_eq_true h2]
    exact .start
  | k + 1,b,n,h=>by
    unfold reachB at h
    rw [Bool.or_eq_true] at h
    rcases h with h | h
    · rw [Bool.and_eq_true] at h
      obtain ⟨h1,h2⟩:=h
      rw [of_decide_eq_true h1,of_decide_eq_true h2]
      exact .start
    · rw [List.any_eq_true] at h
      obtain ⟨a,-,h⟩:=h
      rw [Bool.and_eq_true] at h
      have:=Reach.step (reachB_reach h.2) (edgeB_iff.1 h.1)
      rwa [Int.sub_add_cancel] at this
def doneB (p:Plan) (ap:Int) (st:Nat × Nat) (T:List Int):Bool :=
  decide (T.length=3 * p.secs.length) && (decide (at_ T st=0) && ((allEnds p.secs.length).all fun a=>(decide (at_ T a = -1) || (decide (0≤at_ T a) && (decide (at_ T a<ap) && reachB p st 9 a (at_ T a)))) && (decide (at_ T a<0) || (decide (ap≤at_ T a+lenAt p a.1) || (allEnds p.secs.length).all fun b=>!edgeB p a b || (decide (0≤at_ T b) && decide (at_ T b≤at_ T a+lenAt p a.1))))))
theorem doneB_done {p:Plan} (hf:Fit p) {ap:Int} {st:Nat × Nat} {T:List Int} (h:doneB p ap st T=true):Done p ap st T:=by
  unfold doneB at h
  rw [Bool.and_eq_true,Bool.and_eq_true,List.all_eq_true] at h
  obtain ⟨h1,h2,h3⟩:=h
  have each:=fun a (ha:a.1<p.secs.length) (hb:a.2<3)=>h3 a (mem_allEnds ha hb)
  refine ⟨⟨of_decide_eq_true h1,fun a ha hb=>?_,of_decide_eq_true h2⟩,fun a ha hb h0 b he hlt=>?_⟩
  · have:=each a ha hb
    rw [Bool.and_eq_true,Bool.or_eq_true] at this
    rcases this.1 with h | h
    · exact .inl (of_decide_eq_true h)
    · rw [Bool.and_eq_true,Bool.and_eq_true] at h
      exact .inr ⟨of_decide_eq_true h.1,of_decide_eq_true h.2.1,reachB_reach h.2.2⟩
  · have := each a ha hb
    rw [Bool.and_eq_true,Bool.or_eq_true,Bool.or_eq_true,Bool.or_eq_true] at this
    rcases this.2 with h | h | h
    · have:=of_decide_eq_true h;omega
    · have:=of_decide_eq_true h;omega
    · rw [List.all_eq_true] at h
      have hi:=edge_in hf he
      have:=h b (mem_allEnds hi.1 hi.2)
      rw [Bool.or_eq_true] at this
      rcases this with h | h
      · rw[edgeB_iff.2 he] at h;cases h
      · rw [Bool.and_eq_true] at h
        exact ⟨of_decide_eq_true h.1,of_decide_eq_true h.2⟩
theorem of_eval {p:Plan} (hf:Fit p) (hm:Lp.Meas p) {i:Int} {g:Pl.Sig} (hg:Cr.sigAt p i=some g) (h0:p.ap≠0) {T:List Int} (h:doneB p p.ap (g.sec.toNat,g.en.toNat) T=true) {l:List Nat} {n:Int} (hl:(List.range p.secs.length).filter (told T)=l) (hn:total p l=n):of p i=(l,n):=by
  unfold of
  rw [hg]
  simp only
  rw [if_neg h0,← told_sects hm (doneB_done hf h),hl,hn]
end Go.Proofs.YtpdfbnolhpakoaaGreat.Nr
namespace Go.Proofs.YtpdfbnolhpakoaaGreat
open Go.RowKit
def awL:Pl.Plan:=⟨3000,15000,2,1,[⟨[69],false,9000,⟨3,0,3⟩,⟨1,0,-1⟩,⟨-1,0,-1⟩⟩,⟨[70],false,8000,⟨0,1,7⟩,⟨-1,0,-1⟩,⟨-1,0,-1⟩⟩,⟨[80],true,5000,⟨7,1,-1⟩,⟨4,0,-1⟩,⟨5,0,-1⟩⟩,⟨[81],true,5000,⟨0,0,-1⟩,⟨4,1,-1⟩,⟨5,1,-1⟩⟩,⟨[84],false,7000,⟨2,1,4⟩,⟨3,1,1⟩,⟨-1,0,-1⟩⟩,⟨[85],false,7000,⟨2,2,5⟩,⟨3,2,2⟩,⟨-1,0,-1⟩⟩,⟨[86],false,8000,⟨-1,0,-1⟩,⟨7,0,6⟩,⟨-1,0,-1⟩⟩,⟨[87],false,9000,⟨6,1,-1⟩,⟨2,0,0⟩,⟨-1,0,-1⟩⟩],[⟨[65],7,1⟩,⟨[66],4,1⟩,⟨[67],5,1⟩,⟨[68],0,0⟩,⟨[71],4,0⟩,⟨[72],5,0⟩,⟨[73],6,1⟩,⟨[74],1,0⟩]⟩
abbrev exL:ByteArray:=⟨((([111,118,101,114,108,97,112,32,51,48,48,48,10,97,112,112,114,111,97,99,104,32,49,53,48,48,48,10,115,101,116,116,108,101,32,50,10,104,111,108,100,32,49,10,115,101,99,116].append [105,111,110,32,87,32,57,48,48,48,10,115,101,99,116,105,111,110,32,86,32,56,48,48,48,10,112,111,105,110,116,32,80,32,53,48,48,48,10,115,101,99,116,105,111,110,32,84,32]).append ([55,48,48,48,10,115,101,99,116,105,111,110,32,85,32,55,48,48,48,10,112,111,105,110,116,32,81,32,53,48,48,48,10,115,101,99,116,105,111,110,32,69,32,57,48,48,48,10,115].append [101,99,116,105,111,110,32,70,32,56,48,48,48,10,106,111,105,110,32,86,46,98,32,87,46,97,10,106,111,105,110,32,87,46,98,32,80,46,116,10,106,111,105,110,32,80,46,110,32])).append (([84,46,97,10,106,111,105,110,32,80,46,114,32,85,46,97,10,106,111,105,110,32,84,46,98,32,81,46,110,10,106,111,105,110,32,85,46,98,32,81,46,114,10,106,111,105,110,32].append [81,46,116,32,69,46,97,10,106,111,105,110,32,69,46,98,32,70,46,97,10,98,117,102,102,101,114,32,86,46,97,10,98,117,102,102,101,114,32,70,46,98,10,115,105,103,110,97,108]).append ([32,65,32,87,46,98,10,115,105,103,110,97,108,32,66,32,84,46,98,10,115,105,103,110,97,108,32,67,32,85,46,98,10,115,105,103,110,97,108,32,68,32,69,46,97,10,115,105,103].append [110,97,108,32,71,32,84,46,97,10,115,105,103,110,97,108,32,72,32,85,46,97,10,115,105,103,110,97,108,32,73,32,86,46,98,10,115,105,103,110,97,108,32,74,32,70,46,97,10]))).toArray⟩
theorem exL_built:Pl.builtP exL.data.toList=(awL,0,0):=by decide +kernel
theorem made_exL:madeP exL.data.toList=some awL:=by
  unfold madeP
  rw [exL_built]
  exact if_pos ⟨by decide +kernel,rfl⟩
theorem awL_of0:Cr.of awL 0=([⟨[⟨2,0,1⟩,⟨4,0,1⟩],1⟩,⟨[⟨2,0,2⟩,⟨5,0,1⟩],2⟩],0):=by decide +kernel
end Go.Proofs.YtpdfbnolhpakoaaGreat
