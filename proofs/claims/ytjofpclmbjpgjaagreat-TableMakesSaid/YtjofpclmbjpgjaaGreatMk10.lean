/- Lemmas. -/
import Derived.Test.YtjofpclmbjpgjaaGreatMk09
set_option maxHeartbeats 8000000
set_option maxRecDepth 100000
namespace Go.Proofs.YtjofpclmbjpgjaaGreat
open Lib (hid)
open Go.RowKit
def AkX (w:World) (e:Ending) (w':World):Prop:=∃ p A c A' c',e=.returned (.tuple #[aR p A c A' c',.bool false])/\(p.secs=[]/\p.sigs=[])/\Below w.heap.size w w'
theorem AbJ {L:List It.Itm} {p:Pl.Plan} {x:Int} {n:Nat} (h:Pl.build L=(p,x,n)) (hx:x≠0):p.secs=[]/\p.sigs=[]:=by
 unfold Pl.build at h
 split at h
 ·cases h;exact⟨rfl,rfl⟩
 split at h
 ·cases h;exact⟨rfl,rfl⟩
 cases h;exact absurd rfl hx
theorem oZ {l:List UInt8} {L:List It.Itm} (h:Sh.parse l=(L,0)):∀ y∈L,AdX y:=λy hy=>by
 have:=xK l y (by rw[h];exact hy)
 exact(AgT this).1.fits
theorem rQ {W:World} {B b:Nat} {v0 v1 v2 v3 v4 v5:Value} (h:b≠B) :
 ((((((W.setCell ⟨B,0,none⟩ v0).setCell ⟨B,1,none⟩ v1).setCell ⟨B,2,none⟩ v2).setCell ⟨B,3,none⟩ v3).setCell ⟨B,4,none⟩ v4).setCell ⟨B,5,none⟩ v5).drew.heap[b]?=W.heap[b]?:=by
 have e:∀ X:World,X.drew.heap=X.heap:=λ_=>rfl
 rw[e]
 exact oW h
theorem aW {W:World} {B b o:Nat} {v0 v1 v2 v3 v4 v5:Value} (h:B≠b) :
 ((((((W.setCell ⟨B,0,none⟩ v0).setCell ⟨B,1,none⟩ v1).setCell ⟨B,2,none⟩ v2).setCell ⟨B,3,none⟩ v3).setCell ⟨B,4,none⟩ v4).setCell ⟨B,5,none⟩ v5).drew.cell? ⟨b,o,none⟩=W.cell? ⟨b,o,none⟩:=by
 rw[World.cell?_drew]
 exact World.cell?_of_block (a:=⟨b,o,none⟩) (oW (λe=>h e.symm))
theorem rR {s:ByteArray} {p:Pl.Plan} (h:fY s.data.toList=some p) (w:World):Calls Tryz.prog 4 #[.string s] w (AnR p w):=by
 unfold fY at h
 split at h
 ·rename_i h2
  obtain rfl:=AsO h
  obtain⟨hs,hz⟩:=h2
  have hsz:s.data.toList.length=s.size:=by simp
  have h1:decide (1500<(s.size:Int))=false:=aB (by omega)
  have hfew:=rM s.data.toList
  rcases oX s.data.toList with hp|⟨k,hp⟩
  ·have P:Pl.cL s.data.toList=Pl.build (Sh.parse s.data.toList).1:=by unfold Pl.cL;rw[ArZ (by rw[hp])]
   have HR:=hid (oZ hp)
   have C:=hid (λW=>rN hp (by omega) W)
   rw[P] at hz ⊢
   obtain⟨-,-,hb⟩:=Pl.build_zero hz
   generalize (Sh.parse s.data.toList).1=L at hp hfew HR C hb
   rw[hb]
   have HB:=hid hb
   have gZ0:w.heap.size<(w.alloc rL).heap.size:=by simp
   have X1:=hid ((AtB w).alloc (ArR _) rL)
   have H0:=hid (AsW w rL)
   clear P hp h hz hb
   go_enter Tryz.func4,Tryz.ntmps4
   go_wp2_with fail
   refine(C.out _).mono ?_;rintro e w1 ⟨A,c,hc,rfl,its,hb1⟩
   have HB2:=hid (hb1.alloc hb1.size eK)
   have IT2:=hid (its.below rfl ((AtB w1).alloc (ArR _) eK))
   have kf:=hid (AsW w1 eK)
   have PB:=hid (gK fQ A c L (w1.alloc eK) IT2.out (by omega) HR.out)
   rw[HB.out] at PB
   have gz1:w.heap.size<w1.heap.size:=by have:=hb1.size;simp at this;omega
   clear its hb1 hc
   go_wp2_with fail
   refine PB.out.mono ?_;rintro e w3 ⟨S,cS,G,cG,l1,l2,rfl,rS,rG,hb3⟩
   obtain⟨RP,RF,X3,XS⟩:=bO w3 (aD (Pl.fin L) S cS G cG) eK
   have BB:=hb3.trans (X3.mono hb3.size)
   have B1:=hid (HB2.out.trans (BB.mono HB2.out.size))
   have hF:=(BB.block _ (by simp)).trans kf.out
   have hP:=(B1.out.block _ gZ0).trans H0.out
   have hz3:w1.heap.size<w3.heap.size:=by have:=hb3.size;simp at this;omega
   have hx0:w.heap.size≠w1.heap.size:=by omega
   have hx1:w.heap.size≠w3.heap.size:=by omega
   have hx2:w.heap.size≠w3.heap.size+1:=by omega
   obtain⟨⟨q0,q1,q2,q3,q4,q5⟩,⟨e0,e1,e2,e3,e4,e5⟩,gq⟩:=row6 hP
   obtain⟨⟨t0,t1⟩,gt⟩:=row2c hF
   obtain⟨⟨u0,u1⟩,gu⟩:=row2c RF
   obtain⟨⟨p0,p1,p2,p3,p4,p5⟩,-,gp⟩:=row6 RP
   have RS:=hid (rS.below rfl X3)
   have RG:=hid (rG.below rfl X3)
   have HP:=hid hP
   have K0:=hid (show (λw':World=>(w'.cell? ⟨w3.heap.size,0,none⟩=some (.int .i64 (Pl.fin L).ov)/\w'.cell? ⟨w3.heap.size,1,none⟩=some (.int .i64 (Pl.fin L).ap)/\w'.cell? ⟨w3.heap.size,2,none⟩=some (.int .i64 (Pl.fin L).se)/\w'.cell? ⟨w3.heap.size,3,none⟩=some (.int .i64 (Pl.fin L).ho)/\w'.cell? ⟨w3.heap.size,4,none⟩=some (.slice S (Pl.fin L).secs.length cS)/\w'.cell? ⟨w3.heap.size,5,none⟩=some (.slice G (Pl.fin L).sigs.length cG))/\w'.cell? ⟨w1.heap.size,0,none⟩=some (.int .i64 0)/\w'.cell? ⟨w3.heap.size+1,0,none⟩=some (.int .i64 0)) ((w3.alloc (aD (Pl.fin L) S cS G cG)).alloc eK).drew from⟨⟨p0,p1,p2,p3,p4,p5⟩,t0,u0⟩)
   have K00:=hid (show (λw':World=>(w'.cell? ⟨w3.heap.size,0,none⟩=some (.int .i64 (Pl.fin L).ov)/\w'.cell? ⟨w3.heap.size,1,none⟩=some (.int .i64 (Pl.fin L).ap)/\w'.cell? ⟨w3.heap.size,2,none⟩=some (.int .i64 (Pl.fin L).se)/\w'.cell? ⟨w3.heap.size,3,none⟩=some (.int .i64 (Pl.fin L).ho)/\w'.cell? ⟨w3.heap.size,4,none⟩=some (.slice S (Pl.fin L).secs.length cS)/\w'.cell? ⟨w3.heap.size,5,none⟩=some (.slice G (Pl.fin L).sigs.length cG))/\w'.cell? ⟨w1.heap.size,0,none⟩=some (.int .i64 0)/\w'.cell? ⟨w3.heap.size+1,0,none⟩=some (.int .i64 0)) ((w3.alloc (aD (Pl.fin L) S cS G cG)).alloc eK) from⟨⟨p0,p1,p2,p3,p4,p5⟩,t0,u0⟩)
   have K1:=hid (λ(w':World) (v0 v1 v2 v3 v4 v5:Value) (h:(λw':World=>(w'.cell? ⟨w3.heap.size,0,none⟩=some (.int .i64 (Pl.fin L).ov)/\w'.cell? ⟨w3.heap.size,1,none⟩=some (.int .i64 (Pl.fin L).ap)/\w'.cell? ⟨w3.heap.size,2,none⟩=some (.int .i64 (Pl.fin L).se)/\w'.cell? ⟨w3.heap.size,3,none⟩=some (.int .i64 (Pl.fin L).ho)/\w'.cell? ⟨w3.heap.size,4,none⟩=some (.slice S (Pl.fin L).secs.length cS)/\w'.cell? ⟨w3.heap.size,5,none⟩=some (.slice G (Pl.fin L).sigs.length cG))/\w'.cell? ⟨w1.heap.size,0,none⟩=some (.int .i64 0)/\w'.cell? ⟨w3.heap.size+1,0,none⟩=some (.int .i64 0)) w')=>show (λw':World=>(w'.cell? ⟨w3.heap.size,0,none⟩=some (.int .i64 (Pl.fin L).ov)/\w'.cell? ⟨w3.heap.size,1,none⟩=some (.int .i64 (Pl.fin L).ap)/\w'.cell? ⟨w3.heap.size,2,none⟩=some (.int .i64 (Pl.fin L).se)/\w'.cell? ⟨w3.heap.size,3,none⟩=some (.int .i64 (Pl.fin L).ho)/\w'.cell? ⟨w3.heap.size,4,none⟩=some (.slice S (Pl.fin L).secs.length cS)/\w'.cell? ⟨w3.heap.size,5,none⟩=some (.slice G (Pl.fin L).sigs.length cG))/\w'.cell? ⟨w1.heap.size,0,none⟩=some (.int .i64 0)/\w'.cell? ⟨w3.heap.size+1,0,none⟩=some (.int .i64 0)) ((((((w'.setCell ⟨w.heap.size,0,none⟩ v0).setCell ⟨w.heap.size,1,none⟩ v1).setCell ⟨w.heap.size,2,none⟩ v2).setCell ⟨w.heap.size,3,none⟩ v3).setCell ⟨w.heap.size,4,none⟩ v4).setCell ⟨w.heap.size,5,none⟩ v5).drew from
    ⟨⟨(aW hx1).trans h.1.1,(aW hx1).trans h.1.2.1,(aW hx1).trans h.1.2.2.1,(aW hx1).trans h.1.2.2.2.1,(aW hx1).trans h.1.2.2.2.2.1,(aW hx1).trans h.1.2.2.2.2.2⟩,(aW hx0).trans h.2.1,(aW hx2).trans h.2.2⟩)
   clear rS rG hb3 X3 BB hF hP RP RF PB kf H0 IT2 C HR HB l1 l2 hz3 gz1 hfew
   go_wp2_with fail
   clear p0 p1 p2 p3 p4 p5 t0 t1 u0 u1 hx0 hx1 hx2
   go_region_held3 (λw'=>(w'.cell? ⟨w3.heap.size,0,none⟩=some (.int .i64 (Pl.fin L).ov)/\w'.cell? ⟨w3.heap.size,1,none⟩=some (.int .i64 (Pl.fin L).ap)/\w'.cell? ⟨w3.heap.size,2,none⟩=some (.int .i64 (Pl.fin L).se)/\w'.cell? ⟨w3.heap.size,3,none⟩=some (.int .i64 (Pl.fin L).ho)/\w'.cell? ⟨w3.heap.size,4,none⟩=some (.slice S (Pl.fin L).secs.length cS)/\w'.cell? ⟨w3.heap.size,5,none⟩=some (.slice G (Pl.fin L).sigs.length cG))/\w'.cell? ⟨w1.heap.size,0,none⟩=some (.int .i64 0)/\w'.cell? ⟨w3.heap.size+1,0,none⟩=some (.int .i64 0))
    (first|with_reducible exact K0.out|with_reducible exact K1.out _ _ _ _ _ _ _ K00.out)
    (fail)
   all_goals go_wp2_with fail
   all_goals refine bodyPost_ret ?_ rfl ⟨S,cS,G,cG,rfl,⟨?_,?_⟩,?_⟩
   all_goals first
    | (simp[results,Tryz.results4,go_sem, *];done)
    | exact xL RS.out (by simp) λhn b o hA=>rQ (AdY AkP RS.out hn hA HP.out xM)
    | exact xL RG.out (by simp) λhn b o hA=>rQ (AdY AkQ RG.out hn hA HP.out xM)
    | ((repeat (first|(with_reducible refine Below.drew ?_)|(with_reducible refine Below.setCell ?_ (by exact ArR _) _)));exact X1.out.trans (B1.out.mono X1.out.size))
    | trace_state
  have:(Pl.cL s.data.toList).2.1=2:=by unfold Pl.cL;rw[hp];rfl
  omega
 cases h
theorem AgV {s:ByteArray} (h:fY s.data.toList=none) (w:World):Calls Tryz.prog 4 #[.string s] w (AkX w):=by
 have hsz:s.data.toList.length=s.size:=by simp
 have X1:=hid ((AtB w).alloc (ArR _) rL)
 have H0:=hid (AsW w rL)
 have gZ0:w.heap.size<(w.alloc rL).heap.size:=by simp
 by_cases hlong:1500<s.size
 ·have h1:decide (1500<(s.size:Int))=true:=aC (by omega)
  obtain⟨⟨q0,q1,q2,q3,q4,q5⟩,⟨e0,e1,e2,e3,e4,e5⟩,gq⟩:=row6 H0.out
  clear h hlong hsz
  go_enter Tryz.func4,Tryz.ntmps4
  go_wp2_with fail
  refine bodyPost_ret ?_ rfl ⟨Pl.Plan.zero,none,0,none,0,rfl,⟨rfl,rfl⟩,?_⟩
  ·simp[results,Tryz.results4,go_sem,Pl.Plan.zero, *]
  (repeat (with_reducible refine Below.setCell ?_ (by exact ArR _) _));exact X1.out
 have h1:decide (1500<(s.size:Int))=false:=aB (by omega)
 have hfew:=rM s.data.toList
 rcases oX s.data.toList with hp|⟨k,hp⟩
 ·have P:Pl.cL s.data.toList=Pl.build (Sh.parse s.data.toList).1:=by unfold Pl.cL;rw[ArZ (by rw[hp])]
  have HR:=hid (oZ hp)
  have C:=hid (λW=>rN hp (by omega) W)
  have hz:(Pl.build (Sh.parse s.data.toList).1).2.1≠0:=λhz=>by
   unfold fY at h
   rw[ArZ ⟨by omega,by rw[P];exact hz⟩] at h
   cases h
  generalize (Sh.parse s.data.toList).1=L at hp hfew HR C hz
  clear P hp h
  go_enter Tryz.func4,Tryz.ntmps4
  go_wp2_with fail
  refine(C.out _).mono ?_;rintro e w1 ⟨A,c,hc,rfl,its,hb1⟩
  have HB2:=hid (hb1.alloc hb1.size eK)
  have IT2:=hid (its.below rfl ((AtB w1).alloc (ArR _) eK))
  have kf:=hid (AsW w1 eK)
  have PB:=hid (gK fQ A c L (w1.alloc eK) IT2.out (by omega) HR.out)
  obtain⟨⟨p,x,n⟩,hpl⟩:∃ y,Pl.build L=y:=⟨_,rfl⟩
  rw[hpl] at PB hz
  have HV:=hid (AbJ hpl hz)
  have D:(x == 0)=false:=by rw[ArU];exact hz
  have gz1:w.heap.size<w1.heap.size:=by have:=hb1.size;simp at this;omega
  clear its hb1 hc hpl hz
  go_wp2_with fail
  refine PB.out.mono ?_;rintro e w3 ⟨S,cS,G,cG,l1,l2,rfl,rS,rG,hb3⟩
  simp only at hb3 l1 l2 rS rG ⊢
  obtain⟨RP,RF,X3,XS⟩:=bO w3 (aD p S cS G cG) (.cells #[.int .i64 x,.int .i64 n] 42)
  have BB:=hb3.trans (X3.mono hb3.size)
  have B1:=hid (HB2.out.trans (BB.mono HB2.out.size))
  have hF:=(BB.block _ (by simp)).trans kf.out
  have hP:=(B1.out.block _ gZ0).trans H0.out
  have hz3:w1.heap.size<w3.heap.size:=by have:=hb3.size;simp at this;omega
  have hx0:w.heap.size≠w1.heap.size:=by omega
  have hx1:w.heap.size≠w3.heap.size:=by omega
  have hx2:w.heap.size≠w3.heap.size+1:=by omega
  obtain⟨⟨q0,q1,q2,q3,q4,q5⟩,⟨e0,e1,e2,e3,e4,e5⟩,gq⟩:=row6 hP
  obtain⟨⟨t0,t1⟩,gt⟩:=row2c hF
  obtain⟨⟨u0,u1⟩,gu⟩:=row2c RF
  obtain⟨⟨p0,p1,p2,p3,p4,p5⟩,-,gp⟩:=row6 RP
  have K0:=hid (show (λw':World=>(w'.cell? ⟨w3.heap.size,0,none⟩=some (.int .i64 p.ov)/\w'.cell? ⟨w3.heap.size,1,none⟩=some (.int .i64 p.ap)/\w'.cell? ⟨w3.heap.size,2,none⟩=some (.int .i64 p.se)/\w'.cell? ⟨w3.heap.size,3,none⟩=some (.int .i64 p.ho)/\w'.cell? ⟨w3.heap.size,4,none⟩=some (.slice S p.secs.length cS)/\w'.cell? ⟨w3.heap.size,5,none⟩=some (.slice G p.sigs.length cG))/\w'.cell? ⟨w1.heap.size,0,none⟩=some (.int .i64 0)/\w'.cell? ⟨w3.heap.size+1,0,none⟩=some (.int .i64 x)) ((w3.alloc (aD p S cS G cG)).alloc (.cells #[.int .i64 x,.int .i64 n] 42)).drew from⟨⟨p0,p1,p2,p3,p4,p5⟩,t0,u0⟩)
  have K00:=hid (show (λw':World=>(w'.cell? ⟨w3.heap.size,0,none⟩=some (.int .i64 p.ov)/\w'.cell? ⟨w3.heap.size,1,none⟩=some (.int .i64 p.ap)/\w'.cell? ⟨w3.heap.size,2,none⟩=some (.int .i64 p.se)/\w'.cell? ⟨w3.heap.size,3,none⟩=some (.int .i64 p.ho)/\w'.cell? ⟨w3.heap.size,4,none⟩=some (.slice S p.secs.length cS)/\w'.cell? ⟨w3.heap.size,5,none⟩=some (.slice G p.sigs.length cG))/\w'.cell? ⟨w1.heap.size,0,none⟩=some (.int .i64 0)/\w'.cell? ⟨w3.heap.size+1,0,none⟩=some (.int .i64 x)) ((w3.alloc (aD p S cS G cG)).alloc (.cells #[.int .i64 x,.int .i64 n] 42)) from⟨⟨p0,p1,p2,p3,p4,p5⟩,t0,u0⟩)
  have K1:=hid (λ(w':World) (v0 v1 v2 v3 v4 v5:Value) (h:(λw':World=>(w'.cell? ⟨w3.heap.size,0,none⟩=some (.int .i64 p.ov)/\w'.cell? ⟨w3.heap.size,1,none⟩=some (.int .i64 p.ap)/\w'.cell? ⟨w3.heap.size,2,none⟩=some (.int .i64 p.se)/\w'.cell? ⟨w3.heap.size,3,none⟩=some (.int .i64 p.ho)/\w'.cell? ⟨w3.heap.size,4,none⟩=some (.slice S p.secs.length cS)/\w'.cell? ⟨w3.heap.size,5,none⟩=some (.slice G p.sigs.length cG))/\w'.cell? ⟨w1.heap.size,0,none⟩=some (.int .i64 0)/\w'.cell? ⟨w3.heap.size+1,0,none⟩=some (.int .i64 x)) w')=>show (λw':World=>(w'.cell? ⟨w3.heap.size,0,none⟩=some (.int .i64 p.ov)/\w'.cell? ⟨w3.heap.size,1,none⟩=some (.int .i64 p.ap)/\w'.cell? ⟨w3.heap.size,2,none⟩=some (.int .i64 p.se)/\w'.cell? ⟨w3.heap.size,3,none⟩=some (.int .i64 p.ho)/\w'.cell? ⟨w3.heap.size,4,none⟩=some (.slice S p.secs.length cS)/\w'.cell? ⟨w3.heap.size,5,none⟩=some (.slice G p.sigs.length cG))/\w'.cell? ⟨w1.heap.size,0,none⟩=some (.int .i64 0)/\w'.cell? ⟨w3.heap.size+1,0,none⟩=some (.int .i64 x)) ((((((w'.setCell ⟨w.heap.size,0,none⟩ v0).setCell ⟨w.heap.size,1,none⟩ v1).setCell ⟨w.heap.size,2,none⟩ v2).setCell ⟨w.heap.size,3,none⟩ v3).setCell ⟨w.heap.size,4,none⟩ v4).setCell ⟨w.heap.size,5,none⟩ v5).drew from
   ⟨⟨(aW hx1).trans h.1.1,(aW hx1).trans h.1.2.1,(aW hx1).trans h.1.2.2.1,(aW hx1).trans h.1.2.2.2.1,(aW hx1).trans h.1.2.2.2.2.1,(aW hx1).trans h.1.2.2.2.2.2⟩,(aW hx0).trans h.2.1,(aW hx2).trans h.2.2⟩)
  clear rS rG hb3 X3 BB hF hP RP RF PB kf H0 IT2 C HR l1 l2 hz3 gz1 hfew
  go_wp2_with fail
  clear p0 p1 p2 p3 p4 p5 t0 t1 u0 u1 hx0 hx1 hx2
  go_region_held3 (λw'=>(w'.cell? ⟨w3.heap.size,0,none⟩=some (.int .i64 p.ov)/\w'.cell? ⟨w3.heap.size,1,none⟩=some (.int .i64 p.ap)/\w'.cell? ⟨w3.heap.size,2,none⟩=some (.int .i64 p.se)/\w'.cell? ⟨w3.heap.size,3,none⟩=some (.int .i64 p.ho)/\w'.cell? ⟨w3.heap.size,4,none⟩=some (.slice S p.secs.length cS)/\w'.cell? ⟨w3.heap.size,5,none⟩=some (.slice G p.sigs.length cG))/\w'.cell? ⟨w1.heap.size,0,none⟩=some (.int .i64 0)/\w'.cell? ⟨w3.heap.size+1,0,none⟩=some (.int .i64 x))
   (first|with_reducible exact K0.out|with_reducible exact K1.out _ _ _ _ _ _ _ K00.out)
   (fail)
  all_goals go_wp2_with fail
  all_goals refine bodyPost_ret ?_ rfl ⟨p,S,cS,G,cG,rfl,HV.out,?_⟩
  all_goals first
   | (simp[results,Tryz.results4,go_sem, *];done)
   | ((repeat (first|(with_reducible refine Below.drew ?_)|(with_reducible refine Below.setCell ?_ (by exact ArR _) _)));exact X1.out.trans (B1.out.mono X1.out.size))
 have C:=hid (λW=>AgU hp (by omega) W)
 clear hp h hfew
 go_enter Tryz.func4,Tryz.ntmps4
 go_wp2_with fail
 refine(C.out _).mono ?_;rintro e w1 ⟨A,c,rfl,hb1⟩
 have HB2:=hid (hb1.alloc hb1.size (.cells #[.int .i64 2,.int .i64 ((k:Int)+1)] 42))
 have kf:=hid (AsW w1 (.cells #[.int .i64 2,.int .i64 ((k:Int)+1)] 42))
 have PB:=hid (gK fQ A c [] (w1.alloc (.cells #[.int .i64 2,.int .i64 ((k:Int)+1)] 42)) (.inl rfl) (by decide) (λy hy=>by cases hy))
 obtain⟨⟨p,x,n⟩,hpl⟩:∃ y,Pl.build []=y:=⟨_,rfl⟩
 rw[hpl] at PB
 have HV:=hid (show p.secs=[]/\p.sigs=[] from by cases hpl;exact⟨rfl,rfl⟩)
 have gz1:w.heap.size<w1.heap.size:=by have:=hb1.size;simp at this;omega
 clear hb1 hpl
 go_wp2_with fail
 refine PB.out.mono ?_;rintro e w3 ⟨S,cS,G,cG,l1,l2,rfl,rS,rG,hb3⟩
 simp only at hb3 l1 l2 rS rG ⊢
 obtain⟨RP,RF,X3,XS⟩:=bO w3 (aD p S cS G cG) (.cells #[.int .i64 x,.int .i64 n] 42)
 have BB:=hb3.trans (X3.mono hb3.size)
 have B1:=hid (HB2.out.trans (BB.mono HB2.out.size))
 have hF:=(BB.block _ (by simp)).trans kf.out
 have hP:=(B1.out.block _ gZ0).trans H0.out
 have hz3:w1.heap.size<w3.heap.size:=by have:=hb3.size;simp at this;omega
 have hx0:w1.heap.size≠w.heap.size:=by omega
 have hx1:w3.heap.size≠w.heap.size:=by omega
 have hx3:w.heap.size≠w1.heap.size:=by omega
 have hx4:w.heap.size≠w3.heap.size:=by omega
 obtain⟨⟨q0,q1,q2,q3,q4,q5⟩,⟨e0,e1,e2,e3,e4,e5⟩,gq⟩:=row6 hP
 obtain⟨⟨t0,t1⟩,gt⟩:=row2c hF
 obtain⟨⟨p0,p1,p2,p3,p4,p5⟩,-,gp⟩:=row6 RP
 clear rS rG hb3 X3 BB hF hP RP RF PB kf H0 C l1 l2 hz3 gz1
 go_wp2_with fail
 go_region
 all_goals go_wp2_with fail
 all_goals refine bodyPost_ret ?_ rfl ⟨p,S,cS,G,cG,rfl,HV.out,?_⟩
 all_goals first
  | (simp[results,Tryz.results4,go_sem, *];done)
  | ((repeat (first|(with_reducible refine Below.drew ?_)|(with_reducible refine Below.setCell ?_ (by exact ArR _) _)));exact X1.out.trans (B1.out.mono X1.out.size))
theorem AgW {s:ByteArray} (h:fY s.data.toList=none) (w:World):Calls Tryz.prog 4 #[.string s] w (ApT w) :=
 (AgV h w).mono λ_ _ ⟨p,A,c,A',c',he,_,hb⟩=>⟨p,A,c,A',c',he,hb⟩
def Apart (v v':Value):Prop:=∀ b,v.ownBlock=some b->v'.ownBlock≠some b
theorem Apart.symm {v v':Value} (h:Apart v v'):Apart v' v:=λb h1 h2=>h b h2 h1
theorem Apart.ne {v v':Value} (h:Apart v v'):v'.ownBlock=none∨v'.ownBlock≠v.ownBlock:=by
 cases hv:v'.ownBlock with
 | none=>exact .inl rfl
 | some b=>exact .inr λe=>h b e.symm hv
theorem Apart.nil (v:Value):Apart v (.slice none 0 0):=λ_ _ h=>by cases h
theorem Apart.grown {w:World} {v v' v2:Value} {base n:Nat} {e:TypeId} {size:Nat} {xs:List Value} (h:Apart v v2) (h2:w.ownsRow base e size v2 n xs) {g:Nat} (hb:v'.ownBlock=some g) (hg:v.ownBlock=some g∨g=w.heap.size):Apart v' v2:=λb h1 h3=>by
 rw[hb] at h1
 cases h1
 rcases hg with hg|hg
 ·exact h _ hg h3
 have:=(h2.lt _ h3).2
 omega
structure R3 (w wr:World) (O O2:Obj) (v1 v2 v3:Value) (X J S:List It.Itm):Prop where
 bel:Below w.heap.size w wr
 box:wr.heap[w.heap.size]?=some O
 box2:wr.heap[w.heap.size+1]?=some O2
 o1:wr.ownsRow (w.heap.size+2) 67 7 v1 X.length (aY X)
 o2:wr.ownsRow (w.heap.size+2) 67 7 v2 J.length (aY J)
 o3:wr.ownsRow (w.heap.size+2) 67 7 v3 S.length (aY S)
 a12:Apart v1 v2
 a13:Apart v1 v3
 a23:Apart v2 v3
theorem R3.start {w wr:World} {O O2:Obj} (h1:Below w.heap.size w wr) (h2:wr.heap[w.heap.size]?=some O) (h3:wr.heap[w.heap.size+1]?=some O2):R3 w wr O O2 (.slice none 0 0) (.slice none 0 0) (.slice none 0 0) [] [] [] :=
 ⟨h1,h2,h3,World.ownsRow_nil _ _ _ _,World.ownsRow_nil _ _ _ _,World.ownsRow_nil _ _ _ _,.nil _,.nil _,.nil _⟩
theorem R3.lt {w wr:World} {O O2:Obj} {v1 v2 v3:Value} {X J S:List It.Itm} (h:R3 w wr O O2 v1 v2 v3 X J S):w.heap.size+1<wr.heap.size:=(ArL h.box2).1
theorem R3.below {w wr w2:World} {O O2:Obj} {v1 v2 v3:Value} {X J S:List It.Itm} (h:R3 w wr O O2 v1 v2 v3 X J S) (hb:Below wr.heap.size wr w2):R3 w w2 O O2 v1 v2 v3 X J S :=
 ⟨h.bel.trans (hb.mono h.bel.size),(hb.block _ (Nat.lt_of_succ_lt h.lt)).trans h.box,(hb.block _ h.lt).trans h.box2,aA h.o1 hb,aA h.o2 hb,aA h.o3 hb,h.a12,h.a13,h.a23⟩
theorem R3.bel_grown {w wr w2:World} {O O2:Obj} {v1 v2 v3 v:Value} {X J S:List It.Itm} (h:R3 w wr O O2 v1 v2 v3 X J S) (hg:wr.grownBy w2 v.ownBlock) (hv:∀ k,v.ownBlock=some k->w.heap.size+2<=k):Below w.heap.size w w2/\w2.heap[w.heap.size]?=some O/\w2.heap[w.heap.size+1]?=some O2:=by
 have hl:=h.lt
 refine⟨h.bel.grown hg (by omega) (λk hk=>by have:=hv k hk;omega),?_,?_⟩
 ·rw[hg.block _ (by omega) (λe=>by have:=hv _ e.symm;omega)];exact h.box
 rw[hg.block _ hl (λe=>by have:=hv _ e.symm;omega)];exact h.box2
theorem xO {w2:World} {base:Nat} {v:Value} {n:Nat} {X:List It.Itm} {y:It.Itm} (hn:n=X.length) (h:w2.ownsRow base 67 7 v (n+1) (aY X++ApQ.all [y])):w2.ownsRow base 67 7 v (X++[y]).length (aY (X++[y])):=by
 subst hn
 rw[ArV,List.length_singleton,dG]
 exact h
theorem R3.one {w wr w2:World} {O O2:Obj} {v1 v2 v3 v':Value} {X J S:List It.Itm} {y:It.Itm} {g:Nat} (h:R3 w wr O O2 v1 v2 v3 X J S) (ho:w2.ownsRow (w.heap.size+2) 67 7 v' (X.length+1) (aY X++ApQ.all [y])) (hg:wr.grownBy w2 v1.ownBlock) (hb:v'.ownBlock=some g) (hgg:v1.ownBlock=some g∨g=wr.heap.size):R3 w w2 O O2 v' v2 v3 (X++[y]) J S:=by
 obtain⟨b1,b2,b3⟩:=h.bel_grown hg λk hk=>(h.o1.lt k hk).1
 exact⟨b1,b2,b3,xO rfl ho,h.o2.kept hg h.a12.ne,h.o3.kept hg h.a13.ne,h.a12.grown h.o2 hb hgg,h.a13.grown h.o3 hb hgg,h.a23⟩
theorem R3.two {w wr w2:World} {O O2:Obj} {v1 v2 v3 v':Value} {X J S:List It.Itm} {y:It.Itm} {g:Nat} (h:R3 w wr O O2 v1 v2 v3 X J S) (ho:w2.ownsRow (w.heap.size+2) 67 7 v' (J.length+1) (aY J++ApQ.all [y])) (hg:wr.grownBy w2 v2.ownBlock) (hb:v'.ownBlock=some g) (hgg:v2.ownBlock=some g∨g=wr.heap.size):R3 w w2 O O2 v1 v' v3 X (J++[y]) S:=by
 obtain⟨b1,b2,b3⟩:=h.bel_grown hg λk hk=>(h.o2.lt k hk).1
 exact⟨b1,b2,b3,h.o1.kept hg h.a12.symm.ne,xO rfl ho,h.o3.kept hg h.a23.ne,(h.a12.symm.grown h.o1 hb hgg).symm,h.a13,h.a23.grown h.o3 hb hgg⟩
theorem R3.st {w wr:World} {O O2:Obj} {v1 v2 v3:Value} {X J S:List It.Itm} (h:R3 w wr O O2 v1 v2 v3 X J S):ItSt w wr O v1 X:=⟨h.bel,h.box,fC h.o1 (Nat.le_succ _)⟩
theorem AnS {w:World} {b o:Nat} {s:Pl.Sec} (h:aQ.On w b o s) {e:Nat} (he:e<3):w.cell? ⟨b,o+3+e*3,none⟩=some (.int .i64 (s.get e).goes)/\w.cell? ⟨b,o+3+e*3+1,none⟩=some (.int .i64 (s.get e).at_)/\w.cell? ⟨b,o+3+e*3+2,none⟩=some (.int .i64 (s.get e).sig):=by
 obtain⟨-,-,-,a3,a4,a5,a6,a7,a8,a9,a10,a11⟩:=bE h
 have:e=0∨e=1∨e=2:=by omega
 rcases this with rfl|rfl|rfl
 ·exact⟨a3,a4,a5⟩
 ·exact⟨a6,a7,a8⟩
 exact⟨a9,a10,a11⟩
end Go.Proofs.YtjofpclmbjpgjaaGreat
