/-
 Texts of this claim, merged: TbRefF, ClRefB, InText.
-/
import Derived.Test.YtncphjodaklleaaGreatMg12
import Derived.Test.YtncphjodaklleaaGreatMg24
import Derived.Test.YtncphjodaklleaaGreatMg25
import Derived.BigQuiet
import Derived.Deep.RegionHeld
import Derived.Deep.RegionLaw
set_option maxHeartbeats 16000000
set_option maxRecDepth 100000
namespace Go.Proofs.YtncphjodaklleaaGreat
open Lib (hid)
open Go.RowKit
theorem rtbFits_any (m : TableM) (m':RouteM) (w:World) (h1:LBo.Row w m.A1 m.t.points) (h:PartsIn w m') (hf:Tb.Few m'.r) (hpl:m.t.points.length≤1000000) :
 Calls Tryz.prog 31 #[tbV m,rtV m'] w (OneIs (.bool (Tb.fits m.t m'.r)) w):=by
 --[
 obtain ⟨R1,R2,XX⟩:=two_laid w (tbO m) (rtO m')
 have X:=hid XX
 have P:=hid (h.below XX)
 have HP1:=hid (h1.below rfl XX)
 have V:=hid (show Tb.fits m.t m'.r=(decide (0≤m'.r.entry) && decide (m'.r.entry<(m.t.sigs.length:Int)) && decide (-1≤m'.r.exit) && decide (m'.r.exit<(m.t.sigs.length:Int)) && decide (0<(m'.r.steps.length:Int)) && Tb.stepsOk m.t.points m'.r.steps [] && Tb.stepsOk m.t.points m'.r.lap m'.r.steps && Tb.demandsOk m.t.points m'.r.pts && Tb.asksOk m.t.points m'.r.pts m'.r.steps && Tb.asksOk m.t.points m'.r.pts m'.r.lap && Tb.risingOk m'.r.fl m.t.sigs.length && Tb.risingOk m'.r.near m.t.names.length && decide (0≤m'.r.dist) && decide (m'.r.dist<281474976710656) && decide (0≤m'.r.timer) && decide (m'.r.timer<4294967296)) from rfl)
 have C6:=hid (fun W (hW:Below ((w.alloc (tbO m)).alloc (rtO m')).heap.size ((w.alloc (tbO m)).alloc (rtO m')) W)=>rtbSteps_any m m'.A1 m'.c1 m'.r.steps.length m'.r.steps rfl none 0 0 [] rfl W (HP1.out.below rfl hW) ((P.out.p1).below rfl hW) hf.1 P.out.q.1 (.inl rfl) (by decide) hpl)
 have C7:=hid (fun W (hW:Below ((w.alloc (tbO m)).alloc (rtO m')).heap.size ((w.alloc (tbO m)).alloc (rtO m')) W)=>rtbSteps_any m m'.A2 m'.c2 m'.r.lap.length m'.r.lap rfl m'.A1 m'.c1 m'.r.steps.length m'.r.steps rfl W (HP1.out.below rfl hW) ((P.out.p2).below rfl hW) hf.2.1 P.out.q.2 ((P.out.p1).below rfl hW) hf.1 hpl)
 have C8:=hid (fun W (hW:Below ((w.alloc (tbO m)).alloc (rtO m')).heap.size ((w.alloc (tbO m)).alloc (rtO m')) W)=>rtbDemands_any m m'.A3 m'.c3 m'.r.pts W (HP1.out.below rfl hW) ((P.out.p3).below rfl hW) hf.2.2.1 hpl)
 have C9:=hid (fun (hin:∀ x∈m'.r.steps,0≤x.s∧x.s<(m.t.points.length:Int)) W (hW:Below ((w.alloc (tbO m)).alloc (rtO m')).heap.size ((w.alloc (tbO m)).alloc (rtO m')) W)=>rtbAsks_any m m'.A3 m'.c3 m'.r.pts m'.A1 m'.c1 m'.r.steps W (HP1.out.below rfl hW) ((P.out.p3).below rfl hW) hf.2.2.1 ((P.out.p1).below rfl hW) hf.1 hpl hin)
 have C10:=hid (fun (hin:∀ x∈m'.r.lap,0≤x.s∧x.s<(m.t.points.length:Int)) W (hW:Below ((w.alloc (tbO m)).alloc (rtO m')).heap.size ((w.alloc (tbO m)).alloc (rtO m')) W)=>rtbAsks_any m m'.A3 m'.c3 m'.r.pts m'.A2 m'.c2 m'.r.lap W (HP1.out.below rfl hW) ((P.out.p3).below rfl hW) hf.2.2.1 ((P.out.p2).below rfl hW) hf.2.1 hpl hin)
 have C11:=hid (fun W (hW:Below ((w.alloc (tbO m)).alloc (rtO m')).heap.size ((w.alloc (tbO m)).alloc (rtO m')) W)=>rtbRising_any m'.A4 m'.c4 m'.r.fl m.t.sigs.length W ((P.out.p4).below rfl hW) hf.2.2.2.1)
 have C12:=hid (fun W (hW:Below ((w.alloc (tbO m)).alloc (rtO m')).heap.size ((w.alloc (tbO m)).alloc (rtO m')) W)=>rtbRising_any m'.A5 m'.c5 m'.r.near m.t.names.length W ((P.out.p5).below rfl hW) hf.2.2.2.2)
 rw [V.out]
 clear V
 generalize hz1:decide (0≤m'.r.entry)=z1
 have HZ1:=hid hz1
 clear hz1
 generalize hz2:decide (m'.r.entry<(m.t.sigs.length:Int))=z2
 have HZ2:=hid hz2
 clear hz2
 generalize hz3:decide (-1≤m'.r.exit)=z3
 have HZ3:=hid hz3
 clear hz3
 generalize hz4:decide (m'.r.exit<(m.t.sigs.length:Int))=z4
 have HZ4:=hid hz4
 clear hz4
 have hy5:decide (0<m'.r.steps.length)=decide (0<(m'.r.steps.length:Int)):=by congr 1;rw[eq_iff_iff];omega
 generalize hz5:decide (0<(m'.r.steps.length:Int))=z5 at hy5 ⊢
 have HZ5:=hid (And.intro hz5 hy5)
 clear hz5 hy5
 generalize hz6:Tb.stepsOk m.t.points m'.r.steps []=z6 at C6 ⊢
 have HZ6:=hid hz6
 clear hz6
 generalize hz7:Tb.stepsOk m.t.points m'.r.lap m'.r.steps=z7 at C7 ⊢
 have HZ7:=hid hz7
 clear hz7
 generalize hz8:Tb.demandsOk m.t.points m'.r.pts=z8 at C8 ⊢
 have HZ8:=hid hz8
 clear hz8
 generalize hz9:Tb.asksOk m.t.points m'.r.pts m'.r.steps=z9 at C9 ⊢
 have HZ9:=hid hz9
 clear hz9
 generalize hz10:Tb.asksOk m.t.points m'.r.pts m'.r.lap=z10 at C10 ⊢
 have HZ10:=hid hz10
 clear hz10
 generalize hz11:Tb.risingOk m'.r.fl m.t.sigs.length=z11 at C11 ⊢
 have HZ11:=hid hz11
 clear hz11
 generalize hz12:Tb.risingOk m'.r.near m.t.names.length=z12 at C12 ⊢
 have HZ12:=hid hz12
 clear hz12
 generalize hz13:decide (0≤m'.r.dist)=z13
 have HZ13:=hid hz13
 clear hz13
 generalize hz14:decide (m'.r.dist<281474976710656)=z14
 have HZ14:=hid hz14
 clear hz14
 generalize hz15:decide (0≤m'.r.timer)=z15
 have HZ15:=hid hz15
 clear hz15
 generalize hz16:decide (m'.r.timer<4294967296)=z16
 have HZ16:=hid hz16
 clear hz16
 clear h h1 XX
 go_enter Tryz.func31,Tryz.ntmps31
 go_upto_region 1 with fail
 generalize (w.alloc (tbO m)).alloc (rtO m')=w2 at X P HP1 R1 R2 C6 C7 C8 C9 C10 C11 C12 ⊢
 generalize w.heap.size+1=g2 at R2 ⊢
 generalize hg:w.heap.size=g at R1 ⊢
 have B0:=hid (Below.refl w2.heap.size w2)
 have gx:=(tb_row R1).2
 have gy:=(row9 R2).2.2
 have K:=hid (fun W (hW:Below w2.heap.size w2 W)=>And.intro (tb_row ((hW.block _ gx).trans R1)).1 (row9 ((hW.block _ gy).trans R2)).1)
 clear hg R1 R2 gx gy hf hpl
 obtain ⟨⟨p0,p1,p2,p3,p4,p5⟩,q0,q1,q2,q3,q4,q5,q6,q7,q8⟩:=K.out _ B0.out
 have hz1:=HZ1.out
 clear HZ1
 cases z1 with
 | false =>
   go_wp2_with fail
   go_ret
   exact ⟨rfl,X.out⟩
 | true =>
   have hz2:=HZ2.out
   clear HZ2
   cases z2 with
   | false =>
     go_wp2_with fail
     go_ret
     exact ⟨rfl,X.out⟩
   | true =>
     have hz3:=HZ3.out
     clear HZ3
     cases z3 with
     | false =>
       go_wp2_with fail
       go_ret
       exact ⟨rfl,X.out⟩
     | true =>
       have hz4:=HZ4.out
       clear HZ4
       cases z4 with
       | false =>
         go_wp2_with fail
         go_ret
         exact ⟨rfl,X.out⟩
       | true =>
         obtain ⟨hz5,hy5⟩:=HZ5.out
         clear HZ5
         cases z5 with
         | false =>
           go_wp2_with fail
           go_ret
           exact ⟨rfl,X.out⟩
         | true =>
           go_wp2_with fail
           refine (C6.out _ B0.out).mono ?_;rintro e w3 ⟨rfl,hb⟩
           have B1:=hid (B0.out.trans (hb.mono B0.out.size))
           have F1:=hid (X.out.trans (hb.mono X.out.size))
           clear hb p0 p1 p2 p3 p4 p5 q0 q1 q2 q3 q4 q5 q6 q7 q8 C6
           cases z6 with
           | false =>
             go_wp2_with fail
             go_ret
             exact ⟨rfl,F1.out⟩
           | true =>
             obtain ⟨⟨p0,p1,p2,p3,p4,p5⟩,q0,q1,q2,q3,q4,q5,q6,q7,q8⟩:=K.out _ B1.out
             go_wp2_with fail
             refine (C7.out _ B1.out).mono ?_;rintro e w4 ⟨rfl,hb⟩
             have B2:=hid (B1.out.trans (hb.mono B1.out.size))
             have F2:=hid (F1.out.trans (hb.mono F1.out.size))
             clear hb p0 p1 p2 p3 p4 p5 q0 q1 q2 q3 q4 q5 q6 q7 q8 C7
             cases z7 with
             | false =>
               go_wp2_with fail
               go_ret
               exact ⟨rfl,F2.out⟩
             | true =>
               obtain ⟨⟨p0,p1,p2,p3,p4,p5⟩,q0,q1,q2,q3,q4,q5,q6,q7,q8⟩:=K.out _ B2.out
               go_wp2_with fail
               refine (C8.out _ B2.out).mono ?_;rintro e w5 ⟨rfl,hb⟩
               have B3:=hid (B2.out.trans (hb.mono B2.out.size))
               have F3:=hid (F2.out.trans (hb.mono F2.out.size))
               clear hb p0 p1 p2 p3 p4 p5 q0 q1 q2 q3 q4 q5 q6 q7 q8 C8
               cases z8 with
               | false =>
                 go_wp2_with fail
                 go_ret
                 exact ⟨rfl,F3.out⟩
               | true =>
                 obtain ⟨⟨p0,p1,p2,p3,p4,p5⟩,q0,q1,q2,q3,q4,q5,q6,q7,q8⟩:=K.out _ B3.out
                 go_wp2_with fail
                 refine (C9.out (Tb.steps_in HZ6.out) _ B3.out).mono ?_;rintro e w6 ⟨rfl,hb⟩
                 have B4:=hid (B3.out.trans (hb.mono B3.out.size))
                 have F4:=hid (F3.out.trans (hb.mono F3.out.size))
                 clear hb p0 p1 p2 p3 p4 p5 q0 q1 q2 q3 q4 q5 q6 q7 q8 C9
                 cases z9 with
                 | false =>
                   go_wp2_with fail
                   go_ret
                   exact ⟨rfl,F4.out⟩
                 | true =>
                   obtain ⟨⟨p0,p1,p2,p3,p4,p5⟩,q0,q1,q2,q3,q4,q5,q6,q7,q8⟩:=K.out _ B4.out
                   go_wp2_with fail
                   refine (C10.out (Tb.steps_in HZ7.out) _ B4.out).mono ?_;rintro e w7 ⟨rfl,hb⟩
                   have B5:=hid (B4.out.trans (hb.mono B4.out.size))
                   have F5:=hid (F4.out.trans (hb.mono F4.out.size))
                   clear hb p0 p1 p2 p3 p4 p5 q0 q1 q2 q3 q4 q5 q6 q7 q8 C10
                   cases z10 with
                   | false =>
                     go_wp2_with fail
                     go_ret
                     exact ⟨rfl,F5.out⟩
                   | true =>
                     obtain ⟨⟨p0,p1,p2,p3,p4,p5⟩,q0,q1,q2,q3,q4,q5,q6,q7,q8⟩:=K.out _ B5.out
                     go_wp2_with fail
                     refine (C11.out _ B5.out).mono ?_;rintro e w8 ⟨rfl,hb⟩
                     have B6:=hid (B5.out.trans (hb.mono B5.out.size))
                     have F6:=hid (F5.out.trans (hb.mono F5.out.size))
                     clear hb p0 p1 p2 p3 p4 p5 q0 q1 q2 q3 q4 q5 q6 q7 q8 C11
                     cases z11 with
                     | false =>
                       go_wp2_with fail
                       go_ret
                       exact ⟨rfl,F6.out⟩
                     | true =>
                       obtain ⟨⟨p0,p1,p2,p3,p4,p5⟩,q0,q1,q2,q3,q4,q5,q6,q7,q8⟩:=K.out _ B6.out
                       go_wp2_with fail
                       refine (C12.out _ B6.out).mono ?_;rintro e w9 ⟨rfl,hb⟩
                       have B7:=hid (B6.out.trans (hb.mono B6.out.size))
                       have F7:=hid (F6.out.trans (hb.mono F6.out.size))
                       clear hb p0 p1 p2 p3 p4 p5 q0 q1 q2 q3 q4 q5 q6 q7 q8 C12
                       cases z12 with
                       | false =>
                         go_wp2_with fail
                         go_ret
                         exact ⟨rfl,F7.out⟩
                       | true =>
                         obtain ⟨⟨p0,p1,p2,p3,p4,p5⟩,q0,q1,q2,q3,q4,q5,q6,q7,q8⟩:=K.out _ B7.out
                         have hz13:=HZ13.out
                         clear HZ13
                         cases z13 with
                         | false =>
                           go_wp2_with fail
                           go_ret
                           exact ⟨rfl,F7.out⟩
                         | true =>
                           have hz14:=HZ14.out
                           clear HZ14
                           cases z14 with
                           | false =>
                             go_wp2_with fail
                             go_ret
                             exact ⟨rfl,F7.out⟩
                           | true =>
                             have hz15:=HZ15.out
                             clear HZ15
                             cases z15 with
                             | false =>
                               go_wp2_with fail
                               go_ret
                               exact ⟨rfl,F7.out⟩
                             | true =>
                               have hz16:=HZ16.out
                               clear HZ16
                               cases z16 with
                               | false =>
                                 go_wp2_with fail
                                 go_ret
                                 exact ⟨rfl,F7.out⟩
                               | true =>
                                 go_wp2_with fail
                                 go_ret
                                 exact ⟨rfl,F7.out⟩
 --]
theorem ApartR.moved {α:Type} {E:Lies α} {w w':World} {k k':Option Nat} {A:Option Addr} {L:List α} (h:ApartR E w k A L) (hg:w.grownBy w' k) (hk:∀ j,k'=some j→k=some j∨w.heap.size≤j):ApartR E w' k' A L:=by
 have h1:=h.grown hg
 refine ⟨h1.1,fun hL a ha=>⟨fun e=>?_,(h1.2 hL a ha).2⟩⟩
 rcases hk _ e with h2 | h2
 ·exact (h.2 hL a ha).1 h2
 ·have:=(h.2 hL a ha).2;omega
theorem ownsRow_base {w:World} {base base':Nat} {e:TypeId} {size:Nat} {v:Value} {n:Nat} {xs:List Value} (h:w.ownsRow base e size v n xs) (hb:base'≤base):w.ownsRow base' e size v n xs:=by
 refine ⟨h.1,h.2.imp id ?_⟩
 rintro ⟨g,cap,cur,rfl,h1,h2⟩
 exact ⟨g,cap,cur,rfl,Nat.le_trans hb h1,h2⟩
structure OwnSets (base:Nat) (w:World) (v:Value) (R:List (List Nat)):Prop where
 ex:∃ M:List SetM,M.map SetM.L=R∧w.ownsRow base 67 LSet.m v R.length (LSet.all M)∧∀ m∈M,ApartR LWd w v.ownBlock m.A m.L∧NewR base m.A m.L
theorem OwnSets.nil (w:World) (base:Nat):OwnSets base w (.slice none 0 0) []:=⟨[],rfl,World.ownsRow_nil _ _ _ _,fun _ h=>by cases h⟩
theorem OwnSets.below {base:Nat} {w w':World} {v:Value} {R:List (List Nat)} (h:OwnSets base w v R) (hb:Below w.heap.size w w'):OwnSets base w' v R:=by
 obtain ⟨M,h1,h2,h3⟩:=h
 exact ⟨M,h1,ownsRow_below h2 hb,fun m hm=>⟨(h3 m hm).1.below hb,(h3 m hm).2⟩⟩
theorem OwnSets.lt {base:Nat} {w:World} {v:Value} {R:List (List Nat)} (h:OwnSets base w v R) {j:Nat} (hj:v.ownBlock=some j):j<w.heap.size:=by
 obtain ⟨M,-,h2,-⟩:=h
 exact (h2.lt j hj).2
theorem OwnSets.sets {base:Nat} {w:World} {v:Value} {R:List (List Nat)} (h:OwnSets base w v R):∃ A c,v=.slice A R.length c∧SetsNew base w A R:=by
 obtain ⟨M,h1,h2,h3⟩:=h
 obtain ⟨-,A,c,rfl,-,hR⟩:=Lies.Row.of_own (E:=LSet) h2
 exact ⟨A,c,rfl,M,h1,⟨hR,own_new h2⟩,fun m hm=>⟨(h3 m hm).1.1,(h3 m hm).2⟩⟩
theorem own_apart {w:World} {base:Nat} {v:Value} {L:List Nat} (h:w.ownsRow base 72 LWd.m v L.length (LWd.all L)) {k:Option Nat} (hk:∀ j,k=some j→j<base):∃ A c,v=.slice A L.length c∧ApartR LWd w k A L∧NewR base A L:=by
 obtain ⟨-,A,c,rfl,-,hR⟩:=Lies.Row.of_own (E:=LWd) h
 have hn:=own_new h
 exact ⟨A,c,rfl,ApartR.new hR hn hk,hn⟩
theorem Cl.ofL_snoc {n x:Int} (h:x<n) (l:List Int):Bs.ofL n (l++[x])=Bs.put (Bs.ofL n l) x:=by
 unfold Bs.ofL
 rw [List.foldl_append,List.foldl_cons,List.foldl_nil,if_pos h]
theorem rx_on {w W:World} {b o:Nat} {m:RouteM} (hW:Below w.heap.size w W) (hb:b<w.heap.size) (h:LRt.On w b o m):LRt.On W b o m:=fun j v hv=>(hW.cell (p:=⟨b,o+j,none⟩) hb).trans (h j v hv)
theorem rx_get {L:List Rt.Route} {k:Nat} {y:Rt.Route} (h:L[k]? = some y):L.getD k Rt.zero=y:=by rw[List.getD_eq_getElem?_getD,h];rfl
theorem rxMatrix_new (A:Option Addr) (c:Nat) (L:List Rt.Route) (w:World) (h:RoutesIn w A L) (hs:∀ r∈L,Cl.Tiny r) (hl:L.length≤1000000) :
 Calls Tryz.prog 18 #[.slice A L.length c] w (SetsMade (Cl.rows L) w):=by
 --[
 have HR:=hid h
 have HS:=hid hs
 have B0:=hid (Below.refl w.heap.size w)
 have RL:=hid (Cl.rows_len L)
 have O0:=hid (show OwnSets w.heap.size w (.slice none 0 0) ((Cl.rows L).take 0) from OwnSets.nil w w.heap.size)
 have CN:=hid (fun W=>rbNew_any (L.length:Int) W (by omega))
 clear h hs
 go_enter Tryz.func18,Tryz.ntmps18
 go_wp2_with fail
 go_loopw [3,4,5,6] (fun v3 v4 _ _ w'=>∃ i:Nat,i≤L.length∧v4=.int .i64 i∧OwnSets w.heap.size w' v3 ((Cl.rows L).take i)∧Below w.heap.size w w') (fun _ v4 _ _ _=>L.length - (intOf v4).toNat)
 case atStart=>exact ⟨0,Nat.zero_le _,rfl,O0.out,B0.out⟩
 case round =>
  obtain ⟨i,hi,rfl,hO,hb⟩:=hrel
  have HB:=hid hb
  have HO:=hid hO
  clear hO hb
  by_cases hlt:i<L.length
  ·have d1 : decide ((i:Int)<(L.length:Int))=true:=dec_t (by omega)
   have i0:(0:Int)≤(i:Int):=Int.natCast_nonneg i
   have i1:(i:Int)<(L.length:Int):=by omega
   have T0:=hid (Below.refl wr.heap.size wr)
   go_wp2_with fail
   refine (CN.out _).mono ?_;rintro e w2 ⟨v,rfl,ho2,hb2⟩
   have O2:=hid (show w2.ownsRow wr.heap.size 72 LWd.m v (Bs.ofL (L.length:Int) (Cl.barred L i 0)).length (LWd.all (Bs.ofL (L.length:Int) (Cl.barred L i 0))) from ho2)
   have B2:=hid hb2
   clear ho2 hb2
   go_wp2_with fail
   go_loopw [5,6] (fun v5 v6 w'=>∃ k:Nat,k≤L.length∧v6=.int .i64 k∧w'.ownsRow wr.heap.size 72 LWd.m v5 (Bs.ofL (L.length:Int) (Cl.barred L i k)).length (LWd.all (Bs.ofL (L.length:Int) (Cl.barred L i k)))∧Below wr.heap.size wr w') (fun _ v6 _=>L.length - (intOf v6).toNat)
   case atStart=>exact ⟨0,Nat.zero_le _,rfl,O2.out,B2.out⟩
   case round =>
    clear O2 B2
    obtain ⟨k,hk,rfl,ho,hb⟩:=hrel
    have HBk:=hid hb
    have HOk:=hid ho
    by_cases hkl:k<L.length
    ·have d2:decide ((k:Int)<(L.length:Int))=true:=dec_t (by omega)
     have k0:(0:Int)≤(k:Int):=Int.natCast_nonneg k
     have k1:(k:Int)<(L.length:Int):=by omega
     have hbw:=HB.out.trans (hb.mono HB.out.size)
     have hya:=List.getElem?_eq_getElem hlt
     have hyk:=List.getElem?_eq_getElem hkl
     obtain ⟨b,o,m1,rfl,hbb,h1,on1,P1⟩:=(HR.out.below hbw).at hya
     obtain ⟨b',o',m2,hA,-,h2,on2,P2⟩:=(HR.out.below hbw).at hyk
     cases hA
     have hH:Cl.hit L i k=(decide (k≠i) && Cl.bars m1.r m2.r):=by
      unfold Cl.hit
      rw [rx_get hya,rx_get hyk,h1,h2]
     have t1:=HS.out _ (List.getElem_mem hlt)
     have t2:=HS.out _ (List.getElem_mem hkl)
     rw [← h1] at t1
     rw [← h2] at t2
     have HT:=hid (Cl.barred_succ L i k)
     rw [hH] at HT
     have CB:=hid (fun W (hW:Below wr.heap.size wr W)=>rxBars_any m1 m2 W (P1.below hW) (P2.below hW) t1 t2)
     generalize hzz:Cl.bars m1.r m2.r=z at HT CB
     have V0:=hid (Below.refl wr.heap.size wr)
     have KS:=hid (fun W (hW:Below wr.heap.size wr W)=>And.intro (rt_on (rx_on hW hbb on1)) (rt_on (rx_on hW hbb on2)))
     clear hzz hH hya hyk h1 h2 t1 t2 P1 P2 on1 on2 hbb hbw ho hb
     by_cases hka:k=i
     ·have E:((k:Int) != (i:Int))=false:=by rw[bne_eq_false_iff_eq];omega
      have HT2:=hid (show Cl.barred L i (k+1)=Cl.barred L i k from by have:=HT.out;rwa [decide_eq_false (p:=k≠i) (fun h=>h hka),Bool.false_and,if_neg (by decide),List.append_nil] at this)
      clear hka
      go_upto_region 9 with fail
      go_quiet (fail)
      go_wp2_with fail
      go_roundw
      case rel=>exact ⟨k+1,by omega,by go_num,by rw[HT2.out];exact ownsRow_below HOk.out (below_drewN V0.out _),below_drewN HBk.out _⟩
      case measure=>simp [intOf];omega
     ·have E:((k:Int) != (i:Int))=true:=by rw[bne_iff_ne];omega
      have HT2:=hid (show Cl.barred L i (k+1)=Cl.barred L i k++if z=true then [(k:Int)] else [] from by have:=HT.out;rwa [decide_eq_true (p:=k≠i) hka,Bool.true_and] at this)
      clear hka
      go_upto_region 9 with fail
      go_region_held3 (fun W'=>(W'.cell? ⟨b,o+i * 9,none⟩ = some (.int .i64 m1.r.entry)∧W'.cell? ⟨b,o+i * 9+1,none⟩ = some (.int .i64 m1.r.exit)∧W'.cell? ⟨b,o+i * 9+2,none⟩ = some (.slice m1.A1 m1.r.steps.length m1.c1)∧W'.cell? ⟨b,o+i * 9+3,none⟩ = some (.slice m1.A2 m1.r.lap.length m1.c2)∧W'.cell? ⟨b,o+i * 9+4,none⟩ = some (.slice m1.A3 m1.r.pts.length m1.c3)∧W'.cell? ⟨b,o+i * 9+5,none⟩ = some (.slice m1.A4 m1.r.fl.length m1.c4)∧W'.cell? ⟨b,o+i * 9+6,none⟩ = some (.slice m1.A5 m1.r.near.length m1.c5)∧W'.cell? ⟨b,o+i * 9+7,none⟩ = some (.int .i64 m1.r.dist)∧W'.cell? ⟨b,o+i * 9+8,none⟩ = some (.int .i64 m1.r.timer))∧(W'.cell? ⟨b,o+k * 9,none⟩ = some (.int .i64 m2.r.entry)∧W'.cell? ⟨b,o+k * 9+1,none⟩ = some (.int .i64 m2.r.exit)∧W'.cell? ⟨b,o+k * 9+2,none⟩ = some (.slice m2.A1 m2.r.steps.length m2.c1)∧W'.cell? ⟨b,o+k * 9+3,none⟩ = some (.slice m2.A2 m2.r.lap.length m2.c2)∧W'.cell? ⟨b,o+k * 9+4,none⟩ = some (.slice m2.A3 m2.r.pts.length m2.c3)∧W'.cell? ⟨b,o+k * 9+5,none⟩ = some (.slice m2.A4 m2.r.fl.length m2.c4)∧W'.cell? ⟨b,o+k * 9+6,none⟩ = some (.slice m2.A5 m2.r.near.length m2.c5)∧W'.cell? ⟨b,o+k * 9+7,none⟩ = some (.int .i64 m2.r.dist)∧W'.cell? ⟨b,o+k * 9+8,none⟩ = some (.int .i64 m2.r.timer)))
       (first | with_reducible exact KS.out _ V0.out.drew | with_reducible exact KS.out _ h5 | (go_keep;done))
       (first | (go_at_call 39;(with_reducible refine (CB.out _ V0.out.drew).mono ?_);rintro e5 w5 ⟨rfl,hb5⟩;have h5:=V0.out.drew.trans (hb5.mono V0.out.drew.size)))
      have B5:=hid (HBk.out.trans (h5.mono HBk.out.size))
      have O5:=hid (ownsRow_below HOk.out h5)
      clear KS CB h5
      cases z with
      | false =>
        go_wp2_with fail
        go_roundw
        case rel=>exact ⟨k+1,by omega,by go_num,by rw[HT2.out,if_neg (by decide),List.append_nil];exact O5.out,B5.out⟩
        case measure=>simp [intOf];omega
      | true =>
        have HP:=hid (show Bs.ofL (L.length:Int) (Cl.barred L i (k+1))=Bs.put (Bs.ofL (L.length:Int) (Cl.barred L i k)) (k:Int) from by rw[HT2.out,if_pos rfl,Cl.ofL_snoc (by omega)])
        have hW:=Bs.W32.ofL (L.length:Int) (Cl.barred L i k)
        have hML:(Bs.ofL (L.length:Int) (Cl.barred L i k)).length≤1000000:=by
         rw [Bs.ofL_len,Bs.new_len]
         split <;> omega
        generalize Bs.ofL (L.length:Int) (Cl.barred L i k)=X at HOk O5 HP hW hML
        obtain ⟨-,Bx,dx,rfl,-,hRx⟩:=Lies.Row.of_own (E:=LWd) O5.out
        have CW:=hid (rbWith_any Bx dx X (k:Int) w5 (by omega) hRx hW hML)
        clear hRx hW hML
        go_wp2_with fail
        refine CW.out.mono ?_;rintro e w6 ⟨v6,rfl,ho6,hb6⟩
        have B6:=hid (B5.out.trans (hb6.mono B5.out.size))
        have O6:=hid (ownsRow_base ho6 B5.out.size)
        clear ho6 hb6
        go_wp2_with fail
        go_roundw
        case rel=>exact ⟨k+1,by omega,by go_num,by rw[HP.out];exact O6.out,B6.out⟩
        case measure=>simp [intOf];omega
    ·obtain rfl:k=L.length:=by omega
     have d2:decide ((L.length:Int)<(L.length:Int))=false:=dec_f (by omega)
     have hlt1:((Cl.rows L).take i).length=i:=by rw[List.length_take,RL.out];omega
     obtain ⟨Ax,cx,rfl,hAx,hAn⟩:=own_apart (L:=Cl.row L i) ho (fun j hj=>HO.out.lt hj)
     obtain ⟨M,hM1,hM2,hM3⟩:=HO.out.below hb
     have HM:=hid (And.intro hM1 hM3)
     rw [hlt1] at hM2
     have HAX:=hid hAx
     have HAN:=hid (hAn.base HB.out.size)
     have HTK:=hid (Cl.rows_take L hlt)
     have HO1:=hid (hM2.alloc (.cells #[.slice Ax (Cl.row L i).length cx] 67))
     have HR1:=hid (show LSet.Row (wr.alloc (.cells #[.slice Ax (Cl.row L i).length cx] 67)) (some ⟨wr.heap.size,0,none⟩) [⟨Ax,cx,Cl.row L i⟩] from Lies.Row.fresh (E:=LSet) wr [⟨Ax,cx,Cl.row L i⟩] 67)
     have X7:=hid ((Below.refl wr.heap.size wr).alloc (Nat.le_refl _) (.cells #[.slice Ax (Cl.row L i).length cx] 67))
     have hbw:=HB.out.trans (hb.mono HB.out.size)
     have HBW:=hid hbw
     have HSZ:=hbw.size
     obtain ⟨j0,hi',hz0,hz1,hz2⟩:=info_parts infoSet
     clear hM1 hM2 hM3 hAx hAn hb ho hbw HOk
     go_wp2_with (at_builtin;refine wpList_append_row LSet _ rfl (.tmp 39) (.tmp 41) 32 rfl w.heap.size 67 j0 _ 24 Tryz.underlying32 hi' hz0 hz1 hz2 rfl u3 i (LSet.all M) rfl HO1.out (some ⟨wr.heap.size,0,none⟩) 1 1 [⟨Ax,cx,Cl.row L i⟩] rfl (by decide) rfl HR1.out (by omega) (by omega) (by simp;omega) ?_;intro g1 cap1 w8 hown hg1 hgr;have HN:=hid hown;have HG:=hid hg1;have HGR:=hid hgr;clear hown hg1 hgr)
     have S8:=hid (show OwnSets w.heap.size w8 (.slice (some ⟨g1,0,none⟩) (i+1) cap1) ((Cl.rows L).take (i+1)) from by
      have mv:∀ {B:Option Addr} {K:List Nat},ApartR LWd wr u3.ownBlock B K→ApartR LWd w8 (Value.slice (some ⟨g1,0,none⟩) (i+1) cap1).ownBlock B K:=fun h=>(h.below X7.out).moved HG.out fun j hj=>by
       cases hj
       rcases HGR.out with h | h
       ·exact .inl h
       ·exact .inr (by rw[h];exact Nat.le_refl _)
      rw [HTK.out]
      refine ⟨M++[⟨Ax,cx,Cl.row L i⟩],by rw[List.map_append,HM.out.1];rfl,?_,fun m hm=>?_⟩
      ·rw [List.length_append,hlt1,LSet.all_append]
       exact HN.out
      ·rcases List.mem_append.1 hm with hm | hm
       ·exact ⟨mv (HM.out.2 m hm).1,(HM.out.2 m hm).2⟩
       ·rw [List.mem_singleton.1 hm]
        exact ⟨mv HAX.out,HAN.out⟩)
     have B8:=hid ((HBW.out.trans (X7.out.mono HBW.out.size)).grown HG.out (HBW.out.trans (X7.out.mono HBW.out.size)).size fun j hj=>(HO1.out.lt j hj).1)
     go_roundw
     case rel=>exact ⟨i+1,by omega,by go_num,S8.out,B8.out⟩
     case measure=>simp [intOf];omega
  ·obtain rfl:i=L.length:=by omega
   have d1:decide ((L.length:Int)<(L.length:Int))=false:=dec_f (by omega)
   have HF:=HO.out
   rw [← RL.out,List.take_length] at HF
   obtain ⟨Ax,cx,rfl,hS⟩:=HF.sets
   have HSX:=hid hS
   clear hS HF
   go_wp2_with fail
   go_ret
   exact ⟨Ax,cx,rfl,HSX.out,HB.out⟩
 --]
theorem rxMatrix_any (A:Option Addr) (c:Nat) (L:List Rt.Route) (w:World) (h:RoutesIn w A L) (hs:∀ r∈L,Cl.Tiny r) (hl:L.length≤1000000) :
 Calls Tryz.prog 18 #[.slice A L.length c] w (SetsYes (Cl.rows L) w):=(rxMatrix_new A c L w h hs hl).mono fun _ _ h=>h.yes
theorem Cl.sets_drop {R:List (List Nat)} {j:Nat} {x:List Nat} (h:R[j]? = some x) {S:List (List Nat)} {y:List Nat} (h':S[j]? = some y):(R.drop j=S.drop j) ↔ x=y∧R.drop (j+1)=S.drop (j+1):=by
 obtain ⟨h1,rfl⟩:=List.getElem?_eq_some_iff.1 h
 obtain ⟨h2,rfl⟩:=List.getElem?_eq_some_iff.1 h'
 rw [List.drop_eq_getElem_cons h1,List.drop_eq_getElem_cons h2,List.cons.injEq]
theorem rxSame_any (A:Option Addr) (c:Nat) (R:List (List Nat)) (A':Option Addr) (c':Nat) (S:List (List Nat)) (w:World) (h:SetsIn w A R) (hl:∀ x∈R,x.length≤1000000) (h':SetsIn w A' S) (hR:R.length≤1000000) :
 Calls Tryz.prog 17 #[.slice A R.length c,.slice A' S.length c'] w (OneIs (.bool (decide (R=S))) w):=by
 --[
 have B0:=hid (Below.refl w.heap.size w)
 have HR:=hid h
 have HS:=hid h'
 have HL:=hid hl
 clear h h' hl
 by_cases hn:R.length=S.length
 ·have E : ((R.length:Int) != (S.length:Int))=false:=by rw[bne_eq_false_iff_eq];omega
  generalize hq:decide (R=S)=q
  have HQ:=hid (show decide (R.drop 0=S.drop 0)=q from by rw[List.drop_zero,List.drop_zero];exact hq)
  clear hq
  have HN:=hid hn
  clear hn
  go_enter Tryz.func17,Tryz.ntmps17
  go_wp2_with fail
  go_loopw [5] (fun v w'=>∃ j:Nat,j≤R.length∧v=.int .i64 j∧decide (R.drop j=S.drop j)=q∧Below w.heap.size w w') (fun v _=>R.length - (intOf v).toNat)
  case atStart=>exact ⟨0,Nat.zero_le _,rfl,HQ.out,B0.out⟩
  case round =>
   obtain ⟨j,hj,rfl,hp,hb⟩:=hrel
   clear HQ E
   by_cases hlt:j<R.length
   ·have hy:=List.getElem?_eq_getElem hlt
    have hjs:j<S.length:=by have:=HN.out;omega
    have hy':=List.getElem?_eq_getElem hjs
    have HB:=hid hb
    have hxl:=HL.out _ (List.getElem_mem hlt)
    obtain ⟨b,o,X,xc,rfl,hbb,c0,hX⟩:=(HR.out.below hb).at hy
    obtain ⟨b',o',Y,yc,rfl,hbb',c0',hY⟩:=(HS.out.below hb).at hy'
    have hdd:=Cl.sets_drop hy hy'
    generalize R[j]=x at hy hxl c0 hX hdd
    generalize S[j]=y at hy' c0' hY hdd
    have d1:decide ((j:Int)<(R.length:Int))=true:=dec_t (by omega)
    have i0:(0:Int)≤(j:Int):=Int.natCast_nonneg j
    have i1:(j:Int)<(R.length:Int):=by omega
    have i2:(j:Int)<(S.length:Int):=by omega
    have V0:=hid (Below.refl wr.heap.size wr)
    have KS:=hid (fun W (hW:Below wr.heap.size wr W)=>And.intro ((hW.cell (p:=⟨b,o+j,none⟩) hbb).trans c0) ((hW.cell (p:=⟨b',o'+j,none⟩) hbb').trans c0'))
    have C:=hid (fun W (hW:Below wr.heap.size wr W)=>rbSame_any X xc x.length x Y yc y.length y W rfl (hX.below rfl hW) hxl rfl (hY.below rfl hW))
    have hz:decide (R.drop j=S.drop j)=(decide (x=y) && decide (R.drop (j+1)=S.drop (j+1))):=by
     rw [Bool.eq_iff_iff,Bool.and_eq_true,decide_eq_true_iff,decide_eq_true_iff,decide_eq_true_iff]
     exact hdd
    rw [hz] at hp
    generalize decide (x=y)=z at C hp
    have HP:=hid hp
    clear hb hy hy' hdd hz hp hX hY hbb hbb' c0 c0' hxl
    go_upto_region 6 with fail
    go_region_held3 (fun W'=>W'.cell? ⟨b,o+j,none⟩ = some (.slice X x.length xc)∧W'.cell? ⟨b',o'+j,none⟩ = some (.slice Y y.length yc))
     (first | with_reducible exact KS.out _ V0.out.drew | with_reducible exact KS.out _ h5 | (go_keep;done))
     (first | (go_at_call 37;(with_reducible refine (C.out _ V0.out.drew).mono ?_);rintro e5 w5 ⟨rfl,hb5⟩;have h5:=V0.out.drew.trans (hb5.mono V0.out.drew.size)))
    have B5:=hid (HB.out.trans (h5.mono HB.out.size))
    clear h5 KS C
    cases z with
    | true =>
      have HP2:=hid (show decide (R.drop (j+1)=S.drop (j+1))=q from HP.out)
      go_wp2_with fail
      go_roundw
      case rel=>exact ⟨j+1,by omega,by go_num,HP2.out,B5.out⟩
      case measure=>simp [intOf];omega
    | false =>
      have HP2:=hid (show false=q from HP.out)
      go_wp2_with fail
      go_ret
      exact ⟨by rw[← HP2.out] <;> rfl,B5.out⟩
   ·obtain rfl:j=R.length:=by omega
    have d1:decide ((R.length:Int)<(R.length:Int))=false:=dec_f (by omega)
    have HP:=hid (show true=q from by
     rw [List.drop_length,HN.out,List.drop_length] at hp
     exact hp)
    have HB:=hid hb
    clear hp hb
    go_wp2_with fail
    go_ret
    exact ⟨by rw[← HP.out] <;> rfl,HB.out⟩
 ·have E:((R.length:Int) != (S.length:Int))=true:=by rw[bne_iff_ne];omega
  have P:=hid (show decide (R=S)=false from decide_eq_false fun e=>hn (congrArg List.length e))
  clear hn
  go_enter Tryz.func17,Tryz.ntmps17
  go_wp2_with fail
  go_ret
  exact ⟨by rw[P.out] <;> rfl,B0.out⟩
 --]
open Go
section
variable {P : Program} {ops : Array Oper} {S : World → Prop}
inductive Gives (P:Program) (ops:Array Oper) (S:World→Prop) (o:Oper) (a:Act) (v:Value):Prop
 | dead (h:Region.wanted o (yielded ops a.tmps)=false) (hv:v=undef)
 | val (h:Region.wanted o (yielded ops a.tmps)=true) (hv:∀ w,S w→(execOp a.eval o).run P w=.ok (.value v) w)
 | call (h:Region.wanted o (yielded ops a.tmps)=true) (f:FuncId) (args:Array Value) (hr:∀ w,S w→(execOp a.eval o).run P w=.ok (.enter f args) w) (hv:∀ w,S w→Calls P f args w fun e w'=>e=.returned v∧S w')
def InText (P:Program) (ops:Array Oper) (S:World→Prop) (K:Act→Prop):List Oper→Act→Prop
 | [],a=>K a
 | o :: os,a=>∃ v,Gives P ops S o a v∧InText P ops S K os (a.put o.dst v)
theorem InText.dead {K:Act→Prop} {o:Oper} {os:List Oper} {a:Act} (h:Region.wanted o (yielded ops a.tmps)=false) (hk:InText P ops S K os (a.put o.dst undef)):InText P ops S K (o :: os) a:=⟨undef,.dead h rfl,hk⟩
theorem InText.val {K:Act→Prop} {o:Oper} {os:List Oper} {a:Act} {v:Value} (h:Region.wanted o (yielded ops a.tmps)=true) (hv:∀ w,S w→(execOp a.eval o).run P w=.ok (.value v) w) (hk:InText P ops S K os (a.put o.dst v)):InText P ops S K (o :: os) a:=⟨v,.val h hv,hk⟩
theorem InText.call {K:Act→Prop} {o:Oper} {os:List Oper} {a:Act} {v:Value} {f:FuncId} {args:Array Value} (h:Region.wanted o (yielded ops a.tmps)=true) (hr:∀ w,S w→(execOp a.eval o).run P w=.ok (.enter f args) w) (hv:∀ w,S w→Calls P f args w fun e w'=>e=.returned v∧S w') (hk:InText P ops S K os (a.put o.dst v)):InText P ops S K (o :: os) a:=⟨v,.call h f args hr hv,hk⟩
theorem InText.end_ {K:Act→Prop} {a:Act} (h:K a):InText P ops S K [] a:=h
def stateOf (ops:Array Oper) (V:Nat→Value) (l:Nat→Bool) (a:Act):Nat→Act
 | 0=>a
 | n+1=>if l n=true then (stateOf ops V l a n).put ((ops[n]?).bind (·.dst)) (V n) else stateOf ops V l a n
theorem act_put_size (a:Act) (d:Option Tmp) (v:Value):(a.put d v).tmps.size=a.tmps.size:=by cases d <;> simp [Act.put]
theorem act_put_at (a:Act) (d:Option Tmp) (v:Value) {t:Nat} (h:d≠some t):(a.put d v).tmps[t]? = a.tmps[t]?:=by
 cases d with
 | none=>rfl
 | some x=>exact Array.getElem?_setIfInBounds_ne (fun e=>h (by rw[e]))
theorem act_put_here (a b:Act) (t:Nat) (v:Value) (h:a.tmps.size=b.tmps.size):(a.put (some t) v).tmps[t]? = (b.put (some t) v).tmps[t]?:=by
 simp only [Act.put,Array.getElem?_setIfInBounds_self,h]
theorem stateOf_size (ops:Array Oper) (V:Nat→Value) (l:Nat→Bool) (a:Act):∀ n,(stateOf ops V l a n).tmps.size=a.tmps.size
 | 0=>rfl
 | n+1=>by
   unfold stateOf
   split
   ·rw[act_put_size,stateOf_size]
   ·exact stateOf_size ops V l a n
theorem stateOf_congr (ops:Array Oper) (V:Nat→Value) {l l':Nat→Bool} (a:Act):∀ n,(∀ k,k<n→l k=l' k)→stateOf ops V l a n=stateOf ops V l' a n
 | 0,_=>rfl
 | n+1,h=>by
   unfold stateOf
   rw [h n (Nat.lt_succ_self n),stateOf_congr ops V a n fun k hk=>h k (Nat.lt_succ_of_lt hk)]
theorem stateOf_same (ops:Array Oper) (V:Nat→Value) {l l':Nat→Bool} (a:Act) {t:Nat}:∀ n,(∀ k,k<n→l k≠l' k→(ops[k]?).bind (·.dst)≠some t)→(stateOf ops V l a n).tmps[t]? = (stateOf ops V l' a n).tmps[t]?
 | 0,_=>rfl
 | n + 1,h=>by
   have ih:=stateOf_same ops V (l:=l) (l':=l') a n fun k hk=>h k (Nat.lt_succ_of_lt hk)
   have hs:(stateOf ops V l a n).tmps.size=(stateOf ops V l' a n).tmps.size:=by rw[stateOf_size,stateOf_size]
   unfold stateOf
   by_cases hd:(ops[n]?).bind (·.dst)=some t
   ·have hl:l n=l' n:=Decidable.byContradiction fun hne=>h n (Nat.lt_succ_self n) hne hd
    rw [hl]
    split
    ·rw[hd];exact act_put_here _ _ t (V n) hs
    ·exact ih
   ·split <;> split
    ·rw[act_put_at _ _ _ hd,act_put_at _ _ _ hd];exact ih
    ·rw[act_put_at _ _ _ hd];exact ih
    ·rw[act_put_at _ _ _ hd];exact ih
    ·exact ih
theorem exec_same {o:Oper} (hs:∀ cs b,o.op≠.select cs b) {a b:Act} (h:∀ t∈o.looksAt ops,a.tmps[t]? = b.tmps[t]?):execOp a.eval o=execOp b.eval o∧Region.wanted o (yielded ops a.tmps)=Region.wanted o (yielded ops b.tmps):=by
 constructor
 ·refine execOp_congr o hs fun x hx=>?_
  cases x with
  | tmp t =>
    have:=h t (List.mem_append_left _ (List.mem_filterMap.2 ⟨.tmp t,by simpa using hx,rfl⟩))
    simp only [Act.eval,Array.getD_eq_getD_getElem?,this]
  | _=>rfl
 ·unfold Region.wanted
  cases hg:o.guard with
  | none=>rfl
  | some gw =>
    obtain ⟨g,want⟩:=gw
    have hy:yielded ops a.tmps g=yielded ops b.tmps g:=by
     unfold yielded
     cases ht:(ops[g]?).bind (·.dst) with
     | none=>rfl
     | some t =>
       have:=h t (List.mem_append_right _ (by rw[hg];simp [ht]))
       simp only [Option.bind_some,this]
    simp only [hy]
theorem Gives.same {o:Oper} (hs:∀ cs b,o.op≠.select cs b) {a b:Act} {v:Value} (h:∀ t∈o.looksAt ops,a.tmps[t]? = b.tmps[t]?) (hg:Gives P ops S o a v):Gives P ops S o b v:=by
 obtain ⟨h1,h2⟩:=exec_same hs h
 cases hg with
 | dead h hv=>exact .dead (by rw[← h2];exact h) hv
 | val h hv=>exact .val (by rw[← h2];exact h) (by rw[← h1];exact hv)
 | call h f args hr hv=>exact .call (by rw[← h2];exact h) f args (by rw[← h1];exact hr) hv
theorem Gives.op {o:Oper} {a:Act} {v:Value} {i:Nat} (ho:ops[i]? = some o) (hg:Gives P ops S o a v) {Q:Exit→Act→World→Prop} {K:Act→World→Prop} {w:World} (hS:S w) (h:∀ w',S w'→K (a.put o.dst v) w'):wpOp P ops Q i K a w:=by
 unfold wpOp
 simp only [ho]
 cases hg with
 | dead hw hv =>
   subst hv
   simp only [hw,Bool.false_eq_true,if_false]
   exact h w hS
 | val hw hv =>
   simp only [hw,if_true,Oper.wp,hv w hS,Oper.upon]
   exact .inl (h w hS)
 | call hw f args hr hv =>
   simp only [hw,if_true,Oper.wp,hr w hS,Oper.upon]
   refine .inl ((hv w hS).mono ?_)
   rintro e w' ⟨rfl,hS'⟩
   exact h w' hS'
def flat (ops:Array Oper):Bool:=Region.noSelect ops && (List.range ops.size).all fun j=>match ops[j]? with
 | none=>true
 | some oj=>oj.after.all (fun e=>!Region.binds .any e || decide (e.on<j)) && (List.range j).all fun i=>oj.after.any (fun e=>Region.binds .any e && e.on == i) || match ops[i]? with
   | none=>true
   | some oi=>oi.apart ops oj
theorem flat_edge (hf:flat ops=true) {j:Nat} {oj:Oper} (hj:ops[j]? = some oj):∀ e∈oj.after,Region.binds .any e=true→e.on<j:=fun e he hb=>by
 have h1:=List.all_eq_true.1 (Bool.and_eq_true_iff.1 hf).2 j (List.mem_range.2 (Array.getElem?_eq_some_iff.1 hj).1)
 rw [hj,Bool.and_eq_true] at h1
 have h2:=Array.all_eq_true'.1 h1.1 e he
 rw [hb] at h2
 simpa using h2
theorem flat_pair (hf:flat ops=true) {i j:Nat} {oi oj:Oper} (hi:ops[i]? = some oi) (hj:ops[j]? = some oj) (hij:i<j):(∃ e∈oj.after,Region.binds .any e=true∧e.on=i)∨oi.apart ops oj=true:=by
 have h1:=List.all_eq_true.1 (Bool.and_eq_true_iff.1 hf).2 j (List.mem_range.2 (Array.getElem?_eq_some_iff.1 hj).1)
 rw [hj,Bool.and_eq_true] at h1
 have h2:=List.all_eq_true.1 h1.2 i (List.mem_range.2 hij)
 rw [hi,Bool.or_eq_true] at h2
 rcases h2 with h2 | h2
 ·obtain ⟨e,he,h3⟩:=Array.any_eq_true'.1 h2
  rw [Bool.and_eq_true,beq_iff_eq] at h3
  exact .inl ⟨e,he,h3⟩
 ·exact .inr h2
theorem stateOf_front (ops:Array Oper) (V:Nat→Value) (a:Act) (i:Nat):∀ n,i≤n→stateOf ops V (fun k=>decide (k<i)) a n=stateOf ops V (fun _=>true) a i
 | 0,h=>by
   obtain rfl:i=0:=Nat.le_zero.1 h
   rfl
 | n + 1,h=>by
   rcases Nat.lt_or_ge n i with h1 | h1
   ·obtain rfl:i=n+1:=by omega
    exact stateOf_congr ops V a (n+1) fun k hk=>decide_eq_true hk
   ·show (if decide (n<i)=true then _ else _)=_
    rw [decide_eq_false (Nat.not_lt.2 h1),if_neg (by decide)]
    exact stateOf_front ops V a i n h1
theorem stateOf_put (ops:Array Oper) (V:Nat→Value) {l:Nat→Bool} (a:Act) {i:Nat} (hl:l i=false):∀ n,i<n→(∀ k,i<k→k<n→l k=true→∀ d,(ops[i]?).bind (·.dst)=some d→(ops[k]?).bind (·.dst)≠some d)→(stateOf ops V l a n).put ((ops[i]?).bind (·.dst)) (V i)=stateOf ops V (fun k=>l k || k == i) a n
 | 0,h,_=>absurd h (Nat.not_lt_zero i)
 | n + 1,h,hk=>by
   rcases Nat.lt_or_ge i n with h1 | h1
   ·have ih:=stateOf_put ops V a hl n h1 fun k h2 h3=>hk k h2 (Nat.lt_succ_of_lt h3)
    have hn:(n == i)=false:=beq_eq_false_iff_ne.2 (by omega)
    unfold stateOf
    rw [hn,Bool.or_false,← ih]
    split
    ·rename_i hln
     exact Act.put_comm _ _ _ fun d hd hd'=>hk n h1 (Nat.lt_succ_self n) hln d hd' hd
    ·rfl
   ·obtain rfl:n=i:=by omega
    have e:stateOf ops V (fun k=>l k || k == n) a n=stateOf ops V l a n:=stateOf_congr ops V a n fun k hk=>by
     rw [beq_eq_false_iff_ne.2 (by omega),Bool.or_false]
    unfold stateOf
    rw [hl,if_neg (by decide),e,if_pos (by simp)]
def still (l:Nat→Bool):Nat→Nat
 | 0=>0
 | n+1=>still l n+if l n=true then 0 else 1
theorem still_none {l:Nat→Bool}:∀ n,still l n=0→∀ k,k<n→l k=true
 | 0,_,k,hk=>absurd hk (Nat.not_lt_zero k)
 | n + 1,h,k,hk=>by
   unfold still at h
   have h1:l n=true:=by
    by_cases hl:l n=true
    ·exact hl
    ·rw[if_neg hl] at h;omega
   rcases Nat.lt_or_ge k n with h2 | h2
   ·exact still_none n (by omega) k h2
   ·obtain rfl:k=n:=by omega
    exact h1
theorem still_put {l:Nat→Bool} {i:Nat} (hl:l i=false):∀ n,i<n→still (fun k=>l k || k == i) n+1=still l n
 | 0,h=>absurd h (Nat.not_lt_zero i)
 | n + 1, h=>by
   unfold still
   rcases Nat.lt_or_ge i n with h1 | h1
   ·have:=still_put hl n h1
    rw [beq_eq_false_iff_ne.2 (show n≠i by omega),Bool.or_false]
    omega
   ·obtain rfl:n=i:=by omega
    have e:∀ m,m≤n→still (fun k=>l k || k == n) m=still l m:=fun m=>by
     induction m with
     | zero=>intro _;rfl
     | succ m ih =>
       intro hm
       unfold still
       rw [ih (by omega),beq_eq_false_iff_ne.2 (show m≠n by omega),Bool.or_false]
    rw [e n (Nat.le_refl _),hl]
    simp
theorem still_le (l:Nat→Bool):∀ n,still l n≤n
 | 0=>Nat.le_refl _
 | n+1=>by
   have:=still_le l n
   unfold still
   split <;> omega
theorem wpAny_flat (hf:flat ops=true) {Q:Exit→Act→World→Prop} (V:Nat→Value) (a:Act) (hV:∀ i o,ops[i]? = some o→Gives P ops S o (stateOf ops V (fun _=>true) a i) (V i))
 (hQ:∀ w,S w→Q .normal (stateOf ops V (fun _=>true) a ops.size) w) :
 ∀ n (l:Array Bool) w,l.size=ops.size→still (fun k=>l.getD k false) ops.size≤n→(∀ k o,ops[k]? = some o→l.getD k false=true→∀ e∈o.after,Region.binds .any e=true→l.getD e.on false=true)→S w →
   wpAny P .any ops Q n l (stateOf ops V (fun k=>l.getD k false) a ops.size) w:=by
 have fin:∀ (l:Array Bool) w,(∀ k,k<ops.size→l.getD k false=true)→S w→Q .normal (stateOf ops V (fun k=>l.getD k false) a ops.size) w:=fun l w h hS=>by
  rw [stateOf_congr ops V (l':=fun _=>true) a ops.size h]
  exact hQ w hS
 have unl:∀ {l:Array Bool} {k:Nat},l.size=ops.size→k<ops.size→l.getD k false=false→l.getD k true=false:=fun {l k} hs hk h=>by
  have hlt:k<l.size:=by omega
  simp only [Array.getD,hlt,dif_pos] at h ⊢
  exact h
 have all:∀ (l:Array Bool),l.size=ops.size→Region.ready .any ops l=[]→∀ k,k<ops.size→l.getD k false=true:=fun l hs hr k=>by
  induction k using Nat.strongRecOn with
  | ind k ih =>
    intro hk
    refine Decidable.byContradiction fun hne=>?_
    have ho:=Array.getElem?_eq_getElem hk
    have:k∈Region.ready .any ops l:=mem_ready.2 ⟨unl hs hk (by simpa using hne),_,ho,fun e he hb=>ih e.on (flat_edge hf ho e he hb) (by have:=flat_edge hf ho e he hb;omega)⟩
    rw [hr] at this
    cases this
 intro n
 induction n with
 | zero =>
   intro l w hs hn hd hS
   have h:=still_none ops.size (Nat.le_zero.1 hn)
   refine ⟨?_,fin l w h hS⟩
   refine List.eq_nil_iff_forall_not_mem.2 fun k hk=>?_
   obtain ⟨h1,o,ho,-⟩:=mem_ready.1 hk
   have h2:=h k (Array.getElem?_eq_some_iff.1 ho).1
   have hlt:k<l.size:=by have:=(Array.getElem?_eq_some_iff.1 ho).1;omega
   simp only [Array.getD,hlt,dif_pos] at h1 h2
   exact absurd (h1.symm.trans h2) (by decide)
 | succ n ih =>
   intro l w hs hn hd hS
   refine ⟨fun hr=>fin l w (all l hs hr) hS,fun i hi=>?_⟩
   obtain ⟨h1,o,ho,hdep⟩:=mem_ready.1 hi
   have hin:=(Array.getElem?_eq_some_iff.1 ho).1
   have hil:i<l.size:=by omega
   have hi0:l.getD i false=false:=by
    simp only [Array.getD,hil,dif_pos] at h1 ⊢
    exact h1
   have hset:∀ k,(l.setIfInBounds i true).getD k false=(l.getD k false || k == i):=fun k=>by
    rw [Array.getD_eq_getD_getElem?,Array.getD_eq_getD_getElem?]
    by_cases hki:k=i
    ·subst hki
     rw [Array.getElem?_setIfInBounds_self]
     simp [hil]
    ·rw[Array.getElem?_setIfInBounds_ne (Ne.symm hki),beq_eq_false_iff_ne.2 hki,Bool.or_false]
   have hsel:=Region.noSelect_spec (Bool.and_eq_true_iff.1 hf).1 i o
   have hg:=hV i o ho
   rw [← stateOf_front ops V a i ops.size (Nat.le_of_lt hin)] at hg
   have hg2 : Gives P ops S o (stateOf ops V (fun k=>l.getD k false) a ops.size) (V i):=hg.same (fun cs b=>hsel cs b ho) fun t ht=>stateOf_same ops V a ops.size fun k hk hne hdk=>by
    have hok:=Array.getElem?_eq_getElem hk
    rw [hok] at hdk
    simp only [Option.bind_some] at hdk
    rcases Nat.lt_trichotomy k i with hki | hki | hki
    ·rcases flat_pair hf hok ho hki with ⟨e,he,hb,rfl⟩ | hap
     ·have h2:=hdep e he hb
      simp only [h2,decide_eq_true hki] at hne
      exact hne rfl
     ·exact (Oper.apart_spec hap).1 t hdk ht
    ·subst hki
     simp only [hi0,decide_eq_false (Nat.lt_irrefl k)] at hne
     exact hne rfl
    ·rcases flat_pair hf ho hok hki with ⟨e,he,hb,rfl⟩ | hap
     ·have hlk:l.getD k false=true:=by
       cases hx:l.getD k false with
       | true=>rfl
       | false=>simp only [hx,decide_eq_false (Nat.not_lt.2 (Nat.le_of_lt hki))] at hne;exact absurd rfl hne
      have h2:=hd k _ hok hlk e he hb
      rw [hi0] at h2
      cases h2
     ·exact (Oper.apart_spec hap).2.2 t hdk ht
   refine hg2.op ho hS fun w' hS'=>?_
   have hput:=stateOf_put ops V (l:=fun k=>l.getD k false) a hi0 ops.size hin fun k hik hk hlk d hdi hdk=>by
    have hok:=Array.getElem?_eq_getElem hk
    rw [ho] at hdi
    rw [hok] at hdk
    simp only [Option.bind_some] at hdi hdk
    rcases flat_pair hf ho hok hik with ⟨e,he,hb,rfl⟩ | hap
    ·have h2:=hd k _ hok hlk e he hb
     rw [hi0] at h2
     cases h2
    ·exact (Oper.apart_spec hap).2.1 d hdi hdk
   rw [ho] at hput
   simp only [Option.bind_some] at hput
   rw [hput,← stateOf_congr ops V (l:=fun k=>(l.setIfInBounds i true).getD k false) a ops.size fun k _=>hset k]
   refine ih (l.setIfInBounds i true) w' (by simpa using hs) ?_ ?_ hS'
   ·have h2:=still_put (l:=fun k=>l.getD k false) hi0 ops.size hin
    have h3:still (fun k=>(l.setIfInBounds i true).getD k false) ops.size=still (fun k=>l.getD k false || k == i) ops.size:=congrArg (still · ops.size) (funext hset)
    omega
   ·intro k ok hok hlk e he hb
    rw [hset] at hlk ⊢
    rw [Bool.or_eq_true] at hlk ⊢
    rcases hlk with hlk | hlk
    ·exact .inl (hd k ok hok hlk e he hb)
    ·obtain rfl:k=i:=by simpa using hlk
     rw [ho] at hok
     cases hok
     exact .inl (hdep e he hb)
def runTo (os:List Oper) (V:Nat→Value) (a:Act):Nat→Act
 | 0=>a
 | j+1=>(runTo os V a j).put ((os[j]?).bind (·.dst)) (V j)
theorem runTo_cons (o:Oper) (os:List Oper) (v:Value) (V:Nat→Value) (a:Act):∀ j,runTo (o :: os) (fun k=>match k with | 0=>v | k+1=>V k) a (j+1)=runTo os V (a.put o.dst v) j
 | 0=>rfl
 | j+1=>by
   show (runTo (o :: os) _ a (j+1)).put _ _=(runTo os V (a.put o.dst v) j).put _ _
   rw [runTo_cons o os v V a j]
   rfl
theorem InText.values {K:Act→Prop}:∀ (os:List Oper) (a:Act),InText P ops S K os a→∃ V:Nat→Value,(∀ j o,os[j]? = some o→Gives P ops S o (runTo os V a j) (V j))∧K (runTo os V a os.length)
 | [],a,h=>⟨fun _=>undef,fun j o h=>(by cases h),h⟩
 | o :: os,a,⟨v,h1,h2⟩=>by
   obtain ⟨V,h3,h4⟩:=InText.values os (a.put o.dst v) h2
   refine ⟨fun k=>match k with | 0=>v | k+1=>V k,fun j o' ho=>?_,?_⟩
   ·cases j with
    | zero =>
      cases ho
      exact h1
    | succ j =>
      rw [runTo_cons]
      exact h3 j o' ho
   ·show K (runTo (o :: os) _ a (os.length+1))
    rw [runTo_cons]
    exact h4
theorem runTo_state (V:Nat→Value) (a:Act):∀ j,stateOf ops V (fun _=>true) a j=runTo ops.toList V a j
 | 0=>rfl
 | j+1=>by
   show (if true=true then _ else _)=_
   rw [if_pos rfl,runTo_state V a j]
   show _=(runTo ops.toList V a j).put ((ops.toList[j]?).bind (·.dst)) (V j)
   rw [Array.getElem?_toList]
theorem region_in_text {Q:Exit→Act→World→Prop} {os:List Oper} {id:Nat} {a:Act} {w:World} (S:World→Prop) (hm:P.follows .mixedOrders=true) (hf:flat os.toArray=true) (hS:S w.drew) (h:InText P os.toArray S (fun b=>∀ w',S w'→Q .normal b w') os a):(Code.region id os.toArray true).wp P Q a w:=by
 obtain ⟨V,h1,h2⟩:=InText.values os a h
 refine wp_region_any hm ?_
 have h3:=wpAny_flat (ops:=os.toArray) hf (Q:=Q) V a (fun i o ho=>by rw[runTo_state];exact h1 i o (by simpa using ho)) (fun w' hS'=>by rw[runTo_state];exact h2 w' hS') os.toArray.size (Array.replicate os.toArray.size false) w.drew (by simp) (still_le _ _) (fun k o hk hl=>by
  rw [Array.getD_eq_getD_getElem?,Array.getElem?_replicate] at hl
  split at hl <;> cases hl) hS
 have h4:stateOf os.toArray V (fun k=>(Array.replicate os.toArray.size false).getD k false) a os.toArray.size=a:=by
  have : ∀ n,stateOf os.toArray V (fun k=>(Array.replicate os.toArray.size false).getD k false) a n=a:=fun n=>by
   induction n with
   | zero=>rfl
   | succ n ih =>
     unfold stateOf
     rw [if_neg,ih]
     rw [Array.getD_eq_getD_getElem?,Array.getElem?_replicate]
     split <;> decide
  exact this _
 rw [h4] at h3
 exact h3
theorem InText.list {Q:Exit→Act→World→Prop}:∀ (os:List Oper) (a:Act),InText P ops S (fun b=>∀ w',S w'→Q .normal b w') os a→∀ w,S w→wpList P ops Q os a w
 | [],_,h,w,hS=>h w hS
 | o :: os,a,⟨v,hg,hk⟩,w,hS=>by
   have next:∀ w',S w'→wpList P ops Q os (a.put o.dst v) w':=fun w' hS'=>InText.list os _ hk w' hS'
   unfold wpList
   cases hg with
   | dead hw hv =>
     subst hv
     simp only [hw,Bool.false_eq_true,if_false]
     exact next w hS
   | val hw hv =>
     simp only [hw,if_true,Oper.wp,hv w hS,Oper.upon]
     exact .inl (next w hS)
   | call hw f args hr hv =>
     simp only [hw,if_true,Oper.wp,hr w hS,Oper.upon]
     refine .inl ((hv w hS).mono ?_)
     rintro e w' ⟨rfl,hS'⟩
     exact next w' hS'
theorem region_straight {Q:Exit→Act→World→Prop} {os:List Oper} {id:Nat} {a:Act} {w:World} (S:World→Prop) (hS:S w) (h:InText P os.toArray S (fun b=>∀ w',S w'→Q .normal b w') os a):(Code.region id os.toArray false).wp P Q a w :=
 wp_region_lit (h.list os a w hS)
end
end Go.Proofs.YtncphjodaklleaaGreat
