/-
 Texts of this claim, merged: TbMade, PlRItB.
-/
import Derived.Test.YtncphjodaklleaaGreatMg09
import Derived.Test.YtncphjodaklleaaGreatMg10
set_option maxHeartbeats 8000000
set_option maxRecDepth 100000
namespace Go.Proofs.YtncphjodaklleaaGreat
open Go.RowKit
theorem sheet_fits {l:List UInt8} {L:List It.Itm} (h:Sh.parse l=(L,0)):∀ y∈L,FitsR y:=fun y hy=>by
 have:=sheet_right l y (by rw[h];exact hy)
 exact (right_le8 this).1.fits
theorem set6_heap {W:World} {B b:Nat} {v0 v1 v2 v3 v4 v5:Value} (h:b≠B) :
 ((((((W.setCell ⟨B,0,none⟩ v0).setCell ⟨B,1,none⟩ v1).setCell ⟨B,2,none⟩ v2).setCell ⟨B,3,none⟩ v3).setCell ⟨B,4,none⟩ v4).setCell ⟨B,5,none⟩ v5).drew.heap[b]? = W.heap[b]?:=by
 have e:∀ X:World,X.drew.heap=X.heap:=fun _=>rfl
 rw [e]
 exact set6_other h
theorem set6_cell {W:World} {B b o:Nat} {v0 v1 v2 v3 v4 v5:Value} (h:B≠b) :
 ((((((W.setCell ⟨B,0,none⟩ v0).setCell ⟨B,1,none⟩ v1).setCell ⟨B,2,none⟩ v2).setCell ⟨B,3,none⟩ v3).setCell ⟨B,4,none⟩ v4).setCell ⟨B,5,none⟩ v5).drew.cell? ⟨b,o,none⟩ = W.cell? ⟨b,o,none⟩:=by
 rw [World.cell?_drew]
 exact World.cell?_of_block (a:=⟨b,o,none⟩) (set6_other (fun e=>h e.symm))
theorem made_some {s:ByteArray} {p:Pl.Plan} (h:madeP s.data.toList=some p) (w:World):Calls Tryz.prog 7 #[.string s] w (MadeYes p w):=by
 unfold madeP at h
 split at h
 ·rename_i h2
  obtain rfl:=Option.some.inj h
  obtain ⟨hs,hz⟩:=h2
  have hsz:s.data.toList.length=s.size:=by simp
  have h1:decide (1500<(s.size:Int))=false:=dec_f (by omega)
  have hfew:=sheet_few s.data.toList
  rcases sheet_ways s.data.toList with hp | ⟨k,hp⟩
  ·have P:Pl.builtP s.data.toList=Pl.build (Sh.parse s.data.toList).1:=by unfold Pl.builtP;rw[if_pos (by rw[hp])]
   have HR:=Lib.hid (sheet_fits hp)
   have C:=Lib.hid (fun W=>sheet_yes hp (by omega) W)
   rw [P] at hz ⊢
   obtain ⟨-,-,hb⟩:=Pl.build_zero hz
   generalize (Sh.parse s.data.toList).1=L at hp hfew HR C hb
   rw [hb]
   have HB:=Lib.hid hb
   have gZ0:w.heap.size<(w.alloc planZ).heap.size:=by simp
   have X1:=Lib.hid ((Below.refl w.heap.size w).alloc (Nat.le_refl _) planZ)
   have H0:=Lib.hid (heap_alloc_new w planZ)
   clear P hp h hz hb
   go_enter Tryz.func7,Tryz.ntmps7
   go_wp2_with fail
   refine (C.out _).mono ?_;rintro e w1 ⟨A,c,hc,rfl,its,hb1⟩
   have HB2:=Lib.hid (hb1.alloc hb1.size faultZ)
   have IT2:=Lib.hid (its.below rfl ((Below.refl w1.heap.size w1).alloc (Nat.le_refl _) faultZ))
   have kf:=Lib.hid (heap_alloc_new w1 faultZ)
   have PB:=Lib.hid (rpBuild_any rpSorted_any A c L (w1.alloc faultZ) IT2.out (by omega) HR.out)
   rw [HB.out] at PB
   have gz1:w.heap.size<w1.heap.size:=by have:=hb1.size;simp at this;omega
   clear its hb1 hc
   go_wp2_with fail
   refine PB.out.mono ?_;rintro e w3 ⟨S,cS,G,cG,l1,l2,rfl,rS,rG,hb3⟩
   obtain ⟨RP,RF,X3,XS⟩:=two_blocks w3 (planO (Pl.fin L) S cS G cG) faultZ
   have BB:=hb3.trans (X3.mono hb3.size)
   have B1:=Lib.hid (HB2.out.trans (BB.mono HB2.out.size))
   have hF:=(BB.block _ (by simp)).trans kf.out
   have hP:=(B1.out.block _ gZ0).trans H0.out
   have hz3:w1.heap.size<w3.heap.size:=by have:=hb3.size;simp at this;omega
   have hx0:w.heap.size≠w1.heap.size:=by omega
   have hx1:w.heap.size≠w3.heap.size:=by omega
   have hx2:w.heap.size≠w3.heap.size+1:=by omega
   obtain ⟨⟨q0,q1,q2,q3,q4,q5⟩,⟨e0,e1,e2,e3,e4,e5⟩,gq⟩:=row6 hP
   obtain ⟨⟨t0,t1⟩,gt⟩:=row2c hF
   obtain ⟨⟨u0,u1⟩,gu⟩:=row2c RF
   obtain ⟨⟨p0,p1,p2,p3,p4,p5⟩,-,gp⟩:=row6 RP
   have RS:=Lib.hid (rS.below rfl X3)
   have RG:=Lib.hid (rG.below rfl X3)
   have HP:=Lib.hid hP
   have K0:=Lib.hid (show (fun w':World=>(w'.cell? ⟨w3.heap.size,0,none⟩ = some (.int .i64 (Pl.fin L).ov)∧w'.cell? ⟨w3.heap.size,1,none⟩ = some (.int .i64 (Pl.fin L).ap)∧w'.cell? ⟨w3.heap.size,2,none⟩ = some (.int .i64 (Pl.fin L).se)∧w'.cell? ⟨w3.heap.size,3,none⟩ = some (.int .i64 (Pl.fin L).ho)∧w'.cell? ⟨w3.heap.size,4,none⟩ = some (.slice S (Pl.fin L).secs.length cS)∧w'.cell? ⟨w3.heap.size,5,none⟩ = some (.slice G (Pl.fin L).sigs.length cG))∧w'.cell? ⟨w1.heap.size,0,none⟩ = some (.int .i64 0)∧w'.cell? ⟨w3.heap.size+1,0,none⟩ = some (.int .i64 0)) ((w3.alloc (planO (Pl.fin L) S cS G cG)).alloc faultZ).drew from ⟨⟨p0,p1,p2,p3,p4,p5⟩,t0,u0⟩)
   have K00:=Lib.hid (show (fun w':World=>(w'.cell? ⟨w3.heap.size,0,none⟩ = some (.int .i64 (Pl.fin L).ov)∧w'.cell? ⟨w3.heap.size,1,none⟩ = some (.int .i64 (Pl.fin L).ap)∧w'.cell? ⟨w3.heap.size,2,none⟩ = some (.int .i64 (Pl.fin L).se)∧w'.cell? ⟨w3.heap.size,3,none⟩ = some (.int .i64 (Pl.fin L).ho)∧w'.cell? ⟨w3.heap.size,4,none⟩ = some (.slice S (Pl.fin L).secs.length cS)∧w'.cell? ⟨w3.heap.size,5,none⟩ = some (.slice G (Pl.fin L).sigs.length cG))∧w'.cell? ⟨w1.heap.size,0,none⟩ = some (.int .i64 0)∧w'.cell? ⟨w3.heap.size+1,0,none⟩ = some (.int .i64 0)) ((w3.alloc (planO (Pl.fin L) S cS G cG)).alloc faultZ) from ⟨⟨p0,p1,p2,p3,p4,p5⟩,t0,u0⟩)
   have K1:=Lib.hid (fun (w':World) (v0 v1 v2 v3 v4 v5:Value) (h:(fun w':World=>(w'.cell? ⟨w3.heap.size,0,none⟩ = some (.int .i64 (Pl.fin L).ov)∧w'.cell? ⟨w3.heap.size,1,none⟩ = some (.int .i64 (Pl.fin L).ap)∧w'.cell? ⟨w3.heap.size,2,none⟩ = some (.int .i64 (Pl.fin L).se)∧w'.cell? ⟨w3.heap.size,3,none⟩ = some (.int .i64 (Pl.fin L).ho)∧w'.cell? ⟨w3.heap.size,4,none⟩ = some (.slice S (Pl.fin L).secs.length cS)∧w'.cell? ⟨w3.heap.size,5,none⟩ = some (.slice G (Pl.fin L).sigs.length cG))∧w'.cell? ⟨w1.heap.size,0,none⟩ = some (.int .i64 0)∧w'.cell? ⟨w3.heap.size+1,0,none⟩ = some (.int .i64 0)) w')=>show (fun w':World=>(w'.cell? ⟨w3.heap.size,0,none⟩ = some (.int .i64 (Pl.fin L).ov)∧w'.cell? ⟨w3.heap.size,1,none⟩ = some (.int .i64 (Pl.fin L).ap)∧w'.cell? ⟨w3.heap.size,2,none⟩ = some (.int .i64 (Pl.fin L).se)∧w'.cell? ⟨w3.heap.size,3,none⟩ = some (.int .i64 (Pl.fin L).ho)∧w'.cell? ⟨w3.heap.size,4,none⟩ = some (.slice S (Pl.fin L).secs.length cS)∧w'.cell? ⟨w3.heap.size,5,none⟩ = some (.slice G (Pl.fin L).sigs.length cG))∧w'.cell? ⟨w1.heap.size,0,none⟩ = some (.int .i64 0)∧w'.cell? ⟨w3.heap.size+1,0,none⟩ = some (.int .i64 0)) ((((((w'.setCell ⟨w.heap.size,0,none⟩ v0).setCell ⟨w.heap.size,1,none⟩ v1).setCell ⟨w.heap.size,2,none⟩ v2).setCell ⟨w.heap.size,3,none⟩ v3).setCell ⟨w.heap.size,4,none⟩ v4).setCell ⟨w.heap.size,5,none⟩ v5).drew from
    ⟨⟨(set6_cell hx1).trans h.1.1,(set6_cell hx1).trans h.1.2.1,(set6_cell hx1).trans h.1.2.2.1,(set6_cell hx1).trans h.1.2.2.2.1,(set6_cell hx1).trans h.1.2.2.2.2.1,(set6_cell hx1).trans h.1.2.2.2.2.2⟩,(set6_cell hx0).trans h.2.1,(set6_cell hx2).trans h.2.2⟩)
   clear rS rG hb3 X3 BB hF hP RP RF PB kf H0 IT2 C HR HB l1 l2 hz3 gz1 hfew
   go_wp2_with fail
   clear p0 p1 p2 p3 p4 p5 t0 t1 u0 u1 hx0 hx1 hx2
   go_region_held3 (fun w'=>(w'.cell? ⟨w3.heap.size,0,none⟩ = some (.int .i64 (Pl.fin L).ov)∧w'.cell? ⟨w3.heap.size,1,none⟩ = some (.int .i64 (Pl.fin L).ap)∧w'.cell? ⟨w3.heap.size,2,none⟩ = some (.int .i64 (Pl.fin L).se)∧w'.cell? ⟨w3.heap.size,3,none⟩ = some (.int .i64 (Pl.fin L).ho)∧w'.cell? ⟨w3.heap.size,4,none⟩ = some (.slice S (Pl.fin L).secs.length cS)∧w'.cell? ⟨w3.heap.size,5,none⟩ = some (.slice G (Pl.fin L).sigs.length cG))∧w'.cell? ⟨w1.heap.size,0,none⟩ = some (.int .i64 0)∧w'.cell? ⟨w3.heap.size+1,0,none⟩ = some (.int .i64 0))
    (first | with_reducible exact K0.out | with_reducible exact K1.out _ _ _ _ _ _ _ K00.out)
    (fail)
   all_goals go_wp2_with fail
   all_goals refine bodyPost_ret ?_ rfl ⟨S,cS,G,cG,rfl,⟨?_,?_⟩,?_⟩
   all_goals first
    | (simp [results,Tryz.results7,go_sem, *];done)
    | exact row_same RS.out (by simp) fun hn b o hA=>set6_heap (row_not sec_text RS.out hn hA HP.out no_text6)
    | exact row_same RG.out (by simp) fun hn b o hA=>set6_heap (row_not sig_text RG.out hn hA HP.out no_text6)
    | ((repeat (first | (with_reducible refine Below.drew ?_) | (with_reducible refine Below.setCell ?_ (by exact Nat.le_refl _) _)));exact X1.out.trans (B1.out.mono X1.out.size))
    | trace_state
  ·have:(Pl.builtP s.data.toList).2.1=2:=by unfold Pl.builtP;rw[hp];rfl
   omega
 ·cases h
def Apart (v v':Value):Prop:=∀ b,v.ownBlock=some b→v'.ownBlock≠some b
theorem Apart.symm {v v':Value} (h:Apart v v'):Apart v' v:=fun b h1 h2=>h b h2 h1
theorem Apart.ne {v v':Value} (h:Apart v v'):v'.ownBlock=none∨v'.ownBlock≠v.ownBlock:=by
 cases hv:v'.ownBlock with
 | none=>exact .inl rfl
 | some b=>exact .inr fun e=>h b e.symm hv
theorem Apart.nil (v:Value):Apart v (.slice none 0 0):=fun _ _ h=>by cases h
theorem Apart.grown {w:World} {v v' v2:Value} {base n:Nat} {e:TypeId} {size:Nat} {xs:List Value} (h:Apart v v2) (h2:w.ownsRow base e size v2 n xs) {g:Nat} (hb:v'.ownBlock=some g) (hg:v.ownBlock=some g∨g=w.heap.size):Apart v' v2:=fun b h1 h3=>by
 rw [hb] at h1
 cases h1
 rcases hg with hg | hg
 ·exact h _ hg h3
 ·have:=(h2.lt _ h3).2
  omega
structure R3 (w wr:World) (O O2:Obj) (v1 v2 v3:Value) (X J S:List It.Itm):Prop where
 bel:Below w.heap.size w wr
 box:wr.heap[w.heap.size]? = some O
 box2:wr.heap[w.heap.size+1]? = some O2
 o1:wr.ownsRow (w.heap.size+2) 93 7 v1 X.length (cellsL X)
 o2:wr.ownsRow (w.heap.size+2) 93 7 v2 J.length (cellsL J)
 o3:wr.ownsRow (w.heap.size+2) 93 7 v3 S.length (cellsL S)
 a12:Apart v1 v2
 a13:Apart v1 v3
 a23:Apart v2 v3
theorem R3.start {w wr:World} {O O2:Obj} (h1:Below w.heap.size w wr) (h2:wr.heap[w.heap.size]? = some O) (h3:wr.heap[w.heap.size+1]? = some O2):R3 w wr O O2 (.slice none 0 0) (.slice none 0 0) (.slice none 0 0) [] [] [] :=
 ⟨h1,h2,h3,World.ownsRow_nil _ _ _ _,World.ownsRow_nil _ _ _ _,World.ownsRow_nil _ _ _ _,.nil _,.nil _,.nil _⟩
theorem R3.lt {w wr:World} {O O2:Obj} {v1 v2 v3:Value} {X J S:List It.Itm} (h:R3 w wr O O2 v1 v2 v3 X J S):w.heap.size+1<wr.heap.size:=(Array.getElem?_eq_some_iff.1 h.box2).1
theorem R3.below {w wr w2:World} {O O2:Obj} {v1 v2 v3:Value} {X J S:List It.Itm} (h:R3 w wr O O2 v1 v2 v3 X J S) (hb:Below wr.heap.size wr w2):R3 w w2 O O2 v1 v2 v3 X J S :=
 ⟨h.bel.trans (hb.mono h.bel.size),(hb.block _ (Nat.lt_of_succ_lt h.lt)).trans h.box,(hb.block _ h.lt).trans h.box2,ownsRow_below h.o1 hb,ownsRow_below h.o2 hb,ownsRow_below h.o3 hb,h.a12,h.a13,h.a23⟩
theorem R3.bel_grown {w wr w2:World} {O O2:Obj} {v1 v2 v3 v:Value} {X J S:List It.Itm} (h:R3 w wr O O2 v1 v2 v3 X J S) (hg:wr.grownBy w2 v.ownBlock) (hv:∀ k,v.ownBlock=some k→w.heap.size+2≤k):Below w.heap.size w w2∧w2.heap[w.heap.size]? = some O∧w2.heap[w.heap.size+1]? = some O2:=by
 have hl:=h.lt
 refine ⟨h.bel.grown hg (by omega) (fun k hk=>by have:=hv k hk;omega),?_,?_⟩
 ·rw[hg.block _ (by omega) (fun e=>by have:=hv _ e.symm;omega)];exact h.box
 ·rw[hg.block _ hl (fun e=>by have:=hv _ e.symm;omega)];exact h.box2
theorem own_snoc {w2:World} {base:Nat} {v:Value} {n:Nat} {X:List It.Itm} {y:It.Itm} (hn:n=X.length) (h:w2.ownsRow base 93 7 v (n+1) (cellsL X++LItm.all [y])):w2.ownsRow base 93 7 v (X++[y]).length (cellsL (X++[y])):=by
 subst hn
 rw [List.length_append,List.length_singleton,cellsL_append]
 exact h
theorem R3.one {w wr w2:World} {O O2:Obj} {v1 v2 v3 v':Value} {X J S:List It.Itm} {y:It.Itm} {g:Nat} (h:R3 w wr O O2 v1 v2 v3 X J S) (ho:w2.ownsRow (w.heap.size+2) 93 7 v' (X.length+1) (cellsL X++LItm.all [y])) (hg:wr.grownBy w2 v1.ownBlock) (hb:v'.ownBlock=some g) (hgg:v1.ownBlock=some g∨g=wr.heap.size):R3 w w2 O O2 v' v2 v3 (X++[y]) J S:=by
 obtain ⟨b1,b2,b3⟩:=h.bel_grown hg fun k hk=>(h.o1.lt k hk).1
 exact ⟨b1,b2,b3,own_snoc rfl ho,h.o2.kept hg h.a12.ne,h.o3.kept hg h.a13.ne,h.a12.grown h.o2 hb hgg,h.a13.grown h.o3 hb hgg,h.a23⟩
theorem R3.two {w wr w2:World} {O O2:Obj} {v1 v2 v3 v':Value} {X J S:List It.Itm} {y:It.Itm} {g:Nat} (h:R3 w wr O O2 v1 v2 v3 X J S) (ho:w2.ownsRow (w.heap.size+2) 93 7 v' (J.length+1) (cellsL J++LItm.all [y])) (hg:wr.grownBy w2 v2.ownBlock) (hb:v'.ownBlock=some g) (hgg:v2.ownBlock=some g∨g=wr.heap.size):R3 w w2 O O2 v1 v' v3 X (J++[y]) S:=by
 obtain ⟨b1,b2,b3⟩:=h.bel_grown hg fun k hk=>(h.o2.lt k hk).1
 exact ⟨b1,b2,b3,h.o1.kept hg h.a12.symm.ne,own_snoc rfl ho,h.o3.kept hg h.a23.ne,(h.a12.symm.grown h.o1 hb hgg).symm,h.a13,h.a23.grown h.o3 hb hgg⟩
theorem R3.st {w wr:World} {O O2:Obj} {v1 v2 v3:Value} {X J S:List It.Itm} (h:R3 w wr O O2 v1 v2 v3 X J S):ItSt w wr O v1 X:=⟨h.bel,h.box,own_mono h.o1 (Nat.le_succ _)⟩
end Go.Proofs.YtncphjodaklleaaGreat
