/-
  Texts of this claim, merged: FlProg, NrTab.
-/
import Derived.Test.YtpdfbnolhpakoaaGreatMg03
import Derived.Test.YtpdfbnolhpakoaaGreatMg19
import Derived.Test.YtpdfbnolhpakoaaGreatMg22
import Derived.Test.YtpdfbnolhpakoaaGreatMg25
namespace Go.Proofs.YtpdfbnolhpakoaaGreat
open Go.RowKit
theorem Dm.ofSteps_good (p:Pl.Plan) (L:List Wk.Stp):Dm.Good (Dm.ofSteps p L):=by
  have : ∀ (l:List Wk.Stp) (D:List Dm.Dem),Dm.Good D→Dm.Good (l.foldl (fun out x=>if 0<Wk.position p x then Dm.put out ⟨x.s,Wk.position p x⟩ else out) D):=by
    intro l
    induction l with
    | nil=>intro D h;exact h
    | cons x l ih =>
      intro D h
      refine ih _ ?_
      by_cases hp:0<Wk.position p x
      · simp only [if_pos hp]
        exact h.put (by show Wk.position p x≠0;omega)
      · simp only [if_neg hp];exact h
  exact this L [] Dm.Good.nil
namespace Fl
theorem upTo_good {p:Pl.Plan} (hall:∀ s e,(Wk.next p s e).2.1=1∨(Wk.next p s e).2.1=2∨(Wk.next p s e).2.1=0) (own:List Wk.Stp):∀ k,k≤own.length→Dm.Good (upTo p own k).pts
  | 0,_=>Dm.ofSteps_good p own
  | k+1,h=>by
    rw [upTo_next (List.getElem?_eq_getElem (show k<own.length by omega))]
    have h1:=upTo_good hall own k (by omega)
    unfold one
    split
    · exact (on_keeps p own 9 _ _ _ (hall _ _) hall).good h1
    · exact h1
theorem upTo_go {p:Pl.Plan} (hall:∀ s e,(Wk.next p s e).2.1=1∨(Wk.next p s e).2.1=2∨(Wk.next p s e).2.1=0) {own:List Wk.Stp} {k:Nat} {y:Wk.Stp} (hk:own[k]? = some y) (hpos:0<Wk.position p y) {R:List Int} (hR:R.foldl put []=(upTo p own k).fl) :
    (upTo p own (k+1)).pts=(go p own 9 y.s (3 - Wk.position p y) ⟨(upTo p own k).pts,[],[]⟩).pts∧(R++(go p own 9 y.s (3 - Wk.position p y) ⟨(upTo p own k).pts,[],[]⟩).fl).foldl put []=(upTo p own (k+1)).fl:=by
  have hg:=upTo_good hall own k (Nat.le_of_lt (List.getElem?_eq_some_iff.1 hk).1)
  have e:=(on_go p own hall 9 y.s (3 - Wk.position p y) ⟨(upTo p own k).pts,[],[]⟩ (upTo p own k).fl hg).2
  have e2:upTo p own (k+1)=on p own 9 y.s (3 - Wk.position p y) (sh (upTo p own k).fl ⟨(upTo p own k).pts,[],[]⟩):=by
    rw [upTo_next hk]
    unfold one
    rw [if_pos hpos]
    rfl
  rw [← e] at e2
  rw [e2]
  refine ⟨rfl,?_⟩
  rw [List.foldl_append,hR]
  rfl
end Fl
structure FlLoop (p:Pl.Plan) (own:List Wk.Stp) (N:Nat) (w3 w':World) (k:Nat) (Bp:Option Addr) (dp:Nat) (vR:Value) (R:List Int):Prop where
  below:Below w3.heap.size w3 w'
  pts:LDem.Row w' Bp (Fl.upTo p own k).pts
  l1:(Fl.upTo p own k).pts.length≤dp
  n1:(Fl.upTo p own k).pts≠[]→∀ a,Bp=some a→N≤a.block∧vR.ownBlock≠some a.block∧a.block<w'.heap.size
  row:w'.ownsRow w3.heap.size 3 LNum.m vR R.length (LNum.all R)
  fl:R.foldl Fl.put []=(Fl.upTo p own k).fl
  len:R.length≤8 * k
theorem FlLoop.next {p:Pl.Plan} {own:List Wk.Stp} {N:Nat} {w3 w' w2:World} {k:Nat} {Bp:Option Addr} {dp:Nat} {vR:Value} {R:List Int} (h:FlLoop p own N w3 w' k Bp dp vR R) (hb:Below w'.heap.size w' w2):FlLoop p own N w3 w2 k Bp dp vR R :=
  ⟨h.below.trans (hb.mono h.below.size),h.pts.below rfl hb,h.l1,fun hz a ha=>⟨(h.n1 hz a ha).1,(h.n1 hz a ha).2.1,Nat.lt_of_lt_of_le (h.n1 hz a ha).2.2 hb.size⟩,ownsRow_below h.row hb,h.fl,h.len⟩
theorem FlLoop.round {p:Pl.Plan} {own:List Wk.Stp} {N:Nat} {w3 w5 w7 w8:World} {k:Nat} {Bp:Option Addr} {dp:Nat} {vR:Value} {R r:List Int} (h:FlLoop p own N w3 w5 k Bp dp vR R) (hb:Below w5.heap.size w5 w7) {V V':SchV} {v':Value} {L:List Dm.Dem} (hL:L=(Fl.upTo p own (k+1)).pts) (hV:V.B1=Bp) (hP:PtsNew V V' (Fl.upTo p own k).pts L w5) (hl:L.length≤V'.d1) (hr7:LDem.Row w7 V'.B1 L) (hlt:L≠[]→∀ a,V'.B1=some a→a.block<w7.heap.size) (hN:N≤w5.heap.size)
    (hown:w8.ownsRow w3.heap.size 3 LNum.m v' (R.length+r.length) (LNum.all R++LNum.all r)) (hg:w7.grownBy w8 vR.ownBlock) (hv:∀ j,v'.ownBlock=some j→vR.ownBlock=some j∨w7.heap.size≤j) (hf:(R++r).foldl Fl.put []=(Fl.upTo p own (k+1)).fl) (hr:r.length≤8):FlLoop p own N w3 w8 (k+1) V'.B1 V'.d1 v' (R++r):=by
  have hB7:=h.below.trans (hb.mono h.below.size)
  have hrow7:=ownsRow_below h.row hb
  have hsep:L≠[]→∀ a,V'.B1=some a→N≤a.block∧vR.ownBlock≠some a.block:=fun hz a ha=>by
    rcases hP with ⟨h1,h2⟩ | h1
    · have:=h.n1 (by rw[← h2];exact hz) a (by rw[← hV,← h1];exact ha)
      exact ⟨this.1,this.2.1⟩
    · have h2:=h1 a ha
      exact ⟨Nat.le_trans hN h2,fun e=>by have:=(h.row.lt _ e).2;omega⟩
  subst hL
  refine ⟨hB7.grown hg hB7.size fun j hj=>(hrow7.lt j hj).1,hr7.kept hg.size fun hz a ha=>hg.block _ (hlt hz a ha) fun e=>(hsep hz a ha).2 e.symm,hl,fun hz a ha=>⟨(hsep hz a ha).1,fun e=>?_,Nat.lt_of_lt_of_le (hlt hz a ha) hg.size⟩,by rw[List.length_append,LNum.all_append];exact hown,hf,by rw[List.length_append];have:=h.len;omega⟩
  rcases hv _ e with e | e
  · exact (hsep hz a ha).2 e
  · have:=hlt hz a ha;omega
theorem pfConcat2 (w:World) (S T:List Wk.Stp) (B1 B2:Option Addr) (d1 d2:Nat) (hS:LStp.Row w B1 S) (hT:LStp.Row w B2 T) (h0:0<S.length) (hl:S.length+T.length≤90) :
    Calls Tryz.prog 46 #[.slice (some ⟨w.heap.size,0,none⟩) 2 2] (w.alloc (.cells #[.slice B1 S.length d1,.slice B2 T.length d2] 35)) (StpsNew (S++T) (w.alloc (.cells #[.slice B1 S.length d1,.slice B2 T.length d2] 35))):=by
  have e:catS (fun k=>if k=0 then S else T) 2=S++T:=rfl
  have X:=(Below.refl w.heap.size w).alloc (Nat.le_refl _) (.cells #[.slice B1 S.length d1,.slice B2 T.length d2] 35)
  rw [← e]
  refine psConcat_any 2 w.heap.size (fun k=>if k=0 then B1 else B2) (fun k=>if k=0 then d1 else d2) (fun k=>if k=0 then S else T) _ (by simp) (fun k hk=>?_) (fun k hk=>?_) (by decide) (by rw[e,List.length_append];omega) (by rw[e,List.length_append];omega)
  · rcases (by omega:k=0∨k=1) with rfl | rfl
    · exact cell_of_row _ _ 0 _ _ _ (heap_alloc_new w _)
    · exact cell_of_row _ _ 1 _ _ _ (heap_alloc_new w _)
  · rcases (by omega:k=0∨k=1) with rfl | rfl
    · exact hS.below rfl X
    · exact hT.below rfl X
set_option maxHeartbeats 16000000 in
set_option maxRecDepth 100000 in
theorem pfOf_any (p:Pl.Plan) (hf:Pl.Fit p) (A:Option Addr) (c:Nat) (A':Option Addr) (c':Nat) (S T:List Wk.Stp) (B1 B2:Option Addr) (d1 d2:Nat) (w:World) (h:PlanIn w p A A') (hS:LStp.Row w B1 S) (hT:LStp.Row w B2 T) (h0:0<S.length) (hl:S.length+T.length≤90) (hpos:∀ y∈S++T,Wk.position p y≤2) :
    Calls Tryz.prog 28 #[planV p A c A' c',.slice B1 S.length d1,.slice B2 T.length d2] w (FlankIs (Fl.of p (S++T)) w):=by
  have XA:=(Below.refl w.heap.size w).alloc (Nat.le_refl _) (planO p A c A' c')
  have X0:=Lib.hid XA
  have RP:=Lib.hid (heap_alloc_new w (planO p A c A' c'))
  have gp:=(Array.getElem?_eq_some_iff.1 RP.out).1
  have HI:=Lib.hid (h.below XA)
  have CC:=Lib.hid (pfConcat2 _ S T B1 B2 d1 d2 (hS.below rfl XA) (hT.below rfl XA) h0 hl)
  have hll:(S++T).length=S.length+T.length:=List.length_append
  have ho:(S++T).length≤90:=by omega
  clear h hS hT hll hl h0
  go_enter Tryz.func28,Tryz.ntmps28
  go_upto_region 1 with fail
  generalize w.alloc (planO p A c A' c')=w1 at X0 RP gp HI CC XA ⊢
  generalize w.heap.size=gq at RP gp ⊢
  have X1:=Lib.hid ((Below.refl w1.heap.size w1).alloc (Nat.le_refl _) (.cells #[.slice B1 S.length d1,.slice B2 T.length d2] 35))
  clear XA
  go_wp2_with fail
  refine CC.out.mono ?_;rintro e w2 ⟨B3,d3,rfl,hR3,hd3,hb2,hn3⟩
  generalize how:S++T=own at hR3 hd3 ho hpos ⊢
  have HOW:=Lib.hid how
  have HPO:=Lib.hid hpos
  have HR3:=Lib.hid hR3
  have XB:=Lib.hid (X1.out.trans (hb2.mono X1.out.size))
  have XW:=Lib.hid (X0.out.trans (XB.out.mono X0.out.size))
  have HI2:=Lib.hid (HI.out.below XB.out)
  have RP2:=Lib.hid ((XB.out.block _ gp).trans RP.out)
  have CD:=Lib.hid (pdOf_new p hf.few A c A' c' own B3 d3 w2 HI2.out hR3 (by omega))
  obtain ⟨⟨p0,p1,p2,p3,p4,p5⟩,-,gp2⟩:=row6 RP2.out
  clear CC X1 X0 RP gp HI hR3 hd3 hb2 hn3 how hpos XB
  go_wp2_with fail
  refine CD.out.mono ?_;rintro e w3 ⟨Bp,dp,rfl,hRp,hdp,hb3,hnp⟩
  have XZ:=Lib.hid (XW.out.trans (hb3.mono XW.out.size))
  have HI3:=Lib.hid (HI2.out.below hb3)
  have RP3:=Lib.hid ((hb3.block _ gp2).trans RP2.out)
  have HO3:=Lib.hid (HR3.out.below rfl hb3)
  have hpl:Dm.ofSteps p own≠[]→∀ a,Bp=some a→a.block<w3.heap.size:=fun hz a ha=>hRp.lt hz a ha
  have L0:=Lib.hid (show FlLoop p own w.heap.size w3 w3 0 Bp dp (.slice none 0 0) [] from
    ⟨Below.refl _ _,hRp,hdp,fun hz a ha=>⟨Nat.le_trans XW.out.size (hnp a ha),(fun e=>by cases e),hpl hz a ha⟩,World.ownsRow_nil _ _ _ _,rfl,Nat.le_refl _⟩)
  have NN:=Lib.hid XZ.out.size
  have KS:=Lib.hid (fun W (hW:Below w3.heap.size w3 W)=>row6 ((hW.block _ (Array.getElem?_eq_some_iff.1 RP3.out).1).trans RP3.out))
  have HFIT:=Lib.hid hf
  clear hRp hdp hb3 hnp hpl CD XW HI2 RP2 HR3 p0 p1 p2 p3 p4 p5 gp2
  rw [show (Dm.ofSteps p own).length=(Fl.upTo p own 0).pts.length from rfl]
  go_wp2_with fail
  go_loopw [9,10,13,24] (fun v9 v10 _ v24 w'=>∃ (k:Nat) (Bp:Option Addr) (dp:Nat) (R:List Int) (vR:Value),k≤own.length∧v9=.slice Bp (Fl.upTo p own k).pts.length dp∧v24=.int .i64 k∧vR=v10∧FlLoop p own w.heap.size w3 w' k Bp dp vR R) (fun _ _ _ v24 _=>own.length - (intOf v24).toNat)
  case atStart=>exact ⟨0,Bp,dp,[],_,Nat.zero_le _,rfl,rfl,rfl,L0.out⟩
  case round =>
    clear L0
    obtain ⟨k,Bp,dp,R,vR,hk,rfl,rfl,rfl,hL⟩:=hrel
    have HL:=Lib.hid hL
    have hln:=Fl.upTo_len p own k hk
    clear hL
    by_cases hlt:k<own.length
    · have hy:=List.getElem?_eq_getElem hlt
      have hB:=HL.out.below
      obtain ⟨b1,o1,rfl,g1,on⟩:=(HO3.out.below rfl hB).at hlt
      have hp2:=HPO.out _ (List.getElem_mem hlt)
      generalize own[k]=y at hy on hp2
      obtain ⟨r0,r1,r2⟩:=stp_on on
      rw [show k * LStp.m=k * 3 from rfl] at r0 r1 r2
      have d1:decide ((k:Int)<(own.length:Int))=true:=dec_t (by omega)
      have i0:(0:Int)≤(k:Int):=Int.natCast_nonneg k
      have i1:(k:Int)<(own.length:Int):=by omega
      have HY:=Lib.hid hy
      obtain ⟨s,f,t⟩:=y
      simp only at r0 r1 r2
      have X:=(Below.refl wr.heap.size wr).alloc (Nat.le_refl _) (.cells #[.int .i64 s,.int .i64 f,.int .i64 t] 59)
      have RX:=Lib.hid (heap_alloc_new wr (.cells #[.int .i64 s,.int .i64 f,.int .i64 t] 59))
      have L4:=Lib.hid (HL.out.next X)
      clear on hy X HL hB
      go_upto_region 7 with fail
      generalize wr.alloc (.cells #[.int .i64 s,.int .i64 f,.int .i64 t] 59)=w4 at RX L4 ⊢
      generalize wr.heap.size=gx at RX ⊢
      clear r0 r1 r2 g1
      obtain ⟨⟨r0,r1,r2⟩,-,gx4⟩:=row3 RX.out
      obtain ⟨⟨p0,p1,p2,p3,p4,p5⟩,-,gp4⟩:=KS.out _ L4.out.below
      have CP:=Lib.hid (pwPosition_any p A c A' c' ⟨s,f,t⟩ w4 (HI3.out.below L4.out.below) HFIT.out.few)
      have UG:=Lib.hid (fun (hpos:0<Wk.position p ⟨s,f,t⟩)=>Fl.upTo_go (Rt.next_end HFIT.out) HY.out hpos L4.out.fl)
      have UN:=Lib.hid (fun (hpos:¬ 0<Wk.position p ⟨s,f,t⟩)=>show Fl.upTo p own (k+1)=Fl.upTo p own k from by rw[Fl.upTo_next HY.out];unfold Fl.one;rw[if_neg hpos])
      generalize Wk.position p ⟨s,f,t⟩ = n at CP UG UN hp2
      go_wp2_with fail
      refine CP.out.mono ?_;rintro e w5 ⟨rfl,hb5⟩
      have L5:=Lib.hid (L4.out.next hb5)
      have RX5:=Lib.hid ((hb5.block _ gx4).trans RX.out)
      clear hb5 CP p0 p1 p2 p3 p4 p5 gp4 r0 r1 r2 RX L4
      --[
      by_cases hn:0<n
      · have D:decide (0<n)=true:=dec_t hn
        have U:=UG.out hn
        have hgl:=Fl.go_adds p own 9 s (3 - n) ⟨(Fl.upTo p own k).pts,[],[]⟩
        have X6:=(Below.refl w5.heap.size w5).alloc (Nat.le_refl _) (schO p A c A' c' (some ⟨b1,o1,none⟩) d3 own.length (.slice Bp (Fl.upTo p own k).pts.length dp) (.slice none 0 0) (.slice none 0 0))
        have S6:=Lib.hid (show SchAt p A c A' c' (some ⟨b1,o1,none⟩) d3 own.length w5.heap.size w5 (w5.alloc (schO p A c A' c' (some ⟨b1,o1,none⟩) d3 own.length (.slice Bp (Fl.upTo p own k).pts.length dp) (.slice none 0 0) (.slice none 0 0))) ⟨Bp,dp,.slice none 0 0,.slice none 0 0⟩ ⟨(Fl.upTo p own k).pts,[],[]⟩ from
          ⟨X6,Nat.le_refl _,heap_alloc_new _ _,L5.out.pts.below rfl X6,L5.out.l1,World.ownsRow_nil _ _ _ _,World.ownsRow_nil _ _ _ _,(fun b hb=>by cases hb),fun hz a ha=>⟨(by have:=(L5.out.n1 hz a ha).2.2;omega),(fun e=>by cases e),(fun e=>by cases e),(by have:=(L5.out.n1 hz a ha).2.2;simp;omega)⟩⟩)
        have RX6:=Lib.hid ((X6.block _ (Array.getElem?_eq_some_iff.1 RX5.out).1).trans RX5.out)
        have S56:=Lib.hid X6.size
        have CGO:=Lib.hid (fun W V h=>pfGoOn_any (c:=c) (c':=c') (B:=some ⟨b1,o1,none⟩) (d:=d3) (G:=w5.heap.size) HFIT.out (HI3.out.below L5.out.below) (HO3.out.below rfl L5.out.below) (by omega) HFIT.out.few 9 s (3 - n) ⟨(Fl.upTo p own k).pts,[],[]⟩ W V h (by simp) (by simp) (by show (Fl.upTo p own k).pts.length+8≤900+0;omega) (by simp))
        have LM:=Lib.hid hgl
        have HU:=Lib.hid U
        have hnn:0≤n∧n≤2:=⟨by omega,hp2⟩
        have CO:=Lib.hid (fun W=>pfOther_any n W hnn)
        obtain ⟨⟨r0,-,-⟩,-,-⟩:=row3 RX5.out
        obtain ⟨⟨p0,p1,p2,p3,p4,p5⟩,-,gp4⟩:=KS.out _ L5.out.below
        clear X6 hgl U UG UN
        go_upto_region 10 with fail
        generalize hw6:w5.alloc (schO p A c A' c' (some ⟨b1,o1,none⟩) d3 own.length (.slice Bp (Fl.upTo p own k).pts.length dp) (.slice none 0 0) (.slice none 0 0))=w6 at S6 RX6 S56 ⊢
        have T0:=Lib.hid (Below.refl w6.heap.size w6)
        have KX:=Lib.hid (fun W (hW:Below w6.heap.size w6 W)=>(row3 ((hW.block _ (Array.getElem?_eq_some_iff.1 RX6.out).1).trans RX6.out)).1.1)
        have KY:=Lib.hid (fun W (hW:Below w5.heap.size w5 W)=>(row3 ((hW.block _ (Array.getElem?_eq_some_iff.1 RX5.out).1).trans RX5.out)).1.1)
        have CG2:=Lib.hid (fun W (hW:Below w6.heap.size w6 W)=>CGO.out W _ (S6.out.next hW))
        clear p0 p1 p2 p3 p4 p5 gp4 r0 hw6
        generalize hGG:w5.heap.size=G at S6 CG2 ⊢
        go_region_held3 (fun W=>W.cell? ⟨gx,0,none⟩ = some (.int .i64 s))
          (first | with_reducible exact KX.out _ T0.out.drew | with_reducible exact KX.out _ T0.out | with_reducible exact KY.out _ h7.below | (go_keep;done))
          (first
            | (go_at_call 50;(with_reducible refine (CO.out _).mono ?_);rintro e8 w8 ⟨rfl,rfl⟩)
            | (go_at_call 49;(with_reducible refine (CG2.out _ T0.out.drew).mono ?_);rintro e7 w7 ⟨rfl,V7,h7,t7,n7⟩))
        have H7:=Lib.hid h7
        have N7:=Lib.hid (PtsNew.mono n7 (Nat.le_trans S56.out T0.out.drew.size))
        clear h7 t7 n7 CG2 CO CGO KX KY T0 S6 RX6 S56
        obtain ⟨B7,d7,v7,u7⟩:=V7
        obtain ⟨-,B9,d9,hu,-,hR9⟩:=Lies.Row.of_own (E:=LNum) H7.out.sigs
        have hu':u7=.slice B9 (Fl.go p own 9 s (3 - n) ⟨(Fl.upTo p own k).pts,[],[]⟩).fl.length d9:=hu
        subst hu'
        clear hu
        generalize Fl.go p own 9 s (3 - n) ⟨(Fl.upTo p own k).pts,[],[]⟩ = g7 at H7 N7 HU LM hR9
        obtain ⟨⟨-,-,-,-,-,-,-,p7,-,p9⟩,-,gg7⟩:=row10s H7.out.at_
        have hr8:g7.fl.length≤8:=by
          have a:=LM.out.most (Nat.zero_le _)
          have b:=LM.out.fl
          have c:([]:List Int).length=0:=rfl
          simp only [List.length_nil,Nat.add_zero,Nat.zero_add] at b
          omega
        have HR8:=Lib.hid hr8
        have ROW:=Lib.hid (ownsRow_below L5.out.row H7.out.below)
        have RI:=Lib.hid hR9
        have S37:=Lib.hid (Nat.le_trans L5.out.below.size H7.out.below.size)
        have hRl:=L5.out.len
        obtain ⟨i0',hi,hz0,hz1,hz2⟩:=info_parts infoNum
        clear hR9
        go_wp2_with (at_builtin;refine wpList_append_in LNum rfl (.tmp 44) (.tmp 46) 41 rfl w3.heap.size 3 i0' _ 8 Tryz.underlying41 hi hz0 hz1 hz2 rfl vR R.length (LNum.all R) rfl ROW.out B9 g7.fl.length d9 g7.fl rfl rfl RI.out (by omega) (by omega) S37.out ?_;intro v' w8 hown hg hv;have HO:=Lib.hid hown;have HG:=Lib.hid hg;have HV:=Lib.hid hv;clear hown hg hv)
        have L8:=Lib.hid (L5.out.round H7.out.below HU.out.1.symm (V:=⟨Bp,dp,.slice none 0 0,.slice none 0 0⟩) (V':=⟨B7,d7,v7,.slice B9 g7.fl.length d9⟩) rfl N7.out H7.out.l1 H7.out.pts (fun hz a ha=>(H7.out.n1 hz a ha).2.2.2) (Nat.le_trans NN.out L5.out.below.size) HO.out HG.out HV.out HU.out.2 HR8.out)
        go_roundw
        case rel=>exact ⟨k+1,B7,d7,R++g7.fl,v',by omega,by rw[HU.out.1],by go_num,rfl,L8.out⟩
        case measure=>simp [intOf];omega
      · have D:decide (0<n)=false:=dec_f hn
        have U:=Lib.hid (UN.out (by omega))
        go_wp2_with fail
        go_roundw
        case rel=>exact ⟨k+1,Bp,dp,R,vR,by omega,by rw[U.out],by go_num,rfl,⟨L5.out.below,by rw[U.out];exact L5.out.pts,by rw[U.out];exact L5.out.l1,by rw[U.out];exact L5.out.n1,L5.out.row,by rw[U.out];exact L5.out.fl,by have:=L5.out.len;omega⟩⟩
        case measure=>simp [intOf];omega
      --]
    · obtain rfl:k=own.length:=by omega
      --[
      have d1:decide ((own.length:Int)<(own.length:Int))=false:=dec_f (by omega)
      have hlen:=HL.out.len
      have CS:=Lib.hid (pfSort_any w3.heap.size R vR wr HL.out.row (by omega))
      have hC:Lib.compact (R.mergeSort fun x y=>decide (x≤y))=(Fl.of p own).fl:=by rw[Fl.compact_sort,HL.out.fl,Fl.upTo_all]
      have hlt2:(R.mergeSort fun x y=>decide (x≤y)).length≤1000000:=by rw[List.length_mergeSort];omega
      have hP:=HL.out.pts
      have hl1:=HL.out.l1
      have hn1:=HL.out.n1
      have hB:=HL.out.below
      have hrow:=HL.out.row
      rw [Fl.upTo_all] at hP hl1 hn1 ⊢
      generalize (R.mergeSort fun x y=>decide (x≤y))=R2 at CS hC hlt2
      generalize hgf:Fl.of p own=gf at hC hP hl1 hn1 ⊢
      have HGF:=Lib.hid (show Fl.of p (S++T)=gf from by rw[HOW.out];exact hgf)
      clear hgf
      have HF:=Lib.hid (And.intro hC (And.intro hlt2 (And.intro hP (And.intro hl1 (And.intro hn1 (And.intro hB hrow))))))
      clear hC hlt2 hP hl1 hn1 hB hrow HL hlen hln
      go_wp2_with fail
      refine CS.out.mono ?_;rintro e w9 ⟨rfl,ho9,hg9⟩
      have O9:=Lib.hid ho9
      have G9:=Lib.hid hg9
      have CC:=Lib.hid (pfComp_any w3.heap.size R2 vR w9 ho9 HF.out.2.1)
      rw [HF.out.1] at CC
      clear ho9 hg9 CS
      go_wp2_with fail
      refine CC.out.mono ?_;rintro e w10 ⟨v',rfl,ho10,hg10,hb10⟩
      obtain ⟨-,B10,d10,rfl,hd10,hR10⟩:=Lies.Row.of_own (E:=LNum) ho10
      obtain ⟨-,-,hP,hl1,hn1,hB,hrow⟩:=HF.out
      have HB9:=hB.grown G9.out hB.size fun j hj=>(hrow.lt j hj).1
      have HB10:=HB9.grown hg10 HB9.size fun j hj=>(O9.out.lt j hj).1
      have hP9:LDem.Row w9 Bp gf.pts:=hP.kept G9.out.size fun hz a ha=>G9.out.block _ (hn1 hz a ha).2.2 fun e=>(hn1 hz a ha).2.1 e.symm
      have hP10:LDem.Row w10 Bp gf.pts:=hP9.kept hg10.size fun hz a ha=>hg10.block _ (Nat.lt_of_lt_of_le (hn1 hz a ha).2.2 G9.out.size) fun e=>(hn1 hz a ha).2.1 e.symm
      have FIN:=Lib.hid (show FlankIs gf w (.returned (.tuple #[.slice Bp gf.pts.length dp,.slice B10 gf.fl.length d10])) w10 from
        ⟨Bp,dp,B10,d10,rfl,hP10,hl1,hR10,hd10,XZ.out.trans (HB10.mono XZ.out.size),fun hz a ha=>(hn1 hz a ha).1,fun hz a ha=>by
          subst ha
          exact Nat.le_trans NN.out (ho10.lt _ rfl).1⟩)
      clear ho10 hg10 hb10 hR10 HB9 HB10 hP9 hP10 hl1 hn1 hP hB hrow CC O9 G9 hd10 HF
      go_wp2_with fail
      refine bodyPost_ret (v:=.tuple #[.slice Bp gf.pts.length dp,.slice B10 gf.fl.length d10]) ?_ rfl (by rw[HGF.out];exact FIN.out)
      simp [results,Tryz.results28,go_sem]
      --]
end Go.Proofs.YtpdfbnolhpakoaaGreat
namespace Go.Proofs.YtpdfbnolhpakoaaGreat.Nr
open Go Pl Wk
def slot (a:Nat × Nat):Nat:=3 * a.1+a.2
theorem slot_inj {a b:Nat × Nat} (ha:a.2<3) (hb:b.2<3) (h:slot a=slot b):a=b:=by
  unfold slot at h
  have h1:a.1=b.1:=by omega
  have h2:a.2=b.2:=by omega
  exact Prod.ext h1 h2
theorem slot_lt {n:Nat} {a:Nat × Nat} (h1:a.1<n) (h2:a.2<3):slot a<3 * n:=by unfold slot;omega
def bet (T:List Int) (a:Nat × Nat) (n:Int):List Int:=T.set (slot a) n
theorem at_bet_same {T:List Int} {a:Nat × Nat} {n:Int} (h:slot a<T.length):at_ (bet T a n) a=n:=by
  unfold at_ bet
  show ((T.set (slot a) n)[slot a]?).getD (-1)=n
  rw [List.getElem?_set_self h]
  rfl
theorem at_bet_other {T:List Int} {a b:Nat × Nat} {n:Int} (ha:a.2<3) (hb:b.2<3) (h:b≠a):at_ (bet T a n) b=at_ T b:=by
  unfold at_ bet
  show ((T.set (slot a) n)[slot b]?).getD (-1)=_
  rw [List.getElem?_set_ne (fun e=>h (slot_inj hb ha e.symm))]
  rfl
def weight (ap:Int) (T:List Int):Nat:=(T.map fun x=>if x<0 then ap.toNat else x.toNat).sum
theorem weight_set {ap:Int}:∀ {T:List Int} {i:Nat} {x n:Int},T[i]? = some x→0≤n→n<ap→(x<0∨n<x)→weight ap (T.set i n)<weight ap T
  | [],i,x,n,h,_,_,_=>by simp at h
  | y :: T,0,x,n,h,h0,h1,h2=>by
    obtain rfl:y=x:=by simpa using h
    show ((if n<0 then ap.toNat else n.toNat)+weight ap T)<((if y<0 then ap.toNat else y.toNat)+weight ap T)
    rw [if_neg (by omega)]
    split <;> omega
  | y :: T,i+1,x,n,h,h0,h1,h2=>by
    have:=weight_set (T:=T) (i:=i) (x:=x) (n:=n) (by simpa using h) h0 h1 h2
    show (_+weight ap (T.set i n))<(_+weight ap T)
    omega
theorem at_get {T:List Int} {a:Nat × Nat} (h:slot a<T.length):T[slot a]? = some (at_ T a):=by
  unfold at_
  show _=some ((T[slot a]?).getD (-1))
  rw [List.getElem?_eq_getElem h]
  rfl
theorem Sound.bet {p:Plan} {ap:Int} {st:Nat × Nat} {T:List Int} (h:Sound p ap st T) (hst:st.2<3) {b:Nat × Nat} {n:Int} (hb1:b.1<p.secs.length) (hb2:b.2<3) (h0:0≤n) (hn:n<ap) (hr:Reach p st b n) (hlt:at_ T b<0∨n<at_ T b):Sound p ap st (Nr.bet T b n)∧weight ap (Nr.bet T b n)<weight ap T:=by
  have hs:slot b<T.length:=by rw[h.len];exact slot_lt hb1 hb2
  have hne:st≠b:=by
    rintro rfl
    rw [h.first] at hlt
    omega
  refine ⟨⟨by unfold Nr.bet;rw[List.length_set];exact h.len,fun a ha1 ha2=>?_,?_⟩,weight_set (at_get hs) h0 hn hlt⟩
  · by_cases e:a=b
    · subst e
      rw [at_bet_same hs]
      exact .inr ⟨h0,hn,hr⟩
    · rw [at_bet_other hb2 ha2 e]
      exact h.least a ha1 ha2
  · rw [at_bet_other hb2 hst hne]
    exact h.first
theorem blank_sound {p:Plan} {ap:Int} (hap:0<ap) {st:Nat × Nat} {T:List Int} (hl:T.length=3 * p.secs.length) (hT:∀ a:Nat × Nat,a.1<p.secs.length→a.2<3→at_ T a = -1) (h1:st.1<p.secs.length) (h2:st.2<3):Sound p ap st (bet T st 0):=by
  have hs:slot st<T.length:=by rw[hl];exact slot_lt h1 h2
  refine ⟨by unfold bet;rw[List.length_set];exact hl,fun a ha1 ha2=>?_,at_bet_same hs⟩
  by_cases e:a=st
  · subst e
    rw [at_bet_same hs]
    exact .inr ⟨Int.le_refl _,hap,.start⟩
  · rw [at_bet_other h2 ha2 e]
    exact .inl (hT a ha1 ha2)
def Blank (T:List Int) (n k:Nat):Prop:=T.length=3 * n∧∀ a:Nat × Nat,a.1<k→a.2<3→at_ T a = -1
theorem Blank.next {T:List Int} {n k:Nat} (h:Blank T n k) (hk:k<n):Blank (bet (bet (bet T (k,0) (-1)) (k,1) (-1)) (k,2) (-1)) n (k+1):=by
  have l1:(bet T (k,0) (-1)).length=3 * n:=by unfold bet;rw[List.length_set];exact h.1
  have l2:(bet (bet T (k,0) (-1)) (k,1) (-1)).length=3 * n:=by unfold bet;rw[List.length_set];exact l1
  refine ⟨by unfold bet;rw[List.length_set];exact l2,fun a ha1 ha2=>?_⟩
  by_cases e2:a=(k,2)
  · subst e2
    exact at_bet_same (by rw[l2];exact slot_lt hk (by show _<3;omega))
  rw [at_bet_other (by show _<3;omega) ha2 e2]
  by_cases e1:a=(k,1)
  · subst e1
    exact at_bet_same (by rw[l1];exact slot_lt hk (by show _<3;omega))
  rw [at_bet_other (by show _<3;omega) ha2 e1]
  by_cases e0:a=(k,0)
  · subst e0
    exact at_bet_same (by rw[h.1];exact slot_lt hk (by show _<3;omega))
  rw [at_bet_other (by show _<3;omega) ha2 e0]
  refine h.2 a ?_ ha2
  rcases Nat.lt_or_ge a.1 k with h3 | h3
  · exact h3
  · exfalso
    have h4:a.1=k:=by omega
    obtain ⟨s,e⟩:=a
    simp only at h4 ha2
    subst h4
    match e,ha2 with
    | 0,_=>exact e0 rfl
    | 1,_=>exact e1 rfl
    | 2,_=>exact e2 rfl
def ClosedTo (p:Plan) (ap:Int) (T:List Int) (a:Nat × Nat) (n:Int) (k:Nat):Prop:=∀ from_:Nat,from_<k→(∃ x∈outs p a.1 from_,x.t=(a.2:Int))→∀ b:Nat × Nat,next p a.1 from_=((b.1:Int),(b.2:Int),true)→n<ap→0≤at_ T b∧at_ T b≤n
theorem ClosedTo.all {p:Plan} {ap:Int} {T:List Int} {a:Nat × Nat} (h:ClosedTo p ap T a (at_ T a+lenAt p a.1) 3):ClosedAt p ap T a:=by
  intro _ b ⟨k,hk,hx,hn⟩ hl
  exact h k hk hx b hn hl
theorem sound_bd {p:Plan} {ap:Int} {st:Nat × Nat} {T:List Int} (h:Sound p ap st T) {a:Nat × Nat} (h1:a.1<p.secs.length) (h2:a.2<3):-1≤at_ T a∧(at_ T a<ap∨at_ T a = -1):=by
  rcases h.least a h1 h2 with h | ⟨h,h',-⟩ <;> omega
end Go.Proofs.YtpdfbnolhpakoaaGreat.Nr
