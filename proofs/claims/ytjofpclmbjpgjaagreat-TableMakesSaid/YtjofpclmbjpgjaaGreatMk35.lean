/- Lemmas. -/
import Derived.Test.YtjofpclmbjpgjaaGreatMk15
import Derived.Test.YtjofpclmbjpgjaaGreatMk18
import Derived.Test.YtjofpclmbjpgjaaGreatMk34
set_option maxHeartbeats 16000000
set_option maxRecDepth 100000
namespace Go.Proofs.YtjofpclmbjpgjaaGreat
open Lib (hid)
open Go.RowKit
theorem Dm.ofSteps_good (p:Pl.Plan) (L:List Wk.Stp):Dm.Good (Dm.ofSteps p L):=by
 have : ∀ (l:List Wk.Stp) (D:List Dm.Dem),Dm.Good D->Dm.Good (l.foldl (λout x=>if 0<Wk.position p x then Dm.put out ⟨x.s,Wk.position p x⟩ else out) D):=by
  intro l
  induction l with
  | nil=>intro D h;exact h
  | cons x l ih =>
    intro D h
    refine ih _ ?_
    by_cases hp:0<Wk.position p x
    ·simp only[ArZ hp]
     exact h.put (by show Wk.position p x≠0;omega)
    simp only[ArY hp];exact h
 exact this L [] Dm.Good.nil
namespace Fl
theorem sK {p:Pl.Plan} (hall:∀ s e,(Wk.next p s e).2.1=1∨(Wk.next p s e).2.1=2∨(Wk.next p s e).2.1=0) (own:List Wk.Stp):∀ k,k<=own.length->Dm.Good (upTo p own k).pts
 | 0,_=>Dm.ofSteps_good p own
 | k+1,h=>by
   rw[fJ (ArN (show k<own.length by omega))]
   have h1:=sK hall own k (by omega)
   unfold one
   split
   ·exact(on_keeps p own 9 _ _ _ (hall _ _) hall).good h1
   exact h1
theorem AoN {p:Pl.Plan} (hall:∀ s e,(Wk.next p s e).2.1=1∨(Wk.next p s e).2.1=2∨(Wk.next p s e).2.1=0) {own:List Wk.Stp} {k:Nat} {y:Wk.Stp} (hk:own[k]?=some y) (hpos:0<Wk.position p y) {R:List Int} (hR:R.foldl put []=(upTo p own k).fl) :
 (upTo p own (k+1)).pts=(go p own 9 y.s (3-Wk.position p y) ⟨(upTo p own k).pts,[],[]⟩).pts/\(R++(go p own 9 y.s (3-Wk.position p y) ⟨(upTo p own k).pts,[],[]⟩).fl).foldl put []=(upTo p own (k+1)).fl:=by
 have hg:=sK hall own k (Nat.le_of_lt (ArM hk).1)
 have e:=(yW p own hall 9 y.s (3-Wk.position p y) ⟨(upTo p own k).pts,[],[]⟩ (upTo p own k).fl hg).2
 have e2:upTo p own (k+1)=on p own 9 y.s (3-Wk.position p y) (sh (upTo p own k).fl ⟨(upTo p own k).pts,[],[]⟩):=by
  rw[fJ hk]
  unfold one
  rw[ArZ hpos]
  rfl
 rw[<-e] at e2
 rw[e2]
 refine⟨rfl,?_⟩
 rw[List.foldl_append,hR]
 rfl
end Fl
structure FlLoop (p:Pl.Plan) (own:List Wk.Stp) (N:Nat) (w3 w':World) (k:Nat) (Bp:Option Addr) (dp:Nat) (vR:Value) (R:List Int):Prop where
 below:Below w3.heap.size w3 w'
 pts:aJ.Row w' Bp (Fl.upTo p own k).pts
 l1:(Fl.upTo p own k).pts.length<=dp
 n1:(Fl.upTo p own k).pts≠[]->∀ a,Bp=some a->N<=a.block/\vR.ownBlock≠some a.block/\a.block<w'.heap.size
 row:w'.ownsRow w3.heap.size 3 aF.m vR R.length (aF.all R)
 fl:R.foldl Fl.put []=(Fl.upTo p own k).fl
 len:R.length<=8*k
theorem FlLoop.next {p:Pl.Plan} {own:List Wk.Stp} {N:Nat} {w3 w' w2:World} {k:Nat} {Bp:Option Addr} {dp:Nat} {vR:Value} {R:List Int} (h:FlLoop p own N w3 w' k Bp dp vR R) (hb:Below w'.heap.size w' w2):FlLoop p own N w3 w2 k Bp dp vR R :=
 ⟨h.below.trans (hb.mono h.below.size),h.pts.below rfl hb,h.l1,λhz a ha=>⟨(h.n1 hz a ha).1,(h.n1 hz a ha).2.1,AsE (h.n1 hz a ha).2.2 hb.size⟩,aA h.row hb,h.fl,h.len⟩
theorem FlLoop.round {p:Pl.Plan} {own:List Wk.Stp} {N:Nat} {w3 w5 w7 w8:World} {k:Nat} {Bp:Option Addr} {dp:Nat} {vR:Value} {R r:List Int} (h:FlLoop p own N w3 w5 k Bp dp vR R) (hb:Below w5.heap.size w5 w7) {V V':SchV} {v':Value} {L:List Dm.Dem} (hL:L=(Fl.upTo p own (k+1)).pts) (hV:V.B1=Bp) (hP:PtsNew V V' (Fl.upTo p own k).pts L w5) (hl:L.length<=V'.d1) (hr7:aJ.Row w7 V'.B1 L) (hlt:L≠[]->∀ a,V'.B1=some a->a.block<w7.heap.size) (hN:N<=w5.heap.size)
 (hown:w8.ownsRow w3.heap.size 3 aF.m v' (R.length+r.length) (aF.all R++aF.all r)) (hg:w7.grownBy w8 vR.ownBlock) (hv:∀ j,v'.ownBlock=some j->vR.ownBlock=some j∨w7.heap.size<=j) (hf:(R++r).foldl Fl.put []=(Fl.upTo p own (k+1)).fl) (hr:r.length<=8):FlLoop p own N w3 w8 (k+1) V'.B1 V'.d1 v' (R++r):=by
 have hB7:=h.below.trans (hb.mono h.below.size)
 have hrow7:=aA h.row hb
 have hsep:L≠[]->∀ a,V'.B1=some a->N<=a.block/\vR.ownBlock≠some a.block:=λhz a ha=>by
  rcases hP with ⟨h1,h2⟩|h1
  ·have:=h.n1 (by rw[<-h2];exact hz) a (by rw[<-hV,<-h1];exact ha)
   exact⟨this.1,this.2.1⟩
  have h2:=h1 a ha
  exact⟨ArS hN h2,λe=>by have:=(h.row.lt _ e).2;omega⟩
 subst hL
 refine⟨hB7.grown hg hB7.size λj hj=>(hrow7.lt j hj).1,hr7.kept hg.size λhz a ha=>hg.block _ (hlt hz a ha) λe=>(hsep hz a ha).2 e.symm,hl,λhz a ha=>⟨(hsep hz a ha).1,λe=>?_,AsE (hlt hz a ha) hg.size⟩,by rw[ArV,aF.all_append];exact hown,hf,by rw[ArV];have:=h.len;omega⟩
 rcases hv _ e with e|e
 ·exact(hsep hz a ha).2 e
 have:=hlt hz a ha;omega
theorem AhX (w:World) (S T:List Wk.Stp) (B1 B2:Option Addr) (d1 d2:Nat) (hS:aE.Row w B1 S) (hT:aE.Row w B2 T) (h0:0<S.length) (hl:S.length+T.length<=90) :
 Calls Tryz.prog 103 #[.slice (some ⟨w.heap.size,0,none⟩) 2 2] (w.alloc (.cells #[.slice B1 S.length d1,.slice B2 T.length d2] 86)) (StpsNew (S++T) (w.alloc (.cells #[.slice B1 S.length d1,.slice B2 T.length d2] 86))):=by
 have e:cB (λk=>if k=0 then S else T) 2=S++T:=rfl
 have X:=(AtB w).alloc (ArR _) (.cells #[.slice B1 S.length d1,.slice B2 T.length d2] 86)
 rw[<-e]
 refine vD 2 w.heap.size (λk=>if k=0 then B1 else B2) (λk=>if k=0 then d1 else d2) (λk=>if k=0 then S else T) _ (by simp) (λk hk=>?_) (λk hk=>?_) (by decide) (by rw[e,ArV];omega) (by rw[e,ArV];omega)
 ·rcases (by omega:k=0∨k=1) with rfl|rfl
  ·exact AsY _ _ 0 _ _ _ (AsW w _)
  exact AsY _ _ 1 _ _ _ (AsW w _)
 rcases (by omega:k=0∨k=1) with rfl|rfl
 ·exact hS.below rfl X
 exact hT.below rfl X
theorem AmN (p:Pl.Plan) (hf:Pl.Fit p) (A:Option Addr) (c:Nat) (A':Option Addr) (c':Nat) (S T:List Wk.Stp) (B1 B2:Option Addr) (d1 d2:Nat) (w:World) (h:PlanIn w p A A') (hS:aE.Row w B1 S) (hT:aE.Row w B2 T) (h0:0<S.length) (hl:S.length+T.length<=90) (hpos:∀ y∈S++T,Wk.position p y<=2) :
 Calls Tryz.prog 65 #[aR p A c A' c',.slice B1 S.length d1,.slice B2 T.length d2] w (uP (Fl.of p (S++T)) w):=by
 have XA:=(AtB w).alloc (ArR _) (aD p A c A' c')
 have X0:=hid XA
 have RP:=hid (AsW w (aD p A c A' c'))
 have gp:=(ArL RP.out).1
 have HI:=hid (h.below XA)
 have CC:=hid (AhX _ S T B1 B2 d1 d2 (hS.below rfl XA) (hT.below rfl XA) h0 hl)
 have hll:(S++T).length=S.length+T.length:=ArV
 have ho:(S++T).length<=90:=by omega
 clear h hS hT hll hl h0
 go_enter Tryz.func65,Tryz.ntmps65
 go_upto_region 1 with fail
 generalize w.alloc (aD p A c A' c')=w1 at X0 RP gp HI CC XA ⊢
 generalize w.heap.size=gq at RP gp ⊢
 have X1:=hid ((AtB w1).alloc (ArR _) (.cells #[.slice B1 S.length d1,.slice B2 T.length d2] 86))
 clear XA
 go_wp2_with fail
 refine CC.out.mono ?_;rintro e w2 ⟨B3,d3,rfl,hR3,hd3,hb2,hn3⟩
 generalize how:S++T=own at hR3 hd3 ho hpos ⊢
 have HOW:=hid how
 have HPO:=hid hpos
 have HR3:=hid hR3
 have XB:=hid (X1.out.trans (hb2.mono X1.out.size))
 have XW:=hid (X0.out.trans (XB.out.mono X0.out.size))
 have HI2:=hid (HI.out.below XB.out)
 have RP2:=hid ((XB.out.block _ gp).trans RP.out)
 have CD:=hid (AlH p hf.few A c A' c' own B3 d3 w2 HI2.out hR3 (by omega))
 obtain⟨⟨p0,p1,p2,p3,p4,p5⟩,-,gp2⟩:=row6 RP2.out
 clear CC X1 X0 RP gp HI hR3 hd3 hb2 hn3 how hpos XB
 go_wp2_with fail
 refine CD.out.mono ?_;rintro e w3 ⟨Bp,dp,rfl,hRp,hdp,hb3,hnp⟩
 have XZ:=hid (XW.out.trans (hb3.mono XW.out.size))
 have HI3:=hid (HI2.out.below hb3)
 have RP3:=hid ((hb3.block _ gp2).trans RP2.out)
 have HO3:=hid (HR3.out.below rfl hb3)
 have hpl:Dm.ofSteps p own≠[]->∀ a,Bp=some a->a.block<w3.heap.size:=λhz a ha=>hRp.lt hz a ha
 have L0:=hid (show FlLoop p own w.heap.size w3 w3 0 Bp dp (.slice none 0 0) [] from
  ⟨Below.refl _ _,hRp,hdp,λhz a ha=>⟨ArS XW.out.size (hnp a ha),(λe=>by cases e),hpl hz a ha⟩,World.ownsRow_nil _ _ _ _,rfl,ArR _⟩)
 have NN:=hid XZ.out.size
 have KS:=hid (λW (hW:Below w3.heap.size w3 W)=>row6 ((hW.block _ (ArL RP3.out).1).trans RP3.out))
 have HFIT:=hid hf
 clear hRp hdp hb3 hnp hpl CD XW HI2 RP2 HR3 p0 p1 p2 p3 p4 p5 gp2
 rw[show (Dm.ofSteps p own).length=(Fl.upTo p own 0).pts.length from rfl]
 go_wp2_with fail
 go_loopw [9,10,13,24] (λv9 v10 _ v24 w'=>∃ (k:Nat) (Bp:Option Addr) (dp:Nat) (R:List Int) (vR:Value),k<=own.length/\v9=.slice Bp (Fl.upTo p own k).pts.length dp/\v24=.int .i64 k/\vR=v10/\FlLoop p own w.heap.size w3 w' k Bp dp vR R) (λ_ _ _ v24 _=>own.length-(intOf v24).toNat)
 case atStart=>exact⟨0,Bp,dp,[],_,AsD _,rfl,rfl,rfl,L0.out⟩
 case round =>
  clear L0
  obtain⟨k,Bp,dp,R,vR,hk,rfl,rfl,rfl,hL⟩:=hrel
  have HL:=hid hL
  have hln:=Fl.jO p own k hk
  clear hL
  by_cases hlt:k<own.length
  ·have hy:=ArN hlt
   have hB:=HL.out.below
   obtain⟨b1,o1,rfl,g1,on⟩:=(HO3.out.below rfl hB).at hlt
   have hp2:=HPO.out _ (List.getElem_mem hlt)
   generalize own[k]=y at hy on hp2
   obtain⟨r0,r1,r2⟩:=bL on
   rw[show k*aE.m=k*3 from rfl] at r0 r1 r2
   obtain⟨d1,i0,i1⟩:=ArK (show k<own.length by omega)
   have HY:=hid hy
   obtain⟨s,f,t⟩:=y
   simp only at r0 r1 r2
   have X:=(AtB wr).alloc (ArR _) (.cells #[.int .i64 s,.int .i64 f,.int .i64 t] 129)
   have RX:=hid (AsW wr (.cells #[.int .i64 s,.int .i64 f,.int .i64 t] 129))
   have L4:=hid (HL.out.next X)
   clear on hy X HL hB
   go_upto_region 7 with fail
   generalize wr.alloc (.cells #[.int .i64 s,.int .i64 f,.int .i64 t] 129)=w4 at RX L4 ⊢
   generalize wr.heap.size=gx at RX ⊢
   clear r0 r1 r2 g1
   obtain⟨⟨r0,r1,r2⟩,-,gx4⟩:=row3 RX.out
   obtain⟨⟨p0,p1,p2,p3,p4,p5⟩,-,gp4⟩:=KS.out _ L4.out.below
   have CP:=hid (eL p A c A' c' ⟨s,f,t⟩ w4 (HI3.out.below L4.out.below) HFIT.out.few)
   have UG:=hid (λ(hpos:0<Wk.position p ⟨s,f,t⟩)=>Fl.AoN (Rt.next_end HFIT.out) HY.out hpos L4.out.fl)
   have UN:=hid (λ(hpos:¬ 0<Wk.position p ⟨s,f,t⟩)=>show Fl.upTo p own (k+1)=Fl.upTo p own k from by rw[Fl.fJ HY.out];unfold Fl.one;rw[ArY hpos])
   generalize Wk.position p ⟨s,f,t⟩=n at CP UG UN hp2
   go_wp2_with fail
   refine CP.out.mono ?_;rintro e w5 ⟨rfl,hb5⟩
   have L5:=hid (L4.out.next hb5)
   have RX5:=hid ((hb5.block _ gx4).trans RX.out)
   clear hb5 CP p0 p1 p2 p3 p4 p5 gp4 r0 r1 r2 RX L4
   --[
   by_cases hn:0<n
   ·have D:decide (0<n)=true:=aC hn
    have U:=UG.out hn
    have hgl:=Fl.go_adds p own 9 s (3-n) ⟨(Fl.upTo p own k).pts,[],[]⟩
    have X6:=(AtB w5).alloc (ArR _) (AoM p A c A' c' (some ⟨b1,o1,none⟩) d3 own.length (.slice Bp (Fl.upTo p own k).pts.length dp) (.slice none 0 0) (.slice none 0 0))
    have S6:=hid (show SchAt p A c A' c' (some ⟨b1,o1,none⟩) d3 own.length w5.heap.size w5 (w5.alloc (AoM p A c A' c' (some ⟨b1,o1,none⟩) d3 own.length (.slice Bp (Fl.upTo p own k).pts.length dp) (.slice none 0 0) (.slice none 0 0))) ⟨Bp,dp,.slice none 0 0,.slice none 0 0⟩ ⟨(Fl.upTo p own k).pts,[],[]⟩ from
     ⟨X6,ArR _,AsW _ _,L5.out.pts.below rfl X6,L5.out.l1,World.ownsRow_nil _ _ _ _,World.ownsRow_nil _ _ _ _,(λb hb=>by cases hb),λhz a ha=>⟨(by have:=(L5.out.n1 hz a ha).2.2;omega),(λe=>by cases e),(λe=>by cases e),(by have:=(L5.out.n1 hz a ha).2.2;simp;omega)⟩⟩)
    have RX6:=hid ((X6.block _ (ArL RX5.out).1).trans RX5.out)
    have S56:=hid X6.size
    have CGO:=hid (λW V h=>AcU (c:=c) (c':=c') (B:=some ⟨b1,o1,none⟩) (d:=d3) (G:=w5.heap.size) HFIT.out (HI3.out.below L5.out.below) (HO3.out.below rfl L5.out.below) (by omega) HFIT.out.few 9 s (3-n) ⟨(Fl.upTo p own k).pts,[],[]⟩ W V h (by simp) (by simp) (by show (Fl.upTo p own k).pts.length+8<=900+0;omega) (by simp))
    have LM:=hid hgl
    have HU:=hid U
    have hnn:0<=n/\n<=2:=⟨by omega,hp2⟩
    have CO:=hid (λW=>mK n W hnn)
    obtain⟨⟨r0,-,-⟩,-,-⟩:=row3 RX5.out
    obtain⟨⟨p0,p1,p2,p3,p4,p5⟩,-,gp4⟩:=KS.out _ L5.out.below
    clear X6 hgl U UG UN
    go_upto_region 10 with fail
    generalize hw6:w5.alloc (AoM p A c A' c' (some ⟨b1,o1,none⟩) d3 own.length (.slice Bp (Fl.upTo p own k).pts.length dp) (.slice none 0 0) (.slice none 0 0))=w6 at S6 RX6 S56 ⊢
    have T0:=hid (AtB w6)
    have KX:=hid (λW (hW:Below w6.heap.size w6 W)=>(row3 ((hW.block _ (ArL RX6.out).1).trans RX6.out)).1.1)
    have KY:=hid (λW (hW:Below w5.heap.size w5 W)=>(row3 ((hW.block _ (ArL RX5.out).1).trans RX5.out)).1.1)
    have CG2:=hid (λW (hW:Below w6.heap.size w6 W)=>CGO.out W _ (S6.out.next hW))
    clear p0 p1 p2 p3 p4 p5 gp4 r0 hw6
    generalize hGG:w5.heap.size=G at S6 CG2 ⊢
    go_region_held3 (λW=>W.cell? ⟨gx,0,none⟩=some (.int .i64 s))
     (first|with_reducible exact KX.out _ T0.out.drew|with_reducible exact KX.out _ T0.out|with_reducible exact KY.out _ h7.below|(go_keep;done))
     (first
      | (go_at_call 107;(with_reducible refine(CO.out _).mono ?_);rintro e8 w8 ⟨rfl,rfl⟩)
      | (go_at_call 106;(with_reducible refine(CG2.out _ T0.out.drew).mono ?_);rintro e7 w7 ⟨rfl,V7,h7,t7,n7⟩))
    have H7:=hid h7
    have N7:=hid (PtsNew.mono n7 (ArS S56.out T0.out.drew.size))
    clear h7 t7 n7 CG2 CO CGO KX KY T0 S6 RX6 S56
    obtain⟨B7,d7,v7,u7⟩:=V7
    obtain⟨-,B9,d9,hu,-,hR9⟩:=Lies.Row.of_own (E:=aF) H7.out.sigs
    have hu':u7=.slice B9 (Fl.go p own 9 s (3-n) ⟨(Fl.upTo p own k).pts,[],[]⟩).fl.length d9:=hu
    subst hu'
    clear hu
    generalize Fl.go p own 9 s (3-n) ⟨(Fl.upTo p own k).pts,[],[]⟩=g7 at H7 N7 HU LM hR9
    obtain⟨⟨-,-,-,-,-,-,-,p7,-,p9⟩,-,gg7⟩:=row10s H7.out.at_
    have hr8:g7.fl.length<=8:=by
     have a:=LM.out.most (AsD _)
     have b:=LM.out.fl
     have c:([]:List Int).length=0:=rfl
     simp only[List.length_nil,Nat.add_zero,Nat.zero_add] at b
     omega
    have HR8:=hid hr8
    have ROW:=hid (aA L5.out.row H7.out.below)
    have RI:=hid hR9
    have S37:=hid (ArS L5.out.below.size H7.out.below.size)
    have hRl:=L5.out.len
    obtain⟨i0',hi,hz0,hz1,hz2⟩:=info_parts fT
    clear hR9
    go_wp2_with (at_builtin;refine lM aF rfl (.tmp 44) (.tmp 46) 90 rfl w3.heap.size 3 i0' _ 8 Tryz.underlying90 hi hz0 hz1 hz2 rfl vR R.length (aF.all R) rfl ROW.out B9 g7.fl.length d9 g7.fl rfl rfl RI.out (by omega) (by omega) S37.out ?_;intro v' w8 hown hg hv;have HO:=hid hown;have HG:=hid hg;have HV:=hid hv;clear hown hg hv)
    have L8:=hid (L5.out.round H7.out.below HU.out.1.symm (V:=⟨Bp,dp,.slice none 0 0,.slice none 0 0⟩) (V':=⟨B7,d7,v7,.slice B9 g7.fl.length d9⟩) rfl N7.out H7.out.l1 H7.out.pts (λhz a ha=>(H7.out.n1 hz a ha).2.2.2) (ArS NN.out L5.out.below.size) HO.out HG.out HV.out HU.out.2 HR8.out)
    go_roundw
    case rel=>exact⟨k+1,B7,d7,R++g7.fl,v',by omega,by rw[HU.out.1],by go_num,rfl,L8.out⟩
    case measure=>simp[intOf];omega
   ·have D:decide (0<n)=false:=aB hn
    have U:=hid (UN.out (by omega))
    go_wp2
    go_roundw
    case rel=>exact⟨k+1,Bp,dp,R,vR,by omega,by rw[U.out],by go_num,rfl,⟨L5.out.below,by rw[U.out];exact L5.out.pts,by rw[U.out];exact L5.out.l1,by rw[U.out];exact L5.out.n1,L5.out.row,by rw[U.out];exact L5.out.fl,by have:=L5.out.len;omega⟩⟩
    case measure=>simp[intOf];omega
   --]
  obtain rfl:k=own.length:=by omega
  --[
  have d1:decide ((own.length:Int)<(own.length:Int))=false:=aB (by omega)
  have hlen:=HL.out.len
  have CS:=hid (AcV w3.heap.size R vR wr HL.out.row (by omega))
  have hC:Lib.compact (R.mergeSort λx y=>decide (x<=y))=(Fl.of p own).fl:=by rw[Fl.compact_sort,HL.out.fl,Fl.jP]
  have hlt2:(R.mergeSort λx y=>decide (x<=y)).length<=1000000:=by rw[List.length_mergeSort];omega
  have hP:=HL.out.pts
  have hl1:=HL.out.l1
  have hn1:=HL.out.n1
  have hB:=HL.out.below
  have hrow:=HL.out.row
  rw[Fl.jP] at hP hl1 hn1 ⊢
  generalize (R.mergeSort λx y=>decide (x<=y))=R2 at CS hC hlt2
  generalize hgf:Fl.of p own=gf at hC hP hl1 hn1 ⊢
  have HGF:=hid (show Fl.of p (S++T)=gf from by rw[HOW.out];exact hgf)
  clear hgf
  have HF:=hid (AsG hC (AsG hlt2 (AsG hP (AsG hl1 (AsG hn1 (AsG hB hrow))))))
  clear hC hlt2 hP hl1 hn1 hB hrow HL hlen hln
  go_wp2_with fail
  refine CS.out.mono ?_;rintro e w9 ⟨rfl,ho9,hg9⟩
  have O9:=hid ho9
  have G9:=hid hg9
  have CC:=hid (AcW w3.heap.size R2 vR w9 ho9 HF.out.2.1)
  rw[HF.out.1] at CC
  clear ho9 hg9 CS
  go_wp2_with fail
  refine CC.out.mono ?_;rintro e w10 ⟨v',rfl,ho10,hg10,hb10⟩
  obtain⟨-,B10,d10,rfl,hd10,hR10⟩:=Lies.Row.of_own (E:=aF) ho10
  obtain⟨-,-,hP,hl1,hn1,hB,hrow⟩:=HF.out
  have HB9:=hB.grown G9.out hB.size λj hj=>(hrow.lt j hj).1
  have HB10:=HB9.grown hg10 HB9.size λj hj=>(O9.out.lt j hj).1
  have hP9:aJ.Row w9 Bp gf.pts:=hP.kept G9.out.size λhz a ha=>G9.out.block _ (hn1 hz a ha).2.2 λe=>(hn1 hz a ha).2.1 e.symm
  have hP10:aJ.Row w10 Bp gf.pts:=hP9.kept hg10.size λhz a ha=>hg10.block _ (AsE (hn1 hz a ha).2.2 G9.out.size) λe=>(hn1 hz a ha).2.1 e.symm
  have FIN:=hid (show uP gf w (.returned (.tuple #[.slice Bp gf.pts.length dp,.slice B10 gf.fl.length d10])) w10 from
   ⟨Bp,dp,B10,d10,rfl,hP10,hl1,hR10,hd10,XZ.out.trans (HB10.mono XZ.out.size),λhz a ha=>(hn1 hz a ha).1,λhz a ha=>by
    subst ha
    exact ArS NN.out (ho10.lt _ rfl).1⟩)
  clear ho10 hg10 hb10 hR10 HB9 HB10 hP9 hP10 hl1 hn1 hP hB hrow CC O9 G9 hd10 HF
  go_wp2_with fail
  refine bodyPost_ret (v:=.tuple #[.slice Bp gf.pts.length dp,.slice B10 gf.fl.length d10]) ?_ rfl (by rw[HGF.out];exact FIN.out)
  simp[results,Tryz.results65,go_sem]
  --]
end Go.Proofs.YtjofpclmbjpgjaaGreat
namespace Go.Proofs.YtjofpclmbjpgjaaGreat.Nr
open Lib (hid)
open Go Pl Wk
def mAt (M:List Bool) (a:Nat × Nat):Bool:=(M[slot a]?).getD false
structure MSound (p:Plan) (st:Nat × Nat) (M:List Bool):Prop where
 len:M.length=3*p.secs.length
 so:∀ a:Nat × Nat,a.1<p.secs.length->a.2<3->mAt M a=true->∃ n,Reach p st a n
 first:mAt M st=true
def MClosed (p:Plan) (M:List Bool):Prop:=∀ a:Nat × Nat,a.1<p.secs.length->a.2<3->mAt M a=true->∀ b,Edge p a b->mAt M b=true
def MLe (p:Plan) (M N:List Bool):Prop:=∀ a:Nat × Nat,a.1<p.secs.length->a.2<3->mAt M a=true->mAt N a=true
theorem MLe.refl (p:Plan) (M:List Bool):MLe p M M:=λ_ _ _ h=>h
theorem MClosed.all {p:Plan} (hf:Fit p) {st:Nat × Nat} {M:List Bool} (h:MSound p st M) (hc:MClosed p M) (hst:st.1<p.secs.length/\st.2<3) {a:Nat × Nat} {n:Int} (hr:Reach p st a n):mAt M a=true:=by
 induction hr with
 | start=>exact h.first
 | @step a b n hr he ih =>
   obtain⟨h1,h2⟩:=hr.in_ hf hst
   exact hc a h1 h2 ih b he
def Round (p:Plan) (M N:List Bool):Prop:=∀ a:Nat × Nat,a.1<p.secs.length->a.2<3->mAt M a=true->∀ b,Edge p a b->mAt N b=true
structure Part (p:Plan) (M N:List Bool) (q F j:Nat):Prop where
 secs:∀ a:Nat × Nat,a.1<q->a.2<3->mAt M a=true->∀ b,Edge p a b->mAt N b=true
 froms:∀ f,f<F->f<3->∀ x∈outs p q f,∀ e,e<3->x.t=((e:Nat):Int)->mAt M (q,e)=true->∀ b:Nat × Nat,next p q f=((b.1:Int),(b.2:Int),true)->mAt N b=true
 ways:F<3->∀ x∈(outs p q F).take j,∀ e,e<3->x.t=((e:Nat):Int)->mAt M (q,e)=true->∀ b:Nat × Nat,next p q F=((b.1:Int),(b.2:Int),true)->mAt N b=true
theorem Part.start {p:Plan} {M N:List Bool}:Part p M N 0 0 0:=⟨λ_ h=>absurd h (Nat.not_lt_zero _),λ_ h=>absurd h (Nat.not_lt_zero _),λ_ x hx=>by rw[List.take_zero] at hx;cases hx⟩
theorem Part.up {p:Plan} (hf:Fit p) {M N N':List Bool} {q F j:Nat} (h:Part p M N q F j) (hle:MLe p N N'):Part p M N' q F j:=by
 refine⟨λa h1 h2 hm b he=>?_,λf h1 h2 x hx e he ht hm b hn=>?_,λhF x hx e he ht hm b hn=>?_⟩
 ·have hb:=edge_in hf he
  exact hle b hb.1 hb.2 (h.secs a h1 h2 hm b he)
 ·have hb:=edge_in hf (a:=(q,e)) (b:=b) ⟨f,h2,⟨x,hx,ht⟩,hn⟩
  exact hle b hb.1 hb.2 (h.froms f h1 h2 x hx e he ht hm b hn)
 have hb:=edge_in hf (a:=(q,e)) (b:=b) ⟨F,hF,⟨x,List.mem_of_mem_take hx,ht⟩,hn⟩
 exact hle b hb.1 hb.2 (h.ways hF x hx e he ht hm b hn)
theorem Part.way {p:Plan} {M N:List Bool} {q F j:Nat} {x:Stp} (h:Part p M N q F j) (hx:(outs p q F)[j]?=some x) (hw:F<3->∀ e,e<3->x.t=((e:Nat):Int)->mAt M (q,e)=true->∀ b:Nat × Nat,next p q F=((b.1:Int),(b.2:Int),true)->mAt N b=true):Part p M N q F (j+1):=by
 refine⟨h.secs,h.froms,λhF y hy e he ht hm b hn=>?_⟩
 rw[List.take_add_one,hx] at hy
 rcases ArW.1 hy with hy|hy
 ·exact h.ways hF y hy e he ht hm b hn
 obtain rfl:y=x:=by simpa using hy
 exact hw hF e he ht hm b hn
theorem Part.from_ {p:Plan} {M N:List Bool} {q F:Nat} (h:Part p M N q F (outs p q F).length):Part p M N q (F+1) 0:=by
 refine⟨h.secs,λf h1 h2 x hx e he ht hm b hn=>?_,λ_ x hx=>by rw[List.take_zero] at hx;cases hx⟩
 by_cases hfF:f=F
 ·subst hfF
  exact h.ways h2 x (by rw[List.take_length];exact hx) e he ht hm b hn
 exact h.froms f (by omega) h2 x hx e he ht hm b hn
theorem Part.sec {p:Plan} {M N:List Bool} {q:Nat} (h:Part p M N q 3 0):Part p M N (q+1) 0 0:=by
 refine⟨λa h1 h2 hm b he=>?_,λ_ h=>absurd h (Nat.not_lt_zero _),λ_ x hx=>by rw[List.take_zero] at hx;cases hx⟩
 by_cases ha:a.1=q
 ·obtain⟨a1,a2⟩:=a
  simp only at ha h2
  subst ha
  obtain⟨f,hf3,⟨x,hx,ht⟩,hn⟩:=he
  exact h.froms f hf3 hf3 x hx a2 h2 ht hm b hn
 exact h.secs a (by omega) h2 hm b he
theorem Part.round {p:Plan} {M N:List Bool} (h:Part p M N p.secs.length 0 0):Round p M N:=λa h1 h2 hm b he=>h.secs a h1 h2 hm b he
theorem step_to {p:Plan} {s f:Int} {x:Stp} (h:x∈outs p s f) (h0:0<=f):0<=x.t/\x.t<=2:=by
 unfold outs at h
 split at h
 ·cases h
 split at h
 ·split at h
  ·simp only[AsN,List.not_mem_nil,or_false] at h
   rcases h with rfl|rfl
   ·exact⟨by show (0:Int)<=1;decide,by show (1:Int)<=2;decide⟩
   exact⟨by show (0:Int)<=2;decide,by show (2:Int)<=2;decide⟩
  split at h
  ·simp only[AsN,List.not_mem_nil,or_false] at h
   rw[h]
   exact⟨by show (0:Int)<=0;decide,by show (0:Int)<=2;decide⟩
  cases h
 split at h
 ·rename_i hf
  simp only[AsN,List.not_mem_nil,or_false] at h
  rw[h]
  show 0<=1-f/\1-f<=2
  omega
 cases h
structure Fair (p:Plan) (ap:Int) (st:Nat × Nat) (T:List Int):Prop where
 len:T.length=3*p.secs.length
 least:∀ a:Nat × Nat,a.1<p.secs.length->a.2<3->at_ T a=ap∨(0<=at_ T a/\at_ T a<ap/\Reach p st a (at_ T a))
 first:at_ T st=0
def mass (T:List Int):Nat:=(T.map Int.toNat).sum
theorem yZ:∀ {T:List Int} {i:Nat} {x n:Int},T[i]?=some x->0<=n->n<x->mass (T.set i n)<mass T
 | [],i,x,n,h,_,_=>by simp at h
 | y :: T,0,x,n,h,h0,h1=>by
   obtain rfl:y=x:=by simpa using h
   show (n.toNat+mass T)<(y.toNat+mass T)
   omega
 | y :: T,i+1,x,n,h,h0,h1=>by
   have:=yZ (T:=T) (i:=i) (x:=x) (n:=n) (by simpa using h) h0 h1
   show (_+mass (T.set i n))<(_+mass T)
   omega
def Fixed (p:Plan) (T:List Int) (s e:Nat):Prop:=∀ b:Nat × Nat,next p s e=((b.1:Int),(b.2:Int),true)->∀ x∈outs p s e,∀ k:Nat,x.t=(k:Int)->at_ T b<=at_ T (s,k)+lenAt p s
structure Full (p:Plan) (ap:Int) (st:Nat × Nat) (T:List Int):Prop extends Fair p ap st T where
 fixed:∀ s e,s<p.secs.length->e<3->Fixed p T s e
theorem Full.le {p:Plan} (hm:Lp.Meas p) {ap:Int} {st:Nat × Nat} {T:List Int} (h:Full p ap st T) {a:Nat × Nat} {n:Int} (hr:Reach p st a n) (hn:n<ap):at_ T a<=n:=by
 induction hr with
 | start=>rw[h.first];exact Int.le_refl _
 | @step a b n hr he ih =>
   have hl:=(lenAt_bd hm a.1).1
   have h1:=ih (by omega)
   have hs:=qV he
   obtain⟨k,hk,⟨x,hx,ht⟩,hnx⟩:=he
   have h2:at_ T b<=at_ T a+lenAt p a.1:=h.fixed a.1 k hs hk b hnx x hx a.2 ht
   omega
def near (T:List Int) (ap:Int) (s:Nat):Bool:=decide (min (at_ T (s,0)) (min (at_ T (s,1)) (at_ T (s,2)))<ap)
theorem AmO {p:Plan} (hm:Lp.Meas p) {ap:Int} {st:Nat × Nat} {T:List Int} (hd:Full p ap st T) {s:Nat} (hs:s<p.secs.length):near T ap s=true ↔ Got p ap st s:=by
 have one:∀ e,e<3->(at_ T (s,e)<ap ↔ ∃ n,Reach p st (s,e) n/\n<ap):=λe he=>by
  constructor
  ·intro h
   rcases hd.least (s,e) hs he with h2|⟨_,h3,h4⟩
   ·omega
   exact⟨_,h4,h3⟩
  rintro⟨n,h1,h2⟩
  have:=hd.le hm h1 h2
  omega
 have h0:=one 0 (by decide)
 have h1:=one 1 (by decide)
 have h2:=one 2 (by decide)
 unfold near
 rw[decide_eq_true_eq]
 constructor
 ·intro h
  by_cases g0:at_ T (s,0)<ap
  ·obtain⟨n,a,b⟩:=h0.1 g0
   exact⟨0,n,by decide,a,b⟩
  by_cases g1:at_ T (s,1)<ap
  ·obtain⟨n,a,b⟩:=h1.1 g1
   exact⟨1,n,by decide,a,b⟩
  obtain⟨n,a,b⟩:=h2.1 (by omega)
  exact⟨2,n,by decide,a,b⟩
 rintro⟨e,n,he,hr,hn⟩
 match e,he with
 | 0,_=>have:=h0.2 ⟨n,hr,hn⟩;omega
 | 1,_=>have:=h1.2 ⟨n,hr,hn⟩;omega
 | 2,_=>have:=h2.2 ⟨n,hr,hn⟩;omega
theorem near_sects {p:Plan} (hm:Lp.Meas p) {ap:Int} {st:Nat × Nat} {T:List Int} (hd:Full p ap st T):(List.range p.secs.length).filter (near T ap)=sects p ap st:=by
 unfold sects
 apply List.filter_congr
 intro s hs
 rw[Bool.eq_iff_iff,AmO hm hd (List.mem_range.1 hs),tC]
theorem Fair.bet {p:Plan} {ap:Int} {st:Nat × Nat} {T:List Int} (h:Fair p ap st T) (hst:st.2<3) {b:Nat × Nat} {n:Int} (hb1:b.1<p.secs.length) (hb2:b.2<3) (h0:0<=n) (hn:n<ap) (hr:Reach p st b n) (hlt:n<at_ T b):Fair p ap st (Nr.bet T b n)/\mass (Nr.bet T b n)<mass T:=by
 have hs:slot b<T.length:=by rw[h.len];exact slot_lt hb1 hb2
 have hne:st≠b:=by
  rintro rfl
  rw[h.first] at hlt
  omega
 refine⟨⟨by unfold Nr.bet;rw[List.length_set];exact h.len,λa ha1 ha2=>?_,?_⟩,yZ (at_get hs) h0 hlt⟩
 ·by_cases e:a=b
  ·subst e
   rw[bN hs]
   exact .inr ⟨h0,hn,hr⟩
  rw[bH hb2 ha2 e]
  exact h.least a ha1 ha2
 rw[bH hb2 hst hne]
 exact h.first
theorem fair_bd {p:Plan} {ap:Int} (hap:0<=ap) {st:Nat × Nat} {T:List Int} (h:Fair p ap st T) {a:Nat × Nat} (h1:a.1<p.secs.length) (h2:a.2<3):0<=at_ T a/\at_ T a<=ap:=by
 rcases h.least a h1 h2 with h|⟨h,h',-⟩ <;> omega
theorem AqC {n:Nat} {x:Int} {a:Nat × Nat} (h1:a.1<n) (h2:a.2<3):at_ (List.replicate (3*n) x) a=x:=by
 unfold at_
 rw[List.getElem?_replicate,ArZ (by omega)]
 rfl
theorem fair_start {p:Plan} {ap:Int} (hap:0<=ap) {st:Nat × Nat} (h1:st.1<p.secs.length) (h2:st.2<3):Fair p ap st (bet (List.replicate (3*p.secs.length) ap) st 0):=by
 have hs:slot st<(List.replicate (3*p.secs.length) ap).length:=by rw[List.length_replicate];exact slot_lt h1 h2
 refine⟨by unfold bet;rw[List.length_set,List.length_replicate],λa ha1 ha2=>?_,bN hs⟩
 by_cases e:a=st
 ·subst e
  rw[bN hs]
  by_cases h0:ap=0
  ·exact .inl h0.symm
  exact .inr ⟨Int.le_refl _,by omega,.start⟩
 rw[bH h2 ha2 e,AqC ha1 ha2]
 exact .inl rfl
def least (T:List Int) (s:Nat) (l y:Int) (L:List Stp):Int:=L.foldl (λm x=>min m (at_ T (s,x.t.toNat)+l)) y
theorem AcX (T:List Int) (s:Nat) (l y:Int) (L:List Stp) (x:Stp):least T s l y (L++[x])=min (least T s l y L) (at_ T (s,x.t.toNat)+l):=by
 unfold least
 rw[List.foldl_append]
 rfl
theorem least_take {T:List Int} {s:Nat} {l y:Int} {L:List Stp} {k:Nat} {x:Stp} (h:L[k]?=some x):least T s l y (L.take (k+1))=min (least T s l y (L.take k)) (at_ T (s,x.t.toNat)+l):=by
 rw[List.take_add_one,h]
 exact AcX ..
theorem pV (T:List Int) (s:Nat) (l:Int):∀ (L:List Stp) (y:Int),least T s l y L<=y
 | [],y=>Int.le_refl _
 | x :: L,y=>Int.le_trans (pV T s l L (min y (at_ T (s,x.t.toNat)+l))) (by omega)
theorem sL (T:List Int) (s:Nat) (l:Int):∀ (L:List Stp) (y:Int),∀ x∈L,least T s l y L<=at_ T (s,x.t.toNat)+l
 | [],_,x,hx=>by cases hx
 | z :: L,y,x,hx=>by
   rcases AsN.1 hx with rfl|hx
   ·exact Int.le_trans (pV T s l L (min y (at_ T (s,x.t.toNat)+l))) (by omega)
   exact sL T s l L _ x hx
theorem zA (T:List Int) (s:Nat) (l:Int):∀ (L:List Stp) (y:Int),least T s l y L=y∨∃ x∈L,least T s l y L=at_ T (s,x.t.toNat)+l
 | [],y=>.inl rfl
 | z :: L,y=>by
   have ih:=zA T s l L (min y (at_ T (s,z.t.toNat)+l))
   rcases ih with h|⟨x,hx,h⟩
   ·show least T s l (min y (at_ T (s,z.t.toNat)+l)) L=y∨∃ x∈z :: L,least T s l (min y (at_ T (s,z.t.toNat)+l)) L=_
    rw[h]
    by_cases hc:y<=at_ T (s,z.t.toNat)+l
    ·exact .inl (by omega)
    exact .inr ⟨z,List.mem_cons_self ..,by omega⟩
   exact .inr ⟨x,List.mem_cons_of_mem _ hx,h⟩
theorem least_none {p:Plan} {T:List Int} {s e:Nat} {b:Nat × Nat} (hn:next p s e=((b.1:Int),(b.2:Int),true)) (h:least T s (lenAt p s) (at_ T b) (outs p s e)=at_ T b):Fixed p T s e:=by
 intro c hc x hx k hk
 have e1:c=b:=by
  rw[hn] at hc
  simp only[Prod.mk.injEq] at hc
  exact Prod.ext (by omega) (by omega)
 subst e1
 have:=sL T s (lenAt p s) (outs p s e) (at_ T c) x hx
 rw[h,hk,AsP] at this
 exact this
theorem least_less {p:Plan} (hm:Lp.Meas p) {ap:Int} (hap:0<=ap) {st:Nat × Nat} {T:List Int} (hT:Fair p ap st T) {s e:Nat} (hs:s<p.secs.length) (he:e<3) {b:Nat × Nat} (hn:next p s e=((b.1:Int),(b.2:Int),true)) (hb1:b.1<p.secs.length) (hb2:b.2<3) {m:Int} (h:least T s (lenAt p s) (at_ T b) (outs p s e)=m) (hne:m≠at_ T b):0<=m/\m<ap/\Reach p st b m/\m<at_ T b:=by
 have h1:=pV T s (lenAt p s) (outs p s e) (at_ T b)
 have hl:=(lenAt_bd hm s).1
 have hbb:=fair_bd hap hT hb1 hb2
 rcases zA T s (lenAt p s) (outs p s e) (at_ T b) with h2|⟨x,hx,h2⟩
 ·omega
 have h3:=step_to hx (ArT e)
 have h4:x.t.toNat<3:=by omega
 have h5:=fair_bd hap hT (a:=(s,x.t.toNat)) hs h4
 have h6:=(hT.least (s,x.t.toNat) hs h4).resolve_left (by omega)
 refine⟨by omega,by omega,?_,by omega⟩
 rw[<-h,h2]
 exact Reach.step (a:=(s,x.t.toNat)) h6.2.2 ⟨e,he,⟨x,hx,by show x.t=((x.t.toNat:Nat):Int);omega⟩,hn⟩
structure Gone (p:Plan) (ap:Int) (st:Nat × Nat) (T T':List Int) (more:Bool) (Q:Prop):Prop where
 fair:Fair p ap st T'
 le:mass T'<=mass T
 less:more=true->mass T'<mass T
 same:more=false->T'=T/\Q
theorem Gone.next {p:Plan} {ap:Int} {st:Nat × Nat} {T T':List Int} {more:Bool} {Q R:Prop} (h:Gone p ap st T T' more Q) (hq:more=false->T'=T->Q->R):Gone p ap st T T' more R :=
 ⟨h.fair,h.le,h.less,λe=>⟨(h.same e).1,hq e (h.same e).1 (h.same e).2⟩⟩
theorem Gone.trans {p:Plan} {ap:Int} {st:Nat × Nat} {T T' T2:List Int} {m m2:Bool} {Q R S:Prop} (h:Gone p ap st T T' m Q) (g:Gone p ap st T' T2 m2 R) (hq:T'=T->Q->R->S):Gone p ap st T T2 (m || m2) S:=by
 obtain⟨h1,h2,h3,h4⟩:=h
 obtain⟨g1,g2,g3,g4⟩:=g
 refine⟨g1,ArS g2 h2,λe=>?_,λe=>?_⟩
 ·rcases Bool.or_eq_true_iff.1 e with e|e
  ·exact Nat.lt_of_le_of_lt g2 (h3 e)
  exact AsE (g3 e) h2
 obtain⟨e1,e2⟩:=Bool.or_eq_false_iff.1 e
 obtain⟨a,b⟩:=h4 e1
 obtain⟨c,d⟩:=g4 e2
 exact⟨c.trans a,hq a b d⟩
end Go.Proofs.YtjofpclmbjpgjaaGreat.Nr
