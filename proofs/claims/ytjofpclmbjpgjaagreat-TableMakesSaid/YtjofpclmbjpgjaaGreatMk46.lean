/- Lemmas. -/
import Derived.Test.YtjofpclmbjpgjaaGreatMk45
set_option maxHeartbeats 16000000
set_option maxRecDepth 100000
namespace Go.Proofs.YtjofpclmbjpgjaaGreat
open Lib (hid)
open Go.RowKit
abbrev tbN:List Pl.Nm:=[[69],[70],[80],[81],[84],[85],[86],[87]]
abbrev tbP:List Bool:=[false,false,true,true,false,false,false,false]
abbrev tbS:List Pl.Nm:=[[65],[66],[67],[68],[71],[72],[73],[74]]
theorem AnA {α:Type} {E:Lies α} (w:World) (base:Nat) (L:List α) (t:TypeId) (hb:base<=w.heap.size) (hl:L.length<=1000):(w.alloc (.cells (E.all L).toArray t)).ownsRow base t E.m (.slice (some ⟨w.heap.size,0,none⟩) L.length L.length) L.length (E.all L):=by
 refine⟨E.all_len L,.inr ⟨w.heap.size,L.length,(E.all L).toArray,rfl,hb,AsW _ _,ArR _,by unfold maxLen;omega,?_,?_⟩⟩
 ·rw[List.size_toArray];exact E.all_len L
 exact AsT (by rw[show L.length*E.m=(E.all L).length from(E.all_len L).symm];exact ArR _)
theorem AdG (w:World):Calls Tryz.prog 11 #[] w λe w'=>e=.returned (.string exL)/\w=w':=by
 go_enter Tryz.func11,Tryz.ntmps11
 go_wp2
 go_ret
 exact⟨rfl,rfl⟩
def AoT (w:World) (e:Ending) (w':World):Prop:=∃ A0 c0 A1 c1 A2 c2 A4 c4 A5 c5 R B,(8<=c0/\R.length=10/\B.length=10/\Tb.Bound ⟨tbN,tbP,tbS,2,R,B⟩/\Tb.right ⟨tbN,tbP,tbS,2,R,B⟩=true)/\e=.returned (.tuple #[.agg #[.slice A0 8 c0,.slice A1 8 c1,.slice A2 8 c2,.int .i64 2,.slice A4 10 c4,.slice A5 10 c5],.int .i64 0]) /\
 TableIn w' ⟨A0,c0,A1,c1,A2,c2,A4,c4,A5,c5,⟨tbN,tbP,tbS,2,R,B⟩⟩/\Below w.heap.size w w'
theorem AdH (A:Option Addr) (c:Nat) (A':Option Addr) (c':Nat) (w:World) (h:PlanIn w awL A A'):Calls Tryz.prog 6 #[aR awL A c A' c'] w (AoT w):=by
 obtain⟨T,hT,hN,hP,hS,hse,hR,hB,ht,hr⟩:=AoS
 obtain⟨hfit,hmeas,hap,hho⟩:=gN kS
 have hC:=mR awL hfit hmeas hap ⟨hho.1,by omega⟩ A c A' c' w h
 rw[hT] at hC
 refine hC.mono ?_
 rintro e w' ⟨m,hm,rfl,hI,hb⟩
 obtain⟨A0,c0,A1,c1,A2,c2,A4,c4,A5,c5,t⟩:=m
 obtain rfl:t=T:=hm
 obtain⟨N,P,S,se,R,B⟩:=t
 simp only at hN hP hS hse hR hB
 subst hN hP hS hse
 refine⟨A0,c0,A1,c1,A2,c2,A4,c4,A5,c5,R,B,⟨hI.q,hR,hB,ht.bound,hr⟩,?_,hI.in_,hb⟩
 show Ending.returned (.tuple #[.agg #[.slice A0 8 c0,.slice A1 8 c1,.slice A2 8 c2,.int .i64 2,.slice A4 R.length c4,.slice A5 B.length c5],.int .i64 0])=_
 rw[hR,hB]
theorem gR {w0:World} {A0 A1 A2 A4 A5:Option Addr} {c0 c1 c2 c4 c5:Nat} {N:List Pl.Nm} {se:Int} {R:List Rt.Route} {B:List (List Nat)} {z:Bool} (h:TableIn w0 ⟨A0,c0,A1,c1,A2,c2,A4,c4,A5,c5,⟨N,tbP,tbS,se,R,B⟩⟩) (hN:N.length=8) (hR:R.length=10) (hB:B.length=10) (hb:Tb.Bound ⟨N,tbP,tbS,se,R,B⟩) (hz:Tb.right ⟨N,tbP,tbS,se,R,B⟩=z) :
 ∀ W,Below w0.heap.size w0 W->Calls Tryz.prog 12 #[.agg #[.slice A0 8 c0,.slice A1 8 c1,.slice A2 8 c2,.int .i64 se,.slice A4 10 c4,.slice A5 10 c5]] W λe w'=>e=.returned (.bool z)/\Below w0.heap.size w0 w':=OneIs.keep λW hW=>by
 have:=kM ⟨A0,c0,A1,c1,A2,c2,A4,c4,A5,c5,⟨N,tbP,tbS,se,R,B⟩⟩ W (h.below hW) hb
 rw[hz] at this
 have:Calls Tryz.prog 12 #[.agg #[.slice A0 N.length c0,.slice A1 8 c1,.slice A2 8 c2,.int .i64 se,.slice A4 R.length c4,.slice A5 B.length c5]] W (OneIs (.bool z) W):=this
 rw[hN,hR,hB] at this
 exact this
theorem AdI (w0:World):∀ W,Below w0.heap.size w0 W->Calls Tryz.prog 12 #[.agg #[.slice none 0 0,.slice none 0 0,.slice none 0 0,.int .i64 0,.slice none 0 0,.slice none 0 0]] W λe w'=>e=.returned (.bool true)/\Below w0.heap.size w0 w':=OneIs.keep λW hW=>by
 have:=kM ⟨none,0,none,0,none,0,none,0,none,0,Tb.zero⟩ W (TableFar.zero 0 W).in_ Tb.AdF
 rw[Tb.AdE] at this
 exact this
theorem zS (w:World):Calls Tryz.prog 5 #[] w λe w'=>e=.returned (.bool true)/\Below w.heap.size w w':=by
 --[
 have CL:=hid AdG
 have CM:=hid (λW=>rR kS W)
 go_enter Tryz.func5,Tryz.ntmps5
 go_wp2_with fail
 refine(CL.out _).mono ?_;rintro e w0 ⟨rfl,rfl⟩
 go_wp2_with fail
 refine(CM.out _).mono ?_;rintro e w1 ⟨A,c,A',c',rfl,pin,hb1⟩
 have X1:=(AtB w1).alloc (ArR _) (aD awL A c A' c')
 have B2:=hid (hb1.trans (X1.mono hb1.size))
 have RP:=hid (AsW w1 (aD awL A c A' c'))
 have C3:=hid (AdH A c A' c' _ (pin.below X1))
 obtain⟨⟨p0,p1,p2,p3,p4,p5⟩,-,gx⟩:=row6 RP.out
 clear pin hb1 X1 CM CL
 go_upto_region 4 with fail
 generalize w1.alloc (aD awL A c A' c')=w2 at B2 RP C3 p0 p1 p2 p3 p4 p5 gx ⊢
 generalize w1.heap.size=gq at RP p0 p1 p2 p3 p4 p5 gx ⊢
 go_wp2_with fail
 refine C3.out.mono ?_;rintro e w3 ⟨A0,c0,A1,c1,A2,c2,A4,c4,A5,c5,R,B,⟨hc0,hR,hB,hbd,hrt⟩,rfl,hI,hb3⟩
 clear p0 p1 p2 p3 p4 p5 gx RP C3
 have H4:=AsW w3 (.cells #[.slice A0 8 c0,.slice A1 8 c1,.slice A2 8 c2,.int .i64 2,.slice A4 10 c4,.slice A5 10 c5] 34)
 have X4:=(AtB w3).alloc (ArR _) (.cells #[.slice A0 8 c0,.slice A1 8 c1,.slice A2 8 c2,.int .i64 2,.slice A4 10 c4,.slice A5 10 c5] 34)
 have I4:=hid (hI.below X4)
 have B4:=hid (B2.out.trans ((hb3.trans (X4.mono hb3.size)).mono B2.out.size))
 have HT:=hid H4
 obtain⟨⟨p0,p1,p2,p3,p4,p5⟩,-,gx⟩:=row6 H4
 have FX:=hid (AsG hR (AsG hB (AsG hbd hrt)))
 clear hI hb3 X4 B2 hR hB hbd hrt H4
 go_upto_region 5 with fail
 generalize w3.alloc (.cells #[.slice A0 8 c0,.slice A1 8 c1,.slice A2 8 c2,.int .i64 2,.slice A4 10 c4,.slice A5 10 c5] 34)=w4 at I4 B4 HT p0 p1 p2 p3 p4 p5 gx ⊢
 generalize w3.heap.size=g3 at HT p0 p1 p2 p3 p4 p5 gx ⊢
 have TW:=hid (eN w4 (.cells #[.slice A0 8 c0,.slice A1 8 c1,.slice A2 8 c2,.int .i64 (-1),.slice A4 10 c4,.slice A5 10 c5] 34) (.cells #[.slice A0 8 c0,.slice A1 8 c1,.slice A2 8 c2,.int .i64 2,.slice A4 10 c4,.slice A5 10 c5] 34))
 go_upto_region 10 with fail
 generalize (w4.alloc (.cells #[.slice A0 8 c0,.slice A1 8 c1,.slice A2 8 c2,.int .i64 (-1),.slice A4 10 c4,.slice A5 10 c5] 34)).alloc (.cells #[.slice A0 8 c0,.slice A1 8 c1,.slice A2 8 c2,.int .i64 2,.slice A4 10 c4,.slice A5 10 c5] 34)=w5 at TW ⊢
 obtain⟨T5,T6,hb5⟩:=TW.out
 have B5:=hid hb5
 have HT5:=hid ((hb5.block _ gx).trans HT.out)
 have g36:g3<w4.heap.size:=gx
 have hx5:=(ArL T5).1
 clear p0 p1 p2 p3 p4 p5 gx TW hb5 HT
 generalize hg6:w4.heap.size+1=g6 at T6 ⊢
 generalize hg5:w4.heap.size=g5 at T5 g36 hg6 hx5 ⊢
 have HU:=hid T5
 have HV:=hid T6
 clear T5 T6
 obtain⟨⟨p0,p1,p2,p3,p4,p5⟩,-,gx⟩:=row6 HT5.out
 have gv:=hid (ArL HV.out).1
 obtain⟨b0,o0,rfl,hb0,on7⟩:=I4.out.p0.at (k:=7) (show 7<8 by decide)
 have IP:=hid (I4.out.p0.below rfl B5.out)
 have XA:=hid ((AtB w5).alloc (ArR _) (.cells (LTx.all [[90]]).toArray 9))
 have HD:=hid ((Lies.Row.drop LTx IP.out 1).below rfl XA.out)
 have HO:=hid (AnA (E:=LTx) w5 w5.heap.size [[90]] 9 (ArR _) (by decide))
 have HG:=hid (AsG hg5 (AsG hg6 (AsG g36 hx5)))
 obtain⟨j0,hi,hz0,hz1,hz2⟩:=info_parts pL
 clear hb0 on7 IP hg5 hg6 g36 hx5
 go_upto_region 11 with (at_builtin;refine aG LTx _ rfl (.tmp 44) (.tmp 47) 29 rfl w5.heap.size 9 j0 _ 16 Tryz.underlying29 hi hz0 hz1 hz2 rfl _ 1 (LTx.all [[90]]) rfl HO.out (some ⟨b0,o0+1*LTx.m,none⟩) (c0-1) 7 (List.drop 1 tbN) rfl (by decide) rfl HD.out (by omega) (by omega) XA.out.size ?_;intro g9 cap9 w6 hown6 hg6 hgr;clear hgr;have hb6:=hid (Below.grown XA.out hg6 XA.out.size (λb hb=>(HO.out.lt b hb).1));have HO6:=hid hown6;clear hown6 hg6 p0 p1 p2 p3 p4 p5 gx;obtain⟨⟨p0,-⟩,⟨f0,-⟩,gx⟩:=row6 ((hb6.out.block _ gv.out).trans HV.out))
 clear p0 f0 gx
 obtain⟨rfl,rfl,g36,hx5⟩:=HG.out
 have hg9:=(HO6.out.lt g9 rfl).1
 have hgv:=gv.out
 have B6:=hid (B5.out.trans (hb6.out.mono B5.out.size))
 have B7:=hid (B6.out.setCell (p:=⟨w4.heap.size+1,0,none⟩) (Nat.le_succ _) (.slice (some ⟨g9,0,none⟩) 8 cap9))
 have HT7:=hid ((AsX w6 ⟨w4.heap.size+1,0,none⟩ g3 (.slice (some ⟨g9,0,none⟩) 8 cap9) (by simp only;omega)).trans ((hb6.out.block _ (by omega)).trans HT5.out))
 have HU7:=hid ((AsX w6 ⟨w4.heap.size+1,0,none⟩ w4.heap.size (.slice (some ⟨g9,0,none⟩) 8 cap9) (by simp only;omega)).trans ((hb6.out.block _ hx5).trans HU.out))
 have HV7:=hid (show (w6.setCell ⟨w4.heap.size+1,0,none⟩ (.slice (some ⟨g9,0,none⟩) 8 cap9)).heap[w4.heap.size+1]?=some (.cells #[.slice (some ⟨g9,0,none⟩) 8 cap9,.slice A1 8 c1,.slice A2 8 c2,.int .i64 2,.slice A4 10 c4,.slice A5 10 c5] 34) from AtA w6 _ 0 _ _ _ ((hb6.out.block _ hgv).trans HV.out))
 have HN7:=hid (aL (w':=w6.setCell ⟨w4.heap.size+1,0,none⟩ (.slice (some ⟨g9,0,none⟩) 8 cap9)) HO6.out λb hb=>by cases hb;exact AsX _ _ _ _ (by simp only;omega))
 clear hg9 hgv hx5 g36 HG HO HD XA HU HV HT5 B5 B6 hb6 gv HO6
 generalize w4.heap.size+1=g6 at HV7 HU7 HN7 HT7 B7 ⊢
 generalize w6.setCell ⟨g6,0,none⟩ (.slice (some ⟨g9,0,none⟩) 8 cap9)=w7 at HV7 HU7 HN7 HT7 B7 ⊢
 have I7:=I4.out.below B7.out
 have hN9:w7.ownsRow w5.heap.size 9 LTx.m (.slice (some ⟨g9,0,none⟩) 8 cap9) 8 (LTx.all [[90],[70],[80],[81],[84],[85],[86],[87]]):=HN7.out
 obtain⟨-,A9,c9,e9,-,hv⟩:=Lies.Row.of_own hN9
 cases e9
 obtain⟨hR,hB,hbd,hrt⟩:=FX.out
 have C1:=hid (gR I7 rfl hR hB hbd hrt)
 have C2:=hid (gR (w0:=w7) (c0:=c0) (c1:=c1) (c2:=c2) (c4:=c4) (c5:=c5) (se:=-1) ⟨I7.p0,I7.p1,I7.p2,I7.p4,I7.p5⟩ rfl hR hB (Tb.vO hbd _) (Tb.vM ⟨tbN,tbP,tbS,2,R,B⟩))
 have C3:=hid (gR (w0:=w7) (c0:=cap9) (c1:=c1) (c2:=c2) (c4:=c4) (c5:=c5) (N:=[[90],[70],[80],[81],[84],[85],[86],[87]]) (se:=2) ⟨hv,I7.p1,I7.p2,I7.p4,I7.p5⟩ rfl hR hB (Tb.zR hbd) (Tb.zQ (t:=⟨tbN,tbP,tbS,2,R,B⟩) Tb.vN))
 have C4:=hid (AdI w7)
 obtain⟨_,_,hA,hb0,on7⟩:=I7.p0.at (k:=7) (show 7<8 by decide)
 cases hA
 obtain⟨b1,o1,rfl,hb1,q2⟩:=yI I7.p1 (k:=2) (show 2<8 by decide)
 obtain⟨_,_,hA,-,q7⟩:=yI I7.p1 (k:=7) (show 7<8 by decide)
 cases hA
 obtain⟨b2,o2,rfl,hb2,om7⟩:=I7.p2.at (k:=7) (show 7<8 by decide)
 have s7:=kG on7
 have r7:=kG om7
 have K:=hid (λW (hW:Below w7.heap.size w7 W)=>AsG (row6 ((hW.block _ (ArL HT7.out).1).trans HT7.out)).1 (AsG (row6 ((hW.block _ (ArL HU7.out).1).trans HU7.out)).1 (AsG (row6 ((hW.block _ (ArL HV7.out).1).trans HV7.out)).1
  (AsG (show W.cell? ⟨b0,o0+7,none⟩=some (.string ⟨#[87]⟩) from(hW.cell (p:=⟨b0,o0+7,none⟩) hb0).trans s7) (AsG (show W.cell? ⟨b1,o1+2,none⟩=some (.bool true) from(hW.cell (p:=⟨b1,o1+2,none⟩) hb1).trans q2)
   (AsG (show W.cell? ⟨b1,o1+7,none⟩=some (.bool false) from(hW.cell (p:=⟨b1,o1+7,none⟩) hb1).trans q7) (show W.cell? ⟨b2,o2+7,none⟩=some (.string ⟨#[74]⟩) from(hW.cell (p:=⟨b2,o2+7,none⟩) hb2).trans r7)))))))
 clear hi hz0 hz1 hz2
 clear I7 hN9 hv hR hB hbd hrt on7 om7 s7 r7 q2 q7 HN7 FX I4 hb0 hb1 hb2
 have BX:=hid (B4.out.trans (B7.out.mono B4.out.size))
 generalize Value.tuple #[aR awL A c A' c',.bool true]=x1
 generalize (Value.agg #[.int .i64 awL.ov,.int .i64 awL.ap,.int .i64 awL.se,.int .i64 awL.ho,.slice A awL.secs.length c,.slice A' awL.sigs.length c'])=x2
 generalize aR awL A c A' c'=x3
 generalize Value.string exL=x4
 generalize Value.tuple #[.agg #[.slice (some ⟨b0,o0,none⟩) 8 c0,.slice (some ⟨b1,o1,none⟩) 8 c1,.slice (some ⟨b2,o2,none⟩) 8 c2,.int .i64 2,.slice A4 10 c4,.slice A5 10 c5],.int .i64 0]=x5
 generalize (Value.agg #[.slice (some ⟨b0,o0,none⟩) 8 c0,.slice (some ⟨b1,o1,none⟩) 8 c1,.slice (some ⟨b2,o2,none⟩) 8 c2,.int .i64 2,.slice A4 10 c4,.slice A5 10 c5])=x6
 refine dO (λW=>Below w7.heap.size w7 W) (Below.refl _ _) ?_
 try dsimp only[List.append]
 repeat ((first
  | refine InText.dead ?_
  | (refine InText.val (v:=?_) ?_ ?_;rotate_left;(focus (intro W hW;first|(go_simp;(try with_reducible rfl);done)|(obtain⟨⟨p0,p1,p2,p3,p4,p5⟩,⟨q0,q1,q2,q3,q4,q5⟩,⟨u0,u1,u2,u3,u4,u5⟩,y0,y1,y2,y3⟩:=K.out W hW;go_simp;(try with_reducible rfl);done))))
  | (refine InText.call (v:=?_) (f:=?_) (args:=?_) ?_ ?_ ?_;rotate_left 3;(focus (intro W hW;go_simp;constructor;with_reducible rfl;with_reducible rfl));(focus (first|with_reducible exact C1.out|with_reducible exact C2.out|with_reducible exact C3.out|with_reducible exact C4.out))));(try simp only[Act.put,ArO,ArP,ArQ]))
 refine InText.end_ λw8 hb8=>?_
 have F8:=hid (BX.out.trans (hb8.mono BX.out.size))
 clear hb8
 go_wp2
 go_ret
 exact⟨rfl,F8.out⟩
 --]
end Go.Proofs.YtjofpclmbjpgjaaGreat
