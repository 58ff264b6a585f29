/- Lemmas. -/
import Derived.Test.YtjofpclmbjpgjaaGreatMk24
import Derived.Lib.IndexLaws
import Derived.Lib.MinMax
import Derived.Shelf.Spec.TrailingZeros
set_option maxHeartbeats 16000000
set_option maxRecDepth 100000
namespace Go.Proofs.YtjofpclmbjpgjaaGreat
open Lib (hid)
open Go.RowKit
def LTx:Lies (List UInt8):=⟨1,by decide,λx=>[.string (txt x)],λ_=>rfl,λy u hu=>by
 simp at hu
 subst hu;rfl⟩
theorem kG {w:World} {b o:Nat} {x:List UInt8} (h:LTx.On w b o x):w.cell? ⟨b,o,none⟩=some (.string (txt x)):=h 0 _ rfl
theorem pL:(Tryz.prog.info? 9).map (λi=>(i.zero,i.size,i.bytes))=some (some (.string ByteArray.empty),1,16):=by kernel_rfl
def LBo:Lies Bool:=⟨1,by decide,λx=>[.bool x],λ_=>rfl,λy u hu=>by
 simp at hu
 subst hu;rfl⟩
theorem AlY {w:World} {b o:Nat} {x:Bool} (h:LBo.On w b o x):w.cell? ⟨b,o,none⟩=some (.bool x):=h 0 _ rfl
theorem AlZ:(Tryz.prog.info? 4).map (λi=>(i.zero,i.size,i.bytes))=some (some (.bool false),1,1):=by kernel_rfl
structure TableM where
 A0:Option Addr
 c0:Nat
 A1:Option Addr
 c1:Nat
 A2:Option Addr
 c2:Nat
 A4:Option Addr
 c4:Nat
 A5:Option Addr
 c5:Nat
 t:Tb.Table
abbrev tbV (m:TableM):Value:=.agg #[.slice m.A0 m.t.names.length m.c0,.slice m.A1 m.t.points.length m.c1,.slice m.A2 m.t.sigs.length m.c2,.int .i64 m.t.settle,.slice m.A4 m.t.routes.length m.c4,.slice m.A5 m.t.bars.length m.c5]
abbrev tbO (m:TableM):Obj:=.cells #[.slice m.A0 m.t.names.length m.c0,.slice m.A1 m.t.points.length m.c1,.slice m.A2 m.t.sigs.length m.c2,.int .i64 m.t.settle,.slice m.A4 m.t.routes.length m.c4,.slice m.A5 m.t.bars.length m.c5] 34
structure TableIn (w:World) (m:TableM):Prop where
 p0:LTx.Row w m.A0 m.t.names
 p1:LBo.Row w m.A1 m.t.points
 p2:LTx.Row w m.A2 m.t.sigs
 p4:RoutesIn w m.A4 m.t.routes
 p5:SetsIn w m.A5 m.t.bars
theorem TableIn.below {w w':World} {m:TableM} (h:TableIn w m) (hb:Below w.heap.size w w'):TableIn w' m :=
 ⟨h.p0.below rfl hb,h.p1.below rfl hb,h.p2.below rfl hb,h.p4.below hb,h.p5.below hb⟩
def AmA (x:Tb.Table × Int) (w:World) (e:Ending) (w':World):Prop:=∃ m:TableM,m.t=x.1/\e=.returned (.tuple #[tbV m,.int .i64 x.2])/\TableIn w' m/\Below w.heap.size w w'
theorem Lies.Row.two {α:Type} {E:Lies α} {w:World} {A:Option Addr} {L:List α} (h:E.Row w A L) {i k:Nat} {x y:α} (hx:L[i]?=some x) (hy:L[k]?=some y):∃ b o,A=some ⟨b,o,none⟩/\b<w.heap.size/\E.On w b (o+i*E.m) x/\E.On w b (o+k*E.m) y:=by
 obtain⟨h1,rfl⟩:=ArM hx
 obtain⟨h2,rfl⟩:=ArM hy
 obtain⟨b,o,e1,hb,on1⟩:=h.at h1
 obtain⟨b',o',e2,-,on2⟩:=h.at h2
 rw[e1] at e2
 cases e2
 exact⟨b,o,e1,hb,on1,on2⟩
theorem cA {w:World} {g:Nat} {m:TableM} (h:w.heap[g]?=some (tbO m)):(w.cell? ⟨g,0,none⟩=some (.slice m.A0 m.t.names.length m.c0)/\w.cell? ⟨g,1,none⟩=some (.slice m.A1 m.t.points.length m.c1)/\w.cell? ⟨g,2,none⟩=some (.slice m.A2 m.t.sigs.length m.c2)/\w.cell? ⟨g,3,none⟩=some (.int .i64 m.t.settle)/\w.cell? ⟨g,4,none⟩=some (.slice m.A4 m.t.routes.length m.c4)/\w.cell? ⟨g,5,none⟩=some (.slice m.A5 m.t.bars.length m.c5))/\g<w.heap.size :=
 ⟨⟨AsY w g 0 _ _ _ h,AsY w g 1 _ _ _ h,AsY w g 2 _ _ _ h,AsY w g 3 _ _ _ h,AsY w g 4 _ _ _ h,AsY w g 5 _ _ _ h⟩,(ArL h).1⟩
theorem yI {w:World} {A:Option Addr} {L:List Bool} (h:LBo.Row w A L) {k:Nat} (hk:k<L.length):∃ b o,A=some ⟨b,o,none⟩/\b<w.heap.size/\w.cell? ⟨b,o+k,none⟩=some (.bool (L.getD k false)):=by
 obtain⟨b,o,e,hb,on⟩:=h.at hk
 have c0:=AlY on
 rw[show k*LBo.m=k from Nat.mul_one k] at c0
 exact⟨b,o,e,hb,by rw[c0,Tb.getD_at (ArN hk)]⟩
theorem pM (A:Option Addr) (c n:Nat) (L:List Int) (A':Option Addr) (c' n':Nat) (M:List Int) (w:World) (hn:L.length=n) (h:aF.Row w A L) (hl:n<=1000000) (hn':M.length=n') (h':aF.Row w A' M) :
 Calls Tryz.prog 42 #[.slice A n c,.slice A' n' c'] w (OneIs (.bool (decide (L=M))) w):=by
 --[
 subst hn hn'
 have B0:=hid (AtB w)
 have HR:=hid h
 have HR':=hid h'
 clear h h'
 by_cases hn:L.length=M.length
 ·have E : ((L.length:Int) != (M.length:Int))=false:=by rw[bne_eq_false_iff_eq];omega
  have HN:=hid hn
  go_enter Tryz.func42,Tryz.ntmps42
  go_wp2_with fail
  go_loopw [5] (λv w'=>∃ j:Nat,j<=L.length/\v=.int .i64 j/\L.take j=M.take j/\Below w.heap.size w w') (λv _=>L.length-(intOf v).toNat)
  case atStart=>exact⟨0,AsD _,rfl,rfl,B0.out⟩
  case round =>
   obtain⟨j,hj,rfl,hp,hb⟩:=hrel
   by_cases hlt:j<L.length
   ·have hy:=ArN hlt
    have hy':=ArN (show j<M.length by omega)
    have HB:=hid hb
    obtain⟨b,o,rfl,hbb,on⟩:=(HR.out.below rfl hb).at hlt
    obtain⟨b',o',rfl,hbb',on'⟩:=(HR'.out.below rfl hb).at (show j<M.length by omega)
    generalize L[j]=x at hy on
    generalize M[j]=y at hy' on'
    have c0:=eU on
    have c0':=eU on'
    rw[show j*aF.m=j from Nat.mul_one j] at c0 c0'
    obtain⟨d1,i0,i1⟩:=ArK (show j<L.length by omega)
    have i1':(j:Int)<(M.length:Int):=by omega
    have HY:=hid (AsG hy hy')
    have HP:=hid hp
    clear hb hy hy' on on' hp E hn
    by_cases h1:x=y
    ·have E1:(x != y)=false:=by rw[bne_eq_false_iff_eq];exact h1
     have HP2:=hid (show L.take (j+1)=M.take (j+1) from by
      rw[List.take_add_one,List.take_add_one,HY.out.1,HY.out.2,HP.out,h1])
     clear h1
     go_upto_region 6 with fail
     go_quiet (fail)
     go_wp2
     go_roundw
     case rel=>exact⟨j+1,by omega,by go_num,HP2.out,aH HB.out _⟩
     case measure=>simp[intOf];omega
    have E1:(x != y)=true:=by rw[AsV];exact h1
    have HF:=hid (show decide (L=M)=false from decide_eq_false λe=>by
     have h3:=HY.out.1
     rw[e,HY.out.2] at h3
     cases h3
     exact h1 rfl)
    clear h1
    go_upto_region 6 with fail
    go_quiet (fail)
    go_wp2
    go_ret
    exact⟨by rw[HF.out] <;> rfl,aH HB.out _⟩
   obtain rfl:j=L.length:=by omega
   have d1:decide ((L.length:Int)<(L.length:Int))=false:=aB (by omega)
   have HB:=hid hb
   have HP:=hid (show decide (L=M)=true from decide_eq_true (by
    rw[List.take_length,hn,List.take_length] at hp
    exact hp))
   clear hb hp hn E
   go_wp2
   go_ret
   exact⟨by rw[HP.out] <;> rfl,HB.out⟩
 ·have E:((L.length:Int) != (M.length:Int))=true:=by rw[AsV];omega
  have P:=hid (show decide (L=M)=false from decide_eq_false λh=>hn (by rw[h]))
  clear hn
  go_enter Tryz.func42,Tryz.ntmps42
  go_wp2
  go_ret
  exact⟨by rw[P.out] <;> rfl,B0.out⟩
 --]
theorem RoutesIn.two {w:World} {A:Option Addr} {L:List Rt.Route} (h:RoutesIn w A L) {k:Nat} {y:Rt.Route} (hk:L[k]?=some y):∃ (b o:Nat) (m:RouteM),A=some ⟨b,o,none⟩/\b<w.heap.size/\m.r=y/\(∀ W,Below w.heap.size w W->LRt.On W b (o+k*9) m)/\PartsIn w m:=by
 obtain⟨b,o,m,h1,h2,h3,h4,h5⟩:=h.at hk
 exact⟨b,o,m,h1,h2,h3,λW hW=>h4.below h2 hW,h5⟩
theorem eA (w:World) (a b:Obj):((w.alloc a).alloc b).heap[w.heap.size]?=some a/\((w.alloc a).alloc b).heap[w.heap.size+1]?=some b/\Below w.heap.size w ((w.alloc a).alloc b):=by
 have s1:(w.alloc a).heap.size=w.heap.size+1:=by simp
 refine⟨?_,?_,((Below.refl _ _).alloc (ArR _) _).alloc (by omega) _⟩
 ·rw[heap_alloc_old _ _ (by omega)];exact AsW _ _
 rw[<-s1];exact AsW _ _
theorem pN (w:World) (a b:Obj):(((w.alloc a).alloc b).drew).heap[w.heap.size]?=some a/\(((w.alloc a).alloc b).drew).heap[w.heap.size+1]?=some b/\Below w.heap.size w (((w.alloc a).alloc b).drew) :=
 ⟨(eA w a b).1,(eA w a b).2.1,(eA w a b).2.2.drew⟩
def AqB (wr:World) (m1 m2:RouteM) (s6 s7:Value) (w':World):Prop:=∃ g6 g7:Nat,s6=.pointer (some ⟨g6,0,none⟩)/\s7=.pointer (some ⟨g7,0,none⟩)/\w'.heap[g6]?=some (rtO m1)/\w'.heap[g7]?=some (rtO m2)/\Below wr.heap.size wr w'
theorem AbZ (L:List Rt.Route) (A:Option Addr) (c:Nat) (B:Option Addr) (d:Nat) (w:World) (hA:RoutesIn w A L) (hB:RoutesIn w B L) (hl:L.length<=1000) (hs:∀ y∈L,y.steps.length<=1000/\y.lap.length<=1000/\y.pts.length<=1000/\y.fl.length<=1000/\y.near.length<=1000) :
 Calls Tryz.prog 17 #[.slice A L.length c,.slice B L.length d] w λe w'=>e=.returned (.bool true)/\Below w.heap.size w w':=by
 have IA:=hid hA
 have IB:=hid hB
 have HS:=hid hs
 clear hA hB hs
 go_enter Tryz.func17,Tryz.ntmps17
 go_wp2_with fail
 go_loopw [5] (λi wr=>∃ k:Nat,k<=L.length/\i=.int .i64 k/\Below w.heap.size w wr) (λi _=>L.length-(intOf i).toNat)
 case atStart=>exact⟨0,AsD _,rfl,Below.refl _ _⟩
 case round =>
  obtain⟨k,hk,rfl,hB⟩:=hrel
  have HB:=hid hB
  clear hB
  by_cases hlt:k<L.length
  ·have hy:=ArN hlt
   have hym:=HS.out _ (List.getElem_mem hlt)
   obtain⟨b1,o1,m1,rfl,hb1,hm1,hon1,hP1⟩:=(IA.out.below HB.out).two hy
   obtain⟨b2,o2,m2,rfl,hb2,hm2,hon2,hP2⟩:=(IB.out.below HB.out).two hy
   generalize L[k]=y at hy hym hm1 hm2
   obtain⟨A1,c1,A2,c2,A3,c3,A4,c4,A5,c5,r1⟩:=m1
   obtain⟨D1,e1,D2,e2,D3,e3,D4,e4,D5,e5,r2⟩:=m2
   simp only at hm1 hm2
   subst hm1
   subst hm2
   obtain⟨en,ex,ys,yl,yp,yf,yn,yd,yt⟩:=r2
   simp only at hym
   have W0:=hid (AtB wr)
   have K1:=hid (λW (hW:Below wr.heap.size wr W)=>mE (hon1 W hW))
   have K2:=hid (λW (hW:Below wr.heap.size wr W)=>mE (hon2 W hW))
   have P1:=hid hP1
   have P2:=hid hP2
   have i0:(0:Int)<=(k:Int):=ArT k
   have i1:(k:Int)<(L.length:Int):=by omega
   have d1:decide ((k:Int)<(L.length:Int))=true:=aC (by omega)
   have Q1:(en != en)=false:=by simp
   have Q2:(ex != ex)=false:=by simp
   have Q3:(yd != yd)=false:=by simp
   have Q4:(yt != yt)=false:=by simp
   clear hon1 hon2 hP1 hP2 hy
   go_upto_region 6 with fail
   obtain⟨x0,x1,x2,x3,x4,x5,x6,x7,x8⟩:=K1.out _ W0.out
   obtain⟨y0,y1,y2,y3,y4,y5,y6,y7,y8⟩:=K2.out _ W0.out
   simp only at x0 x1 x2 x3 x4 x5 x6 x7 x8 y0 y1 y2 y3 y4 y5 y6 y7 y8
   go_cut [6,7] from 13 to 92 (λs6 s7 w'=>AqB wr ⟨A1,c1,A2,c2,A3,c3,A4,c4,A5,c5,⟨en,ex,ys,yl,yp,yf,yn,yd,yt⟩⟩ ⟨D1,e1,D2,e2,D3,e3,D4,e4,D5,e5,⟨en,ex,ys,yl,yp,yf,yn,yd,yt⟩⟩ s6 s7 w')
   case first =>
    go_region_with (fail)
    all_goals go_wp2_with fail
    all_goals go_meet
    all_goals refine⟨_,_,rfl,rfl,?_,?_,?_⟩
    all_goals first
     | with_reducible exact(eA wr _ _).1
     | with_reducible exact(eA wr _ _).2.1
     | with_reducible exact(eA wr _ _).2.2
     | with_reducible exact(pN wr _ _).1
     | with_reducible exact(pN wr _ _).2.1
     | with_reducible exact(pN wr _ _).2.2
   case rest =>
    obtain⟨g6,g7,rfl,rfl,h6,h7,hb⟩:=hcut
    have T0:=hid (AtB wc)
    have BW:=hid hb
    have g6l:=(ArL h6).1
    have g7l:=(ArL h7).1
    have KS:=hid (λW (hW:Below wc.heap.size wc W)=>show W.cell? ⟨g6,0,none⟩=some (.int .i64 en)/\W.cell? ⟨g6,1,none⟩=some (.int .i64 ex)/\W.cell? ⟨g6,2,none⟩=some (.slice A1 ys.length c1)/\W.cell? ⟨g6,3,none⟩=some (.slice A2 yl.length c2)/\W.cell? ⟨g6,4,none⟩=some (.slice A3 yp.length c3)/\W.cell? ⟨g6,5,none⟩=some (.slice A4 yf.length c4)/\W.cell? ⟨g6,6,none⟩=some (.slice A5 yn.length c5)/\W.cell? ⟨g6,7,none⟩=some (.int .i64 yd)/\W.cell? ⟨g6,8,none⟩=some (.int .i64 yt)/\W.cell? ⟨g7,0,none⟩=some (.int .i64 en)/\W.cell? ⟨g7,1,none⟩=some (.int .i64 ex)/\W.cell? ⟨g7,2,none⟩=some (.slice D1 ys.length e1)/\W.cell? ⟨g7,3,none⟩=some (.slice D2 yl.length e2)/\W.cell? ⟨g7,4,none⟩=some (.slice D3 yp.length e3)/\W.cell? ⟨g7,5,none⟩=some (.slice D4 yf.length e4)/\W.cell? ⟨g7,6,none⟩=some (.slice D5 yn.length e5)/\W.cell? ⟨g7,7,none⟩=some (.int .i64 yd)/\W.cell? ⟨g7,8,none⟩=some (.int .i64 yt) from by
     obtain⟨⟨a0,a1,a2,a3,a4,a5,a6,a7,a8⟩,-,-⟩:=row9 ((hW.block _ g6l).trans h6)
     obtain⟨⟨z0,z1,z2,z3,z4,z5,z6,z7,z8⟩,-,-⟩:=row9 ((hW.block _ g7l).trans h7)
     exact⟨a0,a1,a2,a3,a4,a5,a6,a7,a8,z0,z1,z2,z3,z4,z5,z6,z7,z8⟩)
    have BX:=λW (hW:Below wc.heap.size wc W)=>BW.out.trans (hW.mono BW.out.size)
    have q1:=pB ys ys A1 c1 D1 e1
    have q2:=pB yl yl A2 c2 D2 e2
    have q3:=AbS A3 c3 yp D3 e3 yp
    have q4:=λW=>pM A4 c4 yf.length yf D4 e4 yf.length yf W rfl
    have q5:=λW=>pM A5 c5 yn.length yn D5 e5 yn.length yn W rfl
    simp only[decide_true] at q1 q2 q3 q4 q5
    have C1:=hid (λW (hW:Below wc.heap.size wc W)=>Made.of (w:=wc) hW (q1 W (P1.out.p1.below rfl (BX W hW)) (P2.out.p1.below rfl (BX W hW)) (by omega)))
    have C2:=hid (λW (hW:Below wc.heap.size wc W)=>Made.of (w:=wc) hW (q2 W (P1.out.p2.below rfl (BX W hW)) (P2.out.p2.below rfl (BX W hW)) (by omega)))
    have C3:=hid (λW (hW:Below wc.heap.size wc W)=>Made.of (w:=wc) hW (q3 W (P1.out.p3.below rfl (BX W hW)) (by omega) (P2.out.p3.below rfl (BX W hW)) (by omega)))
    have C4:=hid (λW (hW:Below wc.heap.size wc W)=>Made.of (w:=wc) hW (q4 W (P1.out.p4.below rfl (BX W hW)) (by omega) trivial (P2.out.p4.below rfl (BX W hW))))
    have C5:=hid (λW (hW:Below wc.heap.size wc W)=>Made.of (w:=wc) hW (q5 W (P1.out.p5.below rfl (BX W hW)) (by omega) trivial (P2.out.p5.below rfl (BX W hW))))
    clear q1 q2 q3 q4 q5 BX h6 h7 g6l g7l hb x0 x1 x2 x3 x4 x5 x6 x7 x8 y0 y1 y2 y3 y4 y5 y6 y7 y8 K1 K2 P1 P2 hym W0
    go_upto_region 7 with fail
    obtain⟨a0,a1,a2,a3,a4,a5,a6,a7,a8,a9,a10,a11,a12,a13,a14,a15,a16,a17⟩:=KS.out _ T0.out
    go_wp2_with fail
    refine(C1.out _ T0.out).mono ?_;rintro e w1 ⟨rfl,-,hu1,-⟩
    have U1:=hid hu1
    clear hu1 C1 a0 a1 a2 a3 a4 a5 a6 a7 a8 a9 a10 a11 a12 a13 a14 a15 a16 a17
    obtain⟨a0,a1,a2,a3,a4,a5,a6,a7,a8,a9,a10,a11,a12,a13,a14,a15,a16,a17⟩:=KS.out _ U1.out
    go_wp2_with fail
    refine(C2.out _ U1.out).mono ?_;rintro e w2 ⟨rfl,-,hu2,-⟩
    have U2:=hid hu2
    clear hu2 C2 a0 a1 a2 a3 a4 a5 a6 a7 a8 a9 a10 a11 a12 a13 a14 a15 a16 a17
    obtain⟨a0,a1,a2,a3,a4,a5,a6,a7,a8,a9,a10,a11,a12,a13,a14,a15,a16,a17⟩:=KS.out _ U2.out
    go_wp2_with fail
    refine(C3.out _ U2.out).mono ?_;rintro e w3 ⟨rfl,-,hu3,-⟩
    have U3:=hid hu3
    clear hu3 C3 a0 a1 a2 a3 a4 a5 a6 a7 a8 a9 a10 a11 a12 a13 a14 a15 a16 a17
    obtain⟨a0,a1,a2,a3,a4,a5,a6,a7,a8,a9,a10,a11,a12,a13,a14,a15,a16,a17⟩:=KS.out _ U3.out
    go_wp2_with fail
    refine(C4.out _ U3.out).mono ?_;rintro e w4 ⟨rfl,-,hu4,-⟩
    have U4:=hid hu4
    clear hu4 C4 a0 a1 a2 a3 a4 a5 a6 a7 a8 a9 a10 a11 a12 a13 a14 a15 a16 a17
    obtain⟨a0,a1,a2,a3,a4,a5,a6,a7,a8,a9,a10,a11,a12,a13,a14,a15,a16,a17⟩:=KS.out _ U4.out
    go_wp2_with fail
    refine(C5.out _ U4.out).mono ?_;rintro e w5 ⟨rfl,-,hu5,-⟩
    have U5:=hid hu5
    clear hu5 C5 a0 a1 a2 a3 a4 a5 a6 a7 a8 a9 a10 a11 a12 a13 a14 a15 a16 a17
    obtain⟨a0,a1,a2,a3,a4,a5,a6,a7,a8,a9,a10,a11,a12,a13,a14,a15,a16,a17⟩:=KS.out _ U5.out
    have HB2:=hid ((HB.out.trans (BW.out.mono HB.out.size)).trans (U5.out.mono (HB.out.trans (BW.out.mono HB.out.size)).size))
    go_wp2
    go_roundw
    case rel=>exact⟨k+1,by omega,by go_num,HB2.out⟩
    case measure=>simp[intOf];omega
  obtain rfl:k=L.length:=by omega
  go_wp2
  go_ret
  exact⟨rfl,HB.out⟩
theorem AhL (k:Nat) (w:World):Calls Tryz.prog 70 #[.int .i64 k] w λe w'=>e=.returned (.int .u32 ((2 ^ (k % 32):Nat):Int))/\w'=w:=by
 --[
 have Q:=hid (Bs.AeM (k % 32) (Nat.mod_lt _ (by decide)))
 have q1:(k:Int).tmod 32=((k % 32:Nat):Int):=by rw[Int.tmod_eq_emod_of_nonneg (ArT k)];omega
 have i0:(0:Int)<=((k % 32:Nat):Int):=ArT _
 go_enter Tryz.func70,Tryz.ntmps70
 go_wp2
 go_ret
 exact⟨by rw[<-Q.out] <;> rfl,rfl⟩
 --]
theorem pO (A:Option Addr) (c:Nat) (L:List Nat) (n:Int) (w:World) (h0:-9223372036854775808<=n/\n<=9223372036854775807) (_hl:L.length<=1000000000) :
 Calls Tryz.prog 69 #[.slice A L.length c,.int .i64 n] w λe w'=>e=.returned (.bool (Bs.fits L n))/\w'=w:=by
 --[
 by_cases hn:0<=n
 ·obtain⟨k,rfl⟩:∃ k:Nat,n=(k:Int):=⟨n.toNat,by omega⟩
  have d0:decide ((0:Int)<=(k:Int))=true:=aC hn
  have q:IntKind.i64.wrap ((k:Int).tdiv 32)=((k / 32:Nat):Int):=by
   rw[Int.tdiv_eq_ediv_of_nonneg hn,IntWalk.i64_in _ (by omega)];omega
  have E:Bs.fits L (k:Int)=decide (((k / 32:Nat):Int)<(L.length:Int)):=by
   unfold Bs.fits
   rw[d0,Bool.true_and,AsP]
   congr 1
   rw[eq_iff_iff];omega
  have HE:=hid E
  clear E
  go_enter Tryz.func69,Tryz.ntmps69
  go_wp2
  go_ret
  exact⟨by rw[HE.out] <;> rfl,rfl⟩
 ·have d0:decide ((0:Int)<=n)=false:=aB hn
  have HE:=hid (show Bs.fits L n=false from by unfold Bs.fits;rw[d0];rfl)
  clear hn
  go_enter Tryz.func69,Tryz.ntmps69
  go_wp2
  go_ret
  exact⟨by rw[HE.out] <;> rfl,rfl⟩
 --]
theorem yJ (w:World) (L:List Nat) (hl:L.length<=1000000000):(w.alloc (.cells (LWd.all L).toArray 82)).ownsRow w.heap.size 82 LWd.m (.slice (some ⟨w.heap.size,0,none⟩) L.length L.length) L.length (LWd.all L):=by
 have e:(LWd.all L).length=L.length*LWd.m:=LWd.all_len L
 refine⟨e,.inr ⟨w.heap.size,L.length,_,rfl,ArR _,AsW _ _,ArR _,by unfold maxLen;omega,by simpa using e,?_⟩⟩
 rw[<-e]
 simp
theorem AhM (n:Int) (w:World) (h0:-9223372036854775808<=n/\n<=1000000000):Calls Tryz.prog 68 #[.int .i64 n] w (SetOwn (Bs.new n) w):=by
 --[
 by_cases hn:n<1
 ·have D0:decide (n<1)=true:=aC hn
  have E:Bs.new n=[]:=ArZ hn
  rw[E]
  clear hn
  go_enter Tryz.func68,Tryz.ntmps68
  go_wp2
  go_ret
  exact⟨_,rfl,⟨rfl,.inl ⟨rfl,rfl⟩⟩,Below.refl _ _⟩
 have D0:decide (n<1)=false:=aB hn
 have E:Bs.new n=List.replicate ((n-1).toNat / 32+1) 0:=ArY hn
 rw[E]
 have q1:IntKind.i64.wrap (n-1)=n-1:=IntWalk.i64_in _ (by omega)
 have q2:IntKind.i64.wrap ((n-1).tdiv 32)=(((n-1).toNat / 32:Nat):Int):=by
  rw[Int.tdiv_eq_ediv_of_nonneg (by omega),IntWalk.i64_in _ (by omega)];omega
 have q3:IntKind.i64.wrap ((((n-1).toNat / 32:Nat):Int)+1)=(((n-1).toNat / 32+1:Nat):Int):=by
  rw[IntWalk.i64_in _ (by omega)];omega
 have hM:(n-1).toNat / 32+1<=31250001:=by omega
 generalize hm:(n-1).toNat / 32=m at q2 q3 hM ⊢
 generalize m+1=M at q3 hM ⊢
 have D1:decide ((536870911:Int)<(M:Int))=false:=aB (by omega)
 have hmk:=cK LWd (P:=Tryz.prog) 0 80 82 (.int .u32 0) 4 Tryz.underlying80 AbX rfl .i64 .i64 M (by omega) (by omega)
 have HB:=hid ((AtB w).alloc (ArR _) (.cells (LWd.all (List.replicate M 0)).toArray 82))
 have HO:=hid (yJ w (List.replicate M 0) (by rw[List.length_replicate];omega))
 rw[List.length_replicate] at HO
 clear hn E hm h0
 go_enter Tryz.func68,Tryz.ntmps68
 go_wp2
 go_ret
 exact⟨_,rfl,by rw[List.length_replicate];exact HO.out,HB.out⟩
 --]
theorem Bs.put_at {L:List Nat} {k:Nat} (h:k / 32<L.length):Bs.put L (k:Int)=L.set (k / 32) (L.getD (k / 32) 0 ||| 2 ^ (k % 32)):=by
 unfold Bs.put
 rw[ArZ (Bs.fits_iff.2 ⟨ArT k,by rw[AsP];exact h⟩),AsP]
theorem AmB (n:Int) (A:Option Addr) (c:Nat) (l:List Int) (w:World) (h0:-9223372036854775808<=n/\n<=1000000) (h:aF.Row w A l) (hl:l.length<=1000000) (hx:∀ x∈l,-9223372036854775808<=x/\x<=9223372036854775807) :
 Calls Tryz.prog 33 #[.int .i64 n,.slice A l.length c] w (SetOwn (Bs.ofL n l) w):=by
 --[
 have CN:=hid (AhM n w (by omega))
 have HR:=hid h
 have HX:=hid hx
 have HLN:=hid (Bs.new_len n)
 clear h hx
 go_enter Tryz.func33,Tryz.ntmps33
 go_wp2_with fail
 refine CN.out.mono ?_;rintro e w1 ⟨v,rfl,ho,hb⟩
 have HO:=hid ho
 have HB:=hid hb
 clear hb ho CN
 go_wp2_with fail
 go_loopw [7,12] (λ_ v2 w'=>∃ k:Nat,k<=l.length/\v2=.int .i64 k/\w'.ownsRow w.heap.size 82 LWd.m v (Bs.ofL n (l.take k)).length (LWd.all (Bs.ofL n (l.take k)))/\Below w.heap.size w w') (λ_ v2 _=>l.length-(intOf v2).toNat)
 case atStart=>exact⟨0,AsD _,rfl,HO.out,HB.out⟩
 case round =>
  obtain⟨k,hk,rfl,ho,hb⟩:=hrel
  have HB1:=hid hb
  have HO1:=hid ho
  by_cases hlt:k<l.length
  ·have hy:=ArN hlt
   obtain⟨hy1,hy2⟩:=HX.out _ (List.getElem_mem hlt)
   obtain⟨b1,o1,rfl,g1,on⟩:=(HR.out.below rfl hb).at hlt
   have HT:=hid (Bs.ofL_take (n:=n) hy)
   generalize l[k]=x at hy hy1 hy2 on HT
   have c0:=eU on
   rw[show k*aF.m=k from Nat.mul_one k] at c0
   obtain⟨d1,i0,i1⟩:=ArK (show k<l.length by omega)
   have hW:=Bs.W32.ofL n (l.take k)
   have hML:=Bs.ofL_len n (l.take k)
   have hM1:(Bs.ofL n (l.take k)).length<=1000000:=by
    have e:=HLN.out
    rw[hML,e]
    split <;> omega
   generalize Bs.ofL n (l.take k)=M at ho HO1 HT hW hML hM1
   clear hy on hb
   by_cases hxn:x<n
   ·have D2:decide (x<n)=true:=aC hxn
    rw[ArZ hxn] at HT
    by_cases hf:Bs.fits M x=true
    ·obtain⟨hn,hq⟩:=Bs.fits_iff.1 hf
     obtain⟨j,rfl⟩:∃ j:Nat,x=(j:Int):=⟨x.toNat,by omega⟩
     rw[AsP] at hq
     rcases sD ho with ⟨-,rfl⟩|⟨g,cap,rfl,hg,hg2⟩
     ·exact absurd hq (by simp)
     obtain⟨hc,hfz⟩:=AlX ho hq
     have hv:=hW.at (j / 32)
     have CF:=hid (λW=>pO (some ⟨g,0,none⟩) cap M (j:Int) W (by omega) (by omega))
     rw[hf] at CF
     have CB:=hid (λW=>AhL j W)
     rw[Bs.put_at hq] at HT
     have HG:=hid hg
     have q:IntKind.i64.wrap ((j:Int).tdiv 32)=((j / 32:Nat):Int):=by
      rw[Int.tdiv_eq_ediv_of_nonneg hn,IntWalk.i64_in _ (by omega)];omega
     have q2:(j:Int) / 32=((j / 32:Nat):Int):=by omega
     have q3:IntKind.i64.wrap ((j:Int) / 32)=((j / 32:Nat):Int):=by rw[IntWalk.i64_in _ (by omega)];omega
     have q4:IntKind.i64.wrap ((j / 32:Nat):Int)=((j / 32:Nat):Int):=IntWalk.i64_in _ (by omega)
     have e0:(0:Int)<=((j / 32:Nat):Int):=ArT _
     have e1:((j / 32:Nat):Int)<(M.length:Int):=by omega
     have hp2:(2:Nat) ^ (j % 32)<2 ^ 32:=Nat.pow_lt_pow_right (by decide) (Nat.mod_lt _ (by decide))
     have e:=u32_or_nat (M.getD (j / 32) 0) (2 ^ (j % 32)) hv hp2
     generalize hyy:M.getD (j / 32) 0 ||| 2 ^ (j % 32)=y at e HT
     generalize M.getD (j / 32) 0=u at hc hv e hyy
     have HW:=hid (λ(W:World) (hW:W.heap=wr.heap)=>(AeL (w:=W) (by unfold World.ownsRow at ho ⊢;rw[hW];exact ho) (j / 32) y))
     generalize j / 32=i at q q2 q3 q4 e0 e1 hc hfz HT HW
     generalize ((2 ^ (j % 32):Nat):Int)=z at CB e
     clear hf hq hn ho hyy hp2 hv hxn hW hML hM1 hy1 hy2
     go_upto_region 5 with fail
     go_wp2_with fail
     refine(CF.out _).mono ?_;rintro e2 z2 ⟨rfl,rfl⟩
     go_upto_region 6 with fail
     go_region_with (first
      | (go_at_call 70;(with_reducible refine(CB.out _).mono ?_);rintro e2 z3 ⟨rfl,rfl⟩))
     all_goals go_wp2_with fail
     all_goals go_roundw
     all_goals first
      | exact⟨k+1,by omega,by go_num,by rw[HT.out];exact(HW.out _ rfl).drew,(HB1.out.setCell (p:=⟨g,i,none⟩) HG.out _).drew⟩
      | (simp[intOf];omega)
    have hf2:Bs.fits M x=false:=by simpa using hf
    have HP:=hid (show Bs.put M x=M from ArY hf)
    rw[HP.out] at HT
    obtain⟨-,B,d,rfl,hd,hR⟩:=Lies.Row.of_own (E:=LWd) ho
    have CF:=hid (λW=>pO B d M x W (by omega) (by omega))
    rw[hf2] at CF
    clear hf hf2 ho hd hR hxn hW hML hM1 hy1 hy2 HP
    go_upto_region 5 with fail
    go_wp2_with fail
    refine(CF.out _).mono ?_;rintro e2 z2 ⟨rfl,rfl⟩
    go_wp2
    go_roundw
    case rel=>exact⟨k+1,by omega,by go_num,by rw[HT.out];exact HO1.out,HB1.out⟩
    case measure=>simp[intOf];omega
   have D2:decide (x<n)=false:=aB hxn
   rw[ArY hxn] at HT
   clear hxn ho hW hML hM1 hy1 hy2
   go_wp2
   go_roundw
   case rel=>exact⟨k+1,by omega,by go_num,by rw[HT.out];exact HO1.out,HB1.out⟩
   case measure=>simp[intOf];omega
  obtain rfl:k=l.length:=by omega
  have d1:decide ((l.length:Int)<(l.length:Int))=false:=aB (by omega)
  rw[List.take_length] at HO1
  clear hb ho
  go_wp2
  go_ret
  exact⟨_,rfl,HO1.out,HB1.out⟩
 --]
theorem AmC (w:World) (y:Int) {g:Nat} (hg:w.heap.size=g):aF.Row (w.alloc (.cells #[.int .i64 y] 3)) (some ⟨g,0,none⟩) [y]:=hg ▸ Lies.Row.fresh (E:=aF) w [y] 3
def NumsYes (L:List Int) (w:World) (e:Ending) (w':World):Prop:=∃ B d,e=.returned (.slice B L.length d)/\aF.Row w' B L/\L.length<=d/\Below w.heap.size w w'
theorem NumsYes.of_own {L:List Int} {w w':World} {base n:Nat} {v:Value} (h:w'.ownsRow base 3 aF.m v n (aF.all L)) (hn:n=L.length) (hb:Below w.heap.size w w'):NumsYes L w (.returned v) w':=by
 subst hn
 obtain⟨-,B,d,rfl,hc,hR⟩:=Lies.Row.of_own (E:=aF) h
 exact⟨B,d,rfl,hR,hc,hb⟩
theorem AmD:(Tryz.prog.info? 3).map (λi=>(i.zero,i.size,i.bytes))=some (some (.int .i64 0),1,8):=by kernel_rfl
theorem AhN (n:Int) (w:World) (h0:-9223372036854775808<=n/\n<=1000000000):Calls Tryz.prog 37 #[.int .i64 n] w (SetOwn (Bs.new n) w):=by
 --[
 by_cases hn:n<1
 ·have D0:decide (n<=0)=true:=aC (by omega)
  have E:Bs.new n=[]:=ArZ hn
  rw[E]
  clear hn
  go_enter Tryz.func37,Tryz.ntmps37
  go_wp2
  go_ret
  exact⟨_,rfl,⟨rfl,.inl ⟨rfl,rfl⟩⟩,Below.refl _ _⟩
 have D0:decide (n<=0)=false:=aB (by omega)
 have E:Bs.new n=List.replicate ((n-1).toNat / 32+1) 0:=ArY hn
 rw[E]
 have q1:IntKind.i64.wrap (n-1)=n-1:=IntWalk.i64_in _ (by omega)
 have q2:IntKind.i64.wrap ((n-1).tdiv 32)=(((n-1).toNat / 32:Nat):Int):=by
  rw[Int.tdiv_eq_ediv_of_nonneg (by omega),IntWalk.i64_in _ (by omega)];omega
 have q3:IntKind.i64.wrap ((((n-1).toNat / 32:Nat):Int)+1)=(((n-1).toNat / 32+1:Nat):Int):=by
  rw[IntWalk.i64_in _ (by omega)];omega
 have hM:(n-1).toNat / 32+1<=31250001:=by omega
 generalize hm:(n-1).toNat / 32=m at q2 q3 hM ⊢
 generalize m+1=M at q3 hM ⊢
 have hmk:=cK LWd (P:=Tryz.prog) 0 80 82 (.int .u32 0) 4 Tryz.underlying80 AbX rfl .i64 .i64 M (by omega) (by omega)
 have HB:=hid ((AtB w).alloc (ArR _) (.cells (LWd.all (List.replicate M 0)).toArray 82))
 have HO:=hid (yJ w (List.replicate M 0) (by rw[List.length_replicate];omega))
 rw[List.length_replicate] at HO
 clear hn E hm h0
 go_enter Tryz.func37,Tryz.ntmps37
 go_wp2
 go_ret
 exact⟨_,rfl,by rw[List.length_replicate];exact HO.out,HB.out⟩
 --]
theorem AcA (A:Option Addr) (c:Nat) (L:List Nat) (n:Int) (w:World) (h0:-9223372036854775808<=n/\n<=9223372036854775807) (h:LWd.Row w A L) (hw:Bs.W32 L) (hl:L.length<=1000000) :
 Calls Tryz.prog 39 #[.slice A L.length c,.int .i64 n] w (SetOwn (Bs.put L n) w):=by
 --[
 have HB:=hid ((AtB w).alloc (ArR _) (.cells #[] 82))
 have HR:=hid (h.below rfl HB.out)
 have HO:=hid (yG w rfl (ArR _))
 clear h
 obtain⟨i0,hi,hz0,hz1,hz2⟩:=info_parts AbX
 go_enter Tryz.func39,Tryz.ntmps39
 go_upto_region 1 with fail
 go_cut [5] from 6 to 32 (λv5 w'=>w'.ownsRow w.heap.size 82 LWd.m v5 L.length (LWd.all L)/\Below w.heap.size w w')
 case first =>
  go_wp2_with (at_builtin;refine aZ LWd rfl (.tmp 6) (.tmp 7) 80 rfl w.heap.size 82 i0 _ 4 Tryz.underlying80 hi hz0 hz1 hz2 rfl (.slice (some ⟨w.heap.size,0,none⟩) 0 0) 0 [] rfl HO.out A L.length c L rfl rfl HR.out (by omega) (by omega) (by simp) ?_;intro v1 w1 hown hg)
  have HB1:=hid (Below.grown HB.out hg (by simp) (λk hk=>by cases hk;exact ArR _))
  rw[Nat.zero_add,List.nil_append] at hown
  go_meet
  exact⟨hown,HB1.out⟩
 case rest =>
  obtain⟨ho,hb⟩:=hcut
  have HO1:=hid ho
  have HB1:=hid hb
  clear hb hi hz0 hz1 hz2
  by_cases hn:0<=n
  case neg =>
   have d0:decide ((0:Int)<=n)=false:=aB hn
   have HP:=hid (show Bs.put L n=L from ArY (by unfold Bs.fits;rw[d0];exact Bool.false_ne_true))
   clear hn ho
   go_wp2
   go_ret
   exact⟨_,rfl,by rw[HP.out];exact HO1.out,HB1.out⟩
  case pos =>
   obtain⟨k,rfl⟩:∃ k:Nat,n=(k:Int):=⟨n.toNat,by omega⟩
   have d0:decide ((0:Int)<=(k:Int))=true:=aC hn
   have q:IntKind.i64.wrap ((k:Int).tdiv 32)=((k / 32:Nat):Int):=by
    rw[Int.tdiv_eq_ediv_of_nonneg hn,IntWalk.i64_in _ (by omega)];omega
   have q2:(k:Int) / 32=((k / 32:Nat):Int):=by omega
   have q3:IntKind.i64.wrap ((k:Int) / 32)=((k / 32:Nat):Int):=by rw[IntWalk.i64_in _ (by omega)];omega
   have q4:IntKind.i64.wrap ((k / 32:Nat):Int)=((k / 32:Nat):Int):=IntWalk.i64_in _ (by omega)
   have e0:(0:Int)<=((k / 32:Nat):Int):=ArT _
   by_cases hk:k / 32<L.length
   ·rcases sD ho with ⟨-,rfl⟩|⟨g,cap,rfl,hg,hg2⟩
    ·exact absurd hk (by simp)
    obtain⟨hc,hfz⟩:=AlX ho hk
    have hv:=hw.at (k / 32)
    have HP:=hid (Bs.put_at hk)
    have HG:=hid hg
    have D1:decide (((k / 32:Nat):Int)<(L.length:Int))=true:=aC (by omega)
    have e1:((k / 32:Nat):Int)<(L.length:Int):=by omega
    have r1:(k:Int).tmod 32=((k % 32:Nat):Int):=by rw[Int.tmod_eq_emod_of_nonneg hn];omega
    have r2:(k:Int) % 32=((k % 32:Nat):Int):=by omega
    have r3:IntKind.u64.wrap ((k % 32:Nat):Int)=((k % 32:Nat):Int):=by rw[IntKind.wrap_u64];omega
    have r0:(0:Int)<=((k % 32:Nat):Int):=ArT _
    have rq:min (k % 32) 32=k % 32:=by omega
    have hp2:(2:Nat) ^ (k % 32)<2 ^ 32:=Nat.pow_lt_pow_right (by decide) (Nat.mod_lt _ (by decide))
    have e:=u32_or_nat (L.getD (k / 32) 0) (2 ^ (k % 32)) hv hp2
    rw[<-Bs.AeM (k % 32) (Nat.mod_lt _ (by decide))] at e
    generalize hy:L.getD (k / 32) 0 ||| 2 ^ (k % 32)=y at e HP
    generalize L.getD (k / 32) 0=x at hc hv e hy
    have HW:=hid (AeL ho (k / 32) y)
    generalize k / 32=i at q q2 q3 q4 D1 e0 e1 hc hfz HP HW hk
    generalize k % 32=j at r1 r2 r3 r0 rq e hy hp2
    clear hy hp2 ho hv hn hw
    go_wp2
    go_ret
    exact⟨_,rfl,by rw[HP.out];exact HW.out,HB1.out.setCell (p:=⟨g,i,none⟩) HG.out _⟩
   have D1:decide (((k / 32:Nat):Int)<(L.length:Int))=false:=aB (by omega)
   have HP:=hid (show Bs.put L (k:Int)=L from ArY (λh=>hk (by have:=(Bs.fits_iff.1 h).2;rwa [AsP] at this)))
   obtain⟨-,B,d,rfl,hd,hR⟩:=Lies.Row.of_own (E:=LWd) ho
   generalize k / 32=i at q q2 q3 q4 D1 e0 hk
   clear ho hd hR hn hw
   go_wp2
   go_ret
   exact⟨_,rfl,by rw[HP.out];exact HO1.out,HB1.out⟩
 --]
theorem AcB (A:Option Addr) (c n:Nat) (L:List Nat) (A':Option Addr) (c' n':Nat) (M:List Nat) (w:World) (hn:L.length=n) (h:LWd.Row w A L) (hl:n<=1000000) (hn':M.length=n') (h':LWd.Row w A' M) :
 Calls Tryz.prog 43 #[.slice A n c,.slice A' n' c'] w (OneIs (.bool (decide (L=M))) w):=by
 --[
 subst hn hn'
 have B0:=hid (AtB w)
 have HR:=hid h
 have HR':=hid h'
 clear h h'
 by_cases hn:L.length=M.length
 ·have E : ((L.length:Int) != (M.length:Int))=false:=by rw[bne_eq_false_iff_eq];omega
  have HN:=hid hn
  go_enter Tryz.func43,Tryz.ntmps43
  go_wp2_with fail
  go_loopw [5] (λv w'=>∃ j:Nat,j<=L.length/\v=.int .i64 j/\L.take j=M.take j/\Below w.heap.size w w') (λv _=>L.length-(intOf v).toNat)
  case atStart=>exact⟨0,AsD _,rfl,rfl,B0.out⟩
  case round =>
   obtain⟨j,hj,rfl,hp,hb⟩:=hrel
   by_cases hlt:j<L.length
   ·have hy:=ArN hlt
    have hy':=ArN (show j<M.length by omega)
    have HB:=hid hb
    obtain⟨b,o,rfl,hbb,on⟩:=(HR.out.below rfl hb).at hlt
    obtain⟨b',o',rfl,hbb',on'⟩:=(HR'.out.below rfl hb).at (show j<M.length by omega)
    generalize L[j]=x at hy on
    generalize M[j]=y at hy' on'
    have c0:=yF on
    have c0':=yF on'
    rw[show j*LWd.m=j from Nat.mul_one j] at c0 c0'
    obtain⟨d1,i0,i1⟩:=ArK (show j<L.length by omega)
    have i1':(j:Int)<(M.length:Int):=by omega
    have HY:=hid (AsG hy hy')
    have HP:=hid hp
    clear hb hy hy' on on' hp E hn
    by_cases h1:x=y
    ·have E1:((x:Int) != (y:Int))=false:=by rw[bne_eq_false_iff_eq,h1]
     have HP2:=hid (show L.take (j+1)=M.take (j+1) from by
      rw[List.take_add_one,List.take_add_one,HY.out.1,HY.out.2,HP.out,h1])
     clear h1
     go_upto_region 6 with fail
     go_quiet (fail)
     go_wp2
     go_roundw
     case rel=>exact⟨j+1,by omega,by go_num,HP2.out,aH HB.out _⟩
     case measure=>simp[intOf];omega
    have E1:((x:Int) != (y:Int))=true:=by rw[AsV];omega
    have HF:=hid (show decide (L=M)=false from decide_eq_false λe=>by
     have h3:=HY.out.1
     rw[e,HY.out.2] at h3
     cases h3
     exact h1 rfl)
    clear h1
    go_upto_region 6 with fail
    go_quiet (fail)
    go_wp2
    go_ret
    exact⟨by rw[HF.out] <;> rfl,aH HB.out _⟩
   obtain rfl:j=L.length:=by omega
   have d1:decide ((L.length:Int)<(L.length:Int))=false:=aB (by omega)
   have HB:=hid hb
   have HP:=hid (show decide (L=M)=true from decide_eq_true (by
    rw[List.take_length,hn,List.take_length] at hp
    exact hp))
   clear hb hp hn E
   go_wp2
   go_ret
   exact⟨by rw[HP.out] <;> rfl,HB.out⟩
 ·have E:((L.length:Int) != (M.length:Int))=true:=by rw[AsV];omega
  have P:=hid (show decide (L=M)=false from decide_eq_false λh=>hn (by rw[h]))
  clear hn
  go_enter Tryz.func43,Tryz.ntmps43
  go_wp2
  go_ret
  exact⟨by rw[P.out] <;> rfl,B0.out⟩
 --]
end Go.Proofs.YtjofpclmbjpgjaaGreat
