/-
  Texts of this claim, merged: RtSame, DmRefB.
-/
import Derived.Test.YtpdfbnolhpakoaaGreatMg14
import Derived.Test.YtpdfbnolhpakoaaGreatMg19
import Derived.Test.YtpdfbnolhpakoaaGreatMg20
import Derived.Deep.RegionHeld3
import Derived.Deep.RegionLaw
import Derived.Deep.RegionWith
namespace Go.Proofs.YtpdfbnolhpakoaaGreat
open Go.RowKit
set_option maxHeartbeats 4000000 in
set_option maxRecDepth 100000 in
theorem rtInts_any (A:Option Addr) (c n:Nat) (L:List Int) (A':Option Addr) (c' n':Nat) (M:List Int) (w:World) (hn:L.length=n) (h:LNum.Row w A L) (hl:n≤1000000) (hn':M.length=n') (h':LNum.Row w A' M) :
    Calls Tryz.prog 19 #[.slice A n c,.slice A' n' c'] w (OneIs (.bool (decide (L=M))) w):=by
  --[
  subst hn hn'
  have B0:=Lib.hid (Below.refl w.heap.size w)
  have HR:=Lib.hid h
  have HR':=Lib.hid h'
  clear h h'
  by_cases hn:L.length=M.length
  · have E : ((L.length:Int) != (M.length:Int))=false:=by rw[bne_eq_false_iff_eq];omega
    have HN:=Lib.hid hn
    go_enter Tryz.func19,Tryz.ntmps19
    go_wp2_with fail
    go_loopw [5] (fun v w'=>∃ j:Nat,j≤L.length∧v=.int .i64 j∧L.take j=M.take j∧Below w.heap.size w w') (fun v _=>L.length - (intOf v).toNat)
    case atStart=>exact ⟨0,Nat.zero_le _,rfl,rfl,B0.out⟩
    case round =>
      obtain ⟨j,hj,rfl,hp,hb⟩:=hrel
      by_cases hlt:j<L.length
      · have hy:=List.getElem?_eq_getElem hlt
        have hy':=List.getElem?_eq_getElem (show j<M.length by omega)
        have HB:=Lib.hid hb
        obtain ⟨b,o,rfl,hbb,on⟩:=(HR.out.below rfl hb).at hlt
        obtain ⟨b',o',rfl,hbb',on'⟩:=(HR'.out.below rfl hb).at (show j<M.length by omega)
        generalize L[j]=x at hy on
        generalize M[j]=y at hy' on'
        have c0:=num_on on
        have c0':=num_on on'
        rw [show j * LNum.m=j from Nat.mul_one j] at c0 c0'
        have d1:decide ((j:Int)<(L.length:Int))=true:=dec_t (by omega)
        have i0:(0:Int)≤(j:Int):=Int.natCast_nonneg j
        have i1:(j:Int)<(L.length:Int):=by omega
        have i1':(j:Int)<(M.length:Int):=by omega
        have HY:=Lib.hid (And.intro hy hy')
        have HP:=Lib.hid hp
        clear hb hy hy' on on' hp E hn
        by_cases h1:x=y
        · have E1:(x != y)=false:=by rw[bne_eq_false_iff_eq];exact h1
          have HP2:=Lib.hid (show L.take (j+1)=M.take (j+1) from by
            rw [List.take_add_one,List.take_add_one,HY.out.1,HY.out.2,HP.out,h1])
          clear h1
          go_upto_region 6 with fail
          go_quiet (fail)
          go_wp2_with fail
          go_roundw
          case rel=>exact ⟨j+1,by omega,by go_num,HP2.out,below_drewN HB.out _⟩
          case measure=>simp [intOf];omega
        · have E1:(x != y)=true:=by rw[bne_iff_ne];exact h1
          have HF:=Lib.hid (show decide (L=M)=false from decide_eq_false fun e=>by
            have h3:=HY.out.1
            rw [e,HY.out.2] at h3
            cases h3
            exact h1 rfl)
          clear h1
          go_upto_region 6 with fail
          go_quiet (fail)
          go_wp2_with fail
          go_ret
          exact ⟨by rw[HF.out] <;> rfl,below_drewN HB.out _⟩
      · obtain rfl:j=L.length:=by omega
        have d1:decide ((L.length:Int)<(L.length:Int))=false:=dec_f (by omega)
        have HB:=Lib.hid hb
        have HP:=Lib.hid (show decide (L=M)=true from decide_eq_true (by
          rw [List.take_length,hn,List.take_length] at hp
          exact hp))
        clear hb hp hn E
        go_wp2_with fail
        go_ret
        exact ⟨by rw[HP.out] <;> rfl,HB.out⟩
  · have E:((L.length:Int) != (M.length:Int))=true:=by rw[bne_iff_ne];omega
    have P:=Lib.hid (show decide (L=M)=false from decide_eq_false fun h=>hn (by rw[h]))
    clear hn
    go_enter Tryz.func19,Tryz.ntmps19
    go_wp2_with fail
    go_ret
    exact ⟨by rw[P.out] <;> rfl,B0.out⟩
  --]
theorem RoutesIn.two {w:World} {A:Option Addr} {L:List Rt.Route} (h:RoutesIn w A L) {k:Nat} {y:Rt.Route} (hk:L[k]? = some y):∃ (b o:Nat) (m:RouteM),A=some ⟨b,o,none⟩∧b<w.heap.size∧m.r=y∧(∀ W,Below w.heap.size w W→LRt.On W b (o+k * 9) m)∧PartsIn w m:=by
  obtain ⟨b,o,m,h1,h2,h3,h4,h5⟩:=h.at hk
  exact ⟨b,o,m,h1,h2,h3,fun W hW=>h4.below h2 hW,h5⟩
theorem two_boxes (w:World) (a b:Obj):((w.alloc a).alloc b).heap[w.heap.size]? = some a∧((w.alloc a).alloc b).heap[w.heap.size+1]? = some b∧Below w.heap.size w ((w.alloc a).alloc b):=by
  have s1:(w.alloc a).heap.size=w.heap.size+1:=by simp
  refine ⟨?_,?_,((Below.refl _ _).alloc (Nat.le_refl _) _).alloc (by omega) _⟩
  · rw[heap_alloc_old _ _ (by omega)];exact heap_alloc_new _ _
  · rw[← s1];exact heap_alloc_new _ _
theorem two_drew (w:World) (a b:Obj):(((w.alloc a).alloc b).drew).heap[w.heap.size]? = some a∧(((w.alloc a).alloc b).drew).heap[w.heap.size+1]? = some b∧Below w.heap.size w (((w.alloc a).alloc b).drew) :=
  ⟨(two_boxes w a b).1,(two_boxes w a b).2.1,(two_boxes w a b).2.2.drew⟩
def TwoRts (wr:World) (m1 m2:RouteM) (s6 s7:Value) (w':World):Prop:=∃ g6 g7:Nat,s6=.pointer (some ⟨g6,0,none⟩)∧s7=.pointer (some ⟨g7,0,none⟩)∧w'.heap[g6]? = some (rtO m1)∧w'.heap[g7]? = some (rtO m2)∧Below wr.heap.size wr w'
set_option maxHeartbeats 16000000 in
set_option maxRecDepth 100000 in
theorem rtSame_any (L:List Rt.Route) (A:Option Addr) (c:Nat) (B:Option Addr) (d:Nat) (w:World) (hA:RoutesIn w A L) (hB:RoutesIn w B L) (hl:L.length≤1000) (hs:∀ y∈L,y.steps.length≤1000∧y.lap.length≤1000∧y.pts.length≤1000∧y.fl.length≤1000∧y.near.length≤1000) :
    Calls Tryz.prog 11 #[.slice A L.length c,.slice B L.length d] w fun e w'=>e=.returned (.bool true)∧Below w.heap.size w w':=by
  have IA:=Lib.hid hA
  have IB:=Lib.hid hB
  have HS:=Lib.hid hs
  clear hA hB hs
  go_enter Tryz.func11,Tryz.ntmps11
  go_wp2_with fail
  go_loopw [5] (fun i wr=>∃ k:Nat,k≤L.length∧i=.int .i64 k∧Below w.heap.size w wr) (fun i _=>L.length - (intOf i).toNat)
  case atStart=>exact ⟨0,Nat.zero_le _,rfl,Below.refl _ _⟩
  case round =>
    obtain ⟨k,hk,rfl,hB⟩:=hrel
    have HB:=Lib.hid hB
    clear hB
    by_cases hlt:k<L.length
    · have hy:=List.getElem?_eq_getElem hlt
      have hym:=HS.out _ (List.getElem_mem hlt)
      obtain ⟨b1,o1,m1,rfl,hb1,hm1,hon1,hP1⟩:=(IA.out.below HB.out).two hy
      obtain ⟨b2,o2,m2,rfl,hb2,hm2,hon2,hP2⟩:=(IB.out.below HB.out).two hy
      generalize L[k]=y at hy hym hm1 hm2
      obtain ⟨A1,c1,A2,c2,A3,c3,A4,c4,A5,c5,r1⟩:=m1
      obtain ⟨D1,e1,D2,e2,D3,e3,D4,e4,D5,e5,r2⟩:=m2
      simp only at hm1 hm2
      subst hm1
      subst hm2
      obtain ⟨en,ex,ys,yl,yp,yf,yn,yd,yt⟩:=r2
      simp only at hym
      have W0:=Lib.hid (Below.refl wr.heap.size wr)
      have K1:=Lib.hid (fun W (hW:Below wr.heap.size wr W)=>rt_on (hon1 W hW))
      have K2:=Lib.hid (fun W (hW:Below wr.heap.size wr W)=>rt_on (hon2 W hW))
      have P1:=Lib.hid hP1
      have P2:=Lib.hid hP2
      have i0:(0:Int)≤(k:Int):=Int.natCast_nonneg k
      have i1:(k:Int)<(L.length:Int):=by omega
      have d1:decide ((k:Int)<(L.length:Int))=true:=dec_t (by omega)
      have Q1:(en != en)=false:=by simp
      have Q2:(ex != ex)=false:=by simp
      have Q3:(yd != yd)=false:=by simp
      have Q4:(yt != yt)=false:=by simp
      clear hon1 hon2 hP1 hP2 hy
      go_upto_region 6 with fail
      obtain ⟨x0,x1,x2,x3,x4,x5,x6,x7,x8⟩:=K1.out _ W0.out
      obtain ⟨y0,y1,y2,y3,y4,y5,y6,y7,y8⟩:=K2.out _ W0.out
      simp only at x0 x1 x2 x3 x4 x5 x6 x7 x8 y0 y1 y2 y3 y4 y5 y6 y7 y8
      go_cut [6,7] from 13 to 92 (fun s6 s7 w'=>TwoRts wr ⟨A1,c1,A2,c2,A3,c3,A4,c4,A5,c5,⟨en,ex,ys,yl,yp,yf,yn,yd,yt⟩⟩ ⟨D1,e1,D2,e2,D3,e3,D4,e4,D5,e5,⟨en,ex,ys,yl,yp,yf,yn,yd,yt⟩⟩ s6 s7 w')
      case first =>
        go_region_with (fail)
        all_goals go_wp2_with fail
        all_goals go_meet
        all_goals refine ⟨_,_,rfl,rfl,?_,?_,?_⟩
        all_goals first
          | with_reducible exact (two_boxes wr _ _).1
          | with_reducible exact (two_boxes wr _ _).2.1
          | with_reducible exact (two_boxes wr _ _).2.2
          | with_reducible exact (two_drew wr _ _).1
          | with_reducible exact (two_drew wr _ _).2.1
          | with_reducible exact (two_drew wr _ _).2.2
      case rest =>
        obtain ⟨g6,g7,rfl,rfl,h6,h7,hb⟩:=hcut
        have T0:=Lib.hid (Below.refl wc.heap.size wc)
        have BW:=Lib.hid hb
        have g6l:=(Array.getElem?_eq_some_iff.1 h6).1
        have g7l:=(Array.getElem?_eq_some_iff.1 h7).1
        have KS:=Lib.hid (fun W (hW:Below wc.heap.size wc W)=>show W.cell? ⟨g6,0,none⟩ = some (.int .i64 en)∧W.cell? ⟨g6,1,none⟩ = some (.int .i64 ex)∧W.cell? ⟨g6,2,none⟩ = some (.slice A1 ys.length c1)∧W.cell? ⟨g6,3,none⟩ = some (.slice A2 yl.length c2)∧W.cell? ⟨g6,4,none⟩ = some (.slice A3 yp.length c3)∧W.cell? ⟨g6,5,none⟩ = some (.slice A4 yf.length c4)∧W.cell? ⟨g6,6,none⟩ = some (.slice A5 yn.length c5)∧W.cell? ⟨g6,7,none⟩ = some (.int .i64 yd)∧W.cell? ⟨g6,8,none⟩ = some (.int .i64 yt)∧W.cell? ⟨g7,0,none⟩ = some (.int .i64 en)∧W.cell? ⟨g7,1,none⟩ = some (.int .i64 ex)∧W.cell? ⟨g7,2,none⟩ = some (.slice D1 ys.length e1)∧W.cell? ⟨g7,3,none⟩ = some (.slice D2 yl.length e2)∧W.cell? ⟨g7,4,none⟩ = some (.slice D3 yp.length e3)∧W.cell? ⟨g7,5,none⟩ = some (.slice D4 yf.length e4)∧W.cell? ⟨g7,6,none⟩ = some (.slice D5 yn.length e5)∧W.cell? ⟨g7,7,none⟩ = some (.int .i64 yd)∧W.cell? ⟨g7,8,none⟩ = some (.int .i64 yt) from by
          obtain ⟨⟨a0,a1,a2,a3,a4,a5,a6,a7,a8⟩,-,-⟩:=row9 ((hW.block _ g6l).trans h6)
          obtain ⟨⟨z0,z1,z2,z3,z4,z5,z6,z7,z8⟩,-,-⟩:=row9 ((hW.block _ g7l).trans h7)
          exact ⟨a0,a1,a2,a3,a4,a5,a6,a7,a8,z0,z1,z2,z3,z4,z5,z6,z7,z8⟩)
        have BX:=fun W (hW:Below wc.heap.size wc W)=>BW.out.trans (hW.mono BW.out.size)
        have q1:=rwSame_all ys ys A1 c1 D1 e1
        have q2:=rwSame_all yl yl A2 c2 D2 e2
        have q3:=rdSame_any A3 c3 yp D3 e3 yp
        have q4:=fun W=>rtInts_any A4 c4 yf.length yf D4 e4 yf.length yf W rfl
        have q5:=fun W=>rtInts_any A5 c5 yn.length yn D5 e5 yn.length yn W rfl
        simp only [decide_true] at q1 q2 q3 q4 q5
        have C1:=Lib.hid (fun W (hW:Below wc.heap.size wc W)=>Made.of (w:=wc) hW (q1 W (P1.out.p1.below rfl (BX W hW)) (P2.out.p1.below rfl (BX W hW)) (by omega)))
        have C2:=Lib.hid (fun W (hW:Below wc.heap.size wc W)=>Made.of (w:=wc) hW (q2 W (P1.out.p2.below rfl (BX W hW)) (P2.out.p2.below rfl (BX W hW)) (by omega)))
        have C3:=Lib.hid (fun W (hW:Below wc.heap.size wc W)=>Made.of (w:=wc) hW (q3 W (P1.out.p3.below rfl (BX W hW)) (by omega) (P2.out.p3.below rfl (BX W hW)) (by omega)))
        have C4:=Lib.hid (fun W (hW:Below wc.heap.size wc W)=>Made.of (w:=wc) hW (q4 W (P1.out.p4.below rfl (BX W hW)) (by omega) trivial (P2.out.p4.below rfl (BX W hW))))
        have C5:=Lib.hid (fun W (hW:Below wc.heap.size wc W)=>Made.of (w:=wc) hW (q5 W (P1.out.p5.below rfl (BX W hW)) (by omega) trivial (P2.out.p5.below rfl (BX W hW))))
        clear q1 q2 q3 q4 q5 BX h6 h7 g6l g7l hb x0 x1 x2 x3 x4 x5 x6 x7 x8 y0 y1 y2 y3 y4 y5 y6 y7 y8 K1 K2 P1 P2 hym W0
        go_upto_region 7 with fail
        obtain ⟨a0,a1,a2,a3,a4,a5,a6,a7,a8,a9,a10,a11,a12,a13,a14,a15,a16,a17⟩:=KS.out _ T0.out
        go_wp2_with fail
        refine (C1.out _ T0.out).mono ?_;rintro e w1 ⟨rfl,-,hu1,-⟩
        have U1:=Lib.hid hu1
        clear hu1 C1 a0 a1 a2 a3 a4 a5 a6 a7 a8 a9 a10 a11 a12 a13 a14 a15 a16 a17
        obtain ⟨a0,a1,a2,a3,a4,a5,a6,a7,a8,a9,a10,a11,a12,a13,a14,a15,a16,a17⟩:=KS.out _ U1.out
        go_wp2_with fail
        refine (C2.out _ U1.out).mono ?_;rintro e w2 ⟨rfl,-,hu2,-⟩
        have U2:=Lib.hid hu2
        clear hu2 C2 a0 a1 a2 a3 a4 a5 a6 a7 a8 a9 a10 a11 a12 a13 a14 a15 a16 a17
        obtain ⟨a0,a1,a2,a3,a4,a5,a6,a7,a8,a9,a10,a11,a12,a13,a14,a15,a16,a17⟩:=KS.out _ U2.out
        go_wp2_with fail
        refine (C3.out _ U2.out).mono ?_;rintro e w3 ⟨rfl,-,hu3,-⟩
        have U3:=Lib.hid hu3
        clear hu3 C3 a0 a1 a2 a3 a4 a5 a6 a7 a8 a9 a10 a11 a12 a13 a14 a15 a16 a17
        obtain ⟨a0,a1,a2,a3,a4,a5,a6,a7,a8,a9,a10,a11,a12,a13,a14,a15,a16,a17⟩:=KS.out _ U3.out
        go_wp2_with fail
        refine (C4.out _ U3.out).mono ?_;rintro e w4 ⟨rfl,-,hu4,-⟩
        have U4:=Lib.hid hu4
        clear hu4 C4 a0 a1 a2 a3 a4 a5 a6 a7 a8 a9 a10 a11 a12 a13 a14 a15 a16 a17
        obtain ⟨a0,a1,a2,a3,a4,a5,a6,a7,a8,a9,a10,a11,a12,a13,a14,a15,a16,a17⟩:=KS.out _ U4.out
        go_wp2_with fail
        refine (C5.out _ U4.out).mono ?_;rintro e w5 ⟨rfl,-,hu5,-⟩
        have U5:=Lib.hid hu5
        clear hu5 C5 a0 a1 a2 a3 a4 a5 a6 a7 a8 a9 a10 a11 a12 a13 a14 a15 a16 a17
        obtain ⟨a0,a1,a2,a3,a4,a5,a6,a7,a8,a9,a10,a11,a12,a13,a14,a15,a16,a17⟩:=KS.out _ U5.out
        have HB2:=Lib.hid ((HB.out.trans (BW.out.mono HB.out.size)).trans (U5.out.mono (HB.out.trans (BW.out.mono HB.out.size)).size))
        go_wp2_with fail
        go_roundw
        case rel=>exact ⟨k+1,by omega,by go_num,HB2.out⟩
        case measure=>simp [intOf];omega
    · obtain rfl:k=L.length:=by omega
      go_wp2_with fail
      go_ret
      exact ⟨rfl,HB.out⟩
end Go.Proofs.YtpdfbnolhpakoaaGreat
namespace Go.Proofs.YtpdfbnolhpakoaaGreat
open Go.RowKit
namespace Dm
theorem tw_at {α:Type} {p:α→Bool}:∀ {L:List α} {j:Nat},j<(L.takeWhile p).length→∃ y,L[j]? = some y∧p y=true
  | [],j,h=>by simp at h
  | x :: L,j,h=>by
    rw [List.takeWhile_cons] at h
    split at h
    · rename_i hp
      cases j with
      | zero=>exact ⟨x,rfl,hp⟩
      | succ j =>
        rw [List.length_cons] at h
        obtain ⟨y,hy,hq⟩:=tw_at (p:=p) (L:=L) (j:=j) (by omega)
        exact ⟨y,hy,hq⟩
    · simp at h
theorem tw_end {α:Type} {p:α→Bool}:∀ {L:List α} {y:α},L[(L.takeWhile p).length]? = some y→p y=false
  | [],y,h=>by simp at h
  | x :: L,y,h=>by
    rw [List.takeWhile_cons] at h
    split at h
    · exact tw_end (L:=L) (by simpa using h)
    · rename_i hp
      have:x=y:=by simpa using h
      rw [← this]
      exact Bool.not_eq_true _ ▸ hp
theorem tw_take {α:Type} (p:α→Bool) (L:List α):L.take (L.takeWhile p).length=L.takeWhile p:=by
  have h:L.takeWhile p++L.dropWhile p=L:=List.takeWhile_append_dropWhile
  have:=List.take_left (l₁:=L.takeWhile p) (l₂:=L.dropWhile p)
  rwa [h] at this
theorem tw_drop {α:Type} (p:α→Bool) (L:List α):L.drop (L.takeWhile p).length=L.dropWhile p:=by
  have h:L.takeWhile p++L.dropWhile p=L:=List.takeWhile_append_dropWhile
  have:=List.drop_left (l₁:=L.takeWhile p) (l₂:=L.dropWhile p)
  rwa [h] at this
theorem tw_le {α:Type} (p:α→Bool) (L:List α):(L.takeWhile p).length≤L.length:=by
  rw [← tw_take,List.length_take];omega
theorem put_free {L:List Dem} {x:Dem} (h:posOf L x.pt=0):put L x=L.take (L.takeWhile (low x.pt)).length++x :: L.drop (L.takeWhile (low x.pt)).length:=by
  unfold put
  rw [if_neg (by rw[h];decide),tw_take,tw_drop]
theorem put_had {L:List Dem} {x:Dem} (h:posOf L x.pt≠0):put L x=L:=by
  unfold put
  rw [if_pos h]
end Dm
def DemsOr (A:Option Addr) (L0 L:List Dm.Dem) (w:World) (e:Ending) (w':World):Prop:=∃ B d,e=.returned (.slice B L.length d)∧LDem.Row w' B L∧L.length≤d∧Below w.heap.size w w'∧((B=A∧L=L0)∨∀ a,B=some a→w.heap.size≤a.block)
theorem DemsOr.yes {A:Option Addr} {L0 L:List Dm.Dem} {w:World} {e:Ending} {w':World} (h:DemsOr A L0 L w e w'):DemsYes L w e w':=by
  obtain ⟨B,d,h1,h2,h3,h4,-⟩:=h
  exact ⟨B,d,h1,h2,h3,h4⟩
theorem DemsOr.of_own {A:Option Addr} {L0 L:List Dm.Dem} {w w':World} {base n:Nat} {v:Value} (h:w'.ownsRow base 98 LDem.m v n (LDem.all L)) (hn:n=L.length) (hb:Below w.heap.size w w') (hbase:w.heap.size≤base):DemsOr A L0 L w (.returned v) w':=by
  subst hn
  have hlt:=h.lt
  obtain ⟨-,B,d,rfl,hc,hR⟩:=Lies.Row.of_own (E:=LDem) h
  exact ⟨B,d,rfl,hR,hc,hb,.inr fun a ha=>by
    subst ha
    exact Nat.le_trans hbase (hlt a.block rfl).1⟩
theorem put_own {A:Option Addr} {L0 L:List Dm.Dem} {x:Dm.Dem} {j base:Nat} {w w':World} {v:Value} (h:w'.ownsRow base 98 LDem.m v (0+j+1+(L.length - j)) ([]++LDem.all (L.take j)++LDem.all [x]++LDem.all (L.drop j))) (hj:j≤L.length) (hb:Below w.heap.size w w') (hbase:w.heap.size≤base):DemsOr A L0 (L.take j++x :: L.drop j) w (.returned v) w':=by
  have e:[]++LDem.all (L.take j)++LDem.all [x]++LDem.all (L.drop j)=LDem.all (L.take j++x :: L.drop j):=by
    rw [List.nil_append,LDem.all_append,LDem.all_one,LDem.all_cons x (L.drop j),List.append_assoc]
  rw [e] at h
  exact DemsOr.of_own h (by rw[List.length_append,List.length_cons,List.length_take,List.length_drop];omega) hb hbase
theorem put_end {A:Option Addr} {L0 L:List Dm.Dem} {x:Dm.Dem} {j base:Nat} {w w':World} {v:Value} (hj:L.length=j) (h:w'.ownsRow base 98 LDem.m v (0+j+1+0) ([]++LDem.all (L.take j)++LDem.all [x]++LDem.all [])) (hb:Below w.heap.size w w') (hbase:w.heap.size≤base):DemsOr A L0 (L.take j++x :: L.drop j) w (.returned v) w':=by
  have h2:=put_own (A:=A) (L0:=L0) (L:=L) (x:=x) (j:=j) (base:=base) (w:=w) (w':=w') (v:=v)
  rw [show L.length - j=0 by omega,List.drop_eq_nil_of_le (show L.length≤j by omega)] at h2
  have:=h2 h (by omega) hb hbase
  rwa [List.drop_eq_nil_of_le (show L.length≤j by omega)]
theorem cell_posn {w:World} {g:Nat} {a b:Value} {t:TypeId} (h:w.heap[g]? = some (.cells #[a,b] t (0,0))):w.cell? ⟨g,0,none⟩ = some a∧w.cell? ⟨g,1,none⟩ = some b:=⟨cell_of_row w g 0 _ t _ h,cell_of_row w g 1 _ t _ h⟩
set_option maxHeartbeats 16000000 in
set_option maxRecDepth 100000 in
theorem rdPut_or (A : Option Addr) (c:Nat) (L:List Dm.Dem) (x:Dm.Dem) (w:World) (h:LDem.Row w A L) (hl:L.length≤1000) (hc:L.length≤c) :
    Calls Tryz.prog 90 #[.slice A L.length c,demV x] w (DemsOr A L (Dm.put L x) w):=by
  have X0:=Lib.hid ((Below.refl w.heap.size w).alloc (Nat.le_refl _) (demO x))
  have RX:=Lib.hid (heap_alloc_new w (demO x))
  have HR:=Lib.hid (h.below rfl X0.out)
  have CP:=Lib.hid (rdPosition_any A c L x.pt _ HR.out (by omega))
  have K0:=cell_posn RX.out
  obtain ⟨x0,x1⟩:=K0
  by_cases h0:Dm.posOf L x.pt=0
  · rw [h0] at CP
    have P:=Lib.hid (Dm.put_free h0)
    have HK:=Lib.hid (fun y=>(fun h=>Dm.tw_end (p:=Dm.low x.pt) (L:=L) (y:=y) h))
    have HK2:=Lib.hid (fun (j:Nat) (h:j<(L.takeWhile (Dm.low x.pt)).length)=>Dm.tw_at (p:=Dm.low x.pt) (L:=L) h)
    have hkl:=Dm.tw_le (Dm.low x.pt) L
    generalize (L.takeWhile (Dm.low x.pt)).length=k at P HK HK2 hkl
    clear h h0
    go_enter Tryz.func90,Tryz.ntmps90
    go_wp2_with fail
    generalize w.alloc (demO x)=w1 at X0 RX HR CP x0 x1 ⊢
    refine CP.out.mono ?_;rintro e w2 ⟨rfl,hb2⟩
    have B2:=Lib.hid hb2
    clear hb2 x0 x1
    go_wp2_with fail
    go_loopw [5] (fun v w'=>∃ j:Nat,j≤k∧v=.int .i64 j∧Below w1.heap.size w1 w') (fun v _=>L.length - (intOf v).toNat)
    case atStart=>exact ⟨0,Nat.zero_le _,rfl,B2.out⟩
    case round =>
      obtain ⟨j,hj,rfl,hb⟩:=hrel
      have HB:=Lib.hid hb
      obtain ⟨x0,x1⟩:=cell_posn ((hb.block _ (Array.getElem?_eq_some_iff.1 RX.out).1).trans RX.out)
      have gx:=(Array.getElem?_eq_some_iff.1 ((hb.block _ (Array.getElem?_eq_some_iff.1 RX.out).1).trans RX.out)).1
      by_cases hjk:j<k
      · obtain ⟨y,hy,hlow⟩:=HK2.out j hjk
        have hlt:=(List.getElem?_eq_some_iff.1 hy).1
        obtain ⟨b,o,rfl,hbb,on⟩:=(HR.out.below rfl hb).at hlt
        rw [(List.getElem?_eq_some_iff.1 hy).2] at on
        obtain ⟨c0,c1⟩:=dem_on on
        rw [show j * LDem.m=j * 2 from rfl] at c0 c1
        have D1:decide ((j:Int)<(L.length:Int))=true:=dec_t (by omega)
        have i0:(0:Int)≤(j:Int):=Int.natCast_nonneg j
        have i1:(j:Int)<(L.length:Int):=by omega
        have D2:decide (y.pt<x.pt)=true:=hlow
        clear hb hy hlow on
        go_upto_region 4 with fail
        go_quiet (fail)
        go_wp2_with fail
        go_roundw
        case rel=>exact ⟨j+1,by omega,by go_num,below_drewN HB.out _⟩
        case measure=>simp [intOf];omega
      · obtain rfl : j=k:=by omega
        have HB6:=Lib.hid (fun q=>below_drewN HB.out q)
        have HE:=Lib.hid hb
        have i0:(0:Int)≤(j:Int):=Int.natCast_nonneg j
        have ic:(j:Int)≤(c:Int):=by omega
        have il:(j:Int)≤(L.length:Int):=by omega
        have lc:(L.length:Int)≤(c:Int):=by omega
        have ic':j≤c:=by omega
        clear hb hjk
        by_cases hlt:j<L.length
        · have hy:=List.getElem?_eq_getElem hlt
          obtain ⟨b,o,rfl,hbb,on⟩:=(HR.out.below rfl HE.out).at hlt
          have D2:decide ((L[j]).pt<x.pt)=false:=HK.out _ hy
          generalize L[j]=y at hy on D2
          obtain ⟨c0,c1⟩:=dem_on on
          rw [show j * LDem.m=j * 2 from rfl] at c0 c1
          have D1:decide ((j:Int)<(L.length:Int))=true:=dec_t (by omega)
          have i1:(j:Int)<(L.length:Int):=by omega
          have hcj:¬ c=j:=by omega
          clear hy on
          go_upto_region 4 with fail
          go_quiet (fail)
          go_wp2_with fail
          go_upto_region 6 with fail
          clear c0 c1 D2 hbb D1 x0 x1 gx
          have B6:=Lib.hid (HB6.out nq)
          generalize wr.drewN nq=w6 at B6 ⊢
          obtain ⟨x0,x1⟩:=cell_posn ((B6.out.block _ (Array.getElem?_eq_some_iff.1 RX.out).1).trans RX.out)
          have gx:=(Array.getElem?_eq_some_iff.1 ((B6.out.block _ (Array.getElem?_eq_some_iff.1 RX.out).1).trans RX.out)).1
          have RW:=Lib.hid (fun W (hW:Below w6.heap.size w6 W)=>HR.out.below rfl (B6.out.trans (hW.mono B6.out.size)))
          have KX:=Lib.hid (fun W (hW:Below w6.heap.size w6 W)=>cell_posn ((hW.block _ (Array.getElem?_eq_some_iff.1 ((B6.out.block _ (Array.getElem?_eq_some_iff.1 RX.out).1).trans RX.out)).1).trans ((B6.out.block _ (Array.getElem?_eq_some_iff.1 RX.out).1).trans RX.out)))
          have B0:=Lib.hid (Below.refl w6.heap.size w6)
          obtain ⟨i0',hi,hz0,hz1,hz2⟩:=info_parts infoDem
          go_region_held3 (fun W=>W.cell? ⟨w.heap.size,0,none⟩ = some (.int .i64 x.pt)∧W.cell? ⟨w.heap.size,1,none⟩ = some (.int .i64 x.pos))
            (first | with_reducible exact KX.out _ B0.out.drew | with_reducible exact KX.out _ hb5 | with_reducible exact KX.out _ hb4 | with_reducible exact KX.out _ hb3 | (go_keep;done))
            (first
            | (refine step_append_at LDem (by rfl) (.tmp 28) (.tmp 31) 40 (by rfl) w6.heap.size 98 i0' _ 16 Tryz.underlying40 hi hz0 hz1 hz2 rfl (.slice (some ⟨w6.heap.size,0,none⟩) 0 0) 0 [] (by rfl) ((owndm_empty w6 rfl (Nat.le_refl _)).drew) (some ⟨b,o,none⟩) j c (L.take j) (by rfl) (by rw[List.length_take];omega) (Lies.Row.take LDem (RW.out _ (((Below.refl w6.heap.size w6).alloc (Nat.le_refl _) _).drew)) j) (by unfold maxLen;omega) (by omega) (by first | omega | (simp;done) | (simp;omega)) ?_
               intro v1 w3 hown1 hg1
               have hb3:Below w6.heap.size w6 w3:=Below.grown (((Below.refl w6.heap.size w6).alloc (by first | omega | (simp;done) | (simp;omega)) _).drew) hg1 (by first | omega | (simp;done) | (simp;omega)) (fun k hk=>by cases hk;first | omega | (simp;done) | (simp;omega))
               have hgl3:=hb3.size)
            | (refine step_append_at LDem (by rfl) (.tmp 28) (.tmp 31) 40 (by rfl) w6.heap.size 98 i0' _ 16 Tryz.underlying40 hi hz0 hz1 hz2 rfl (.slice (some ⟨w6.heap.size,0,none⟩) 0 0) 0 [] (by rfl) (((owndm_empty w6 rfl (Nat.le_refl _)).alloc _).drew) (some ⟨b,o,none⟩) j c (L.take j) (by rfl) (by rw[List.length_take];omega) (Lies.Row.take LDem (RW.out _ ((((Below.refl w6.heap.size w6).alloc (Nat.le_refl _) _).alloc (by first | omega | (simp;done) | (simp;omega)) _).drew)) j) (by unfold maxLen;omega) (by omega) (by first | omega | (simp;done) | (simp;omega)) ?_
               intro v1 w3 hown1 hg1
               have hb3:Below w6.heap.size w6 w3:=Below.grown ((((Below.refl w6.heap.size w6).alloc (by first | omega | (simp;done) | (simp;omega)) _).alloc (by first | omega | (simp;done) | (simp;omega)) _).drew) hg1 (by first | omega | (simp;done) | (simp;omega)) (fun k hk=>by cases hk;first | omega | (simp;done) | (simp;omega))
               have hgl3:=hb3.size
               have hx3:LDem.Row w3 (some ⟨w6.heap.size+1,0,none⟩) [x]:=OwnDm.row (own_kept (World.ownsRow.drew (owndm_one (w6.alloc (.cells #[] 98)) x (g:=w6.heap.size+1) (base:=w6.heap.size) (by simp))) (fun k hk=>by cases hk;exact hg1.block _ (by first | omega | (simp;done) | (simp;omega)) (fun h=>by simp [Value.ownBlock] at h))))
            | (refine step_append_at LDem (by rfl) (.tmp 28) (.tmp 31) 40 (by rfl) w6.heap.size 98 i0' _ 16 Tryz.underlying40 hi hz0 hz1 hz2 rfl (.slice (some ⟨w6.heap.size+1,0,none⟩) 0 0) 0 [] (by rfl) ((owndm_empty (w6.alloc (demO x)) (by simp) (by simp)).drew) (some ⟨b,o,none⟩) j c (L.take j) (by rfl) (by rw[List.length_take];omega) (Lies.Row.take LDem (RW.out _ ((((Below.refl w6.heap.size w6).alloc (Nat.le_refl _) _).alloc (by first | omega | (simp;done) | (simp;omega)) _).drew)) j) (by unfold maxLen;omega) (by omega) (by first | omega | (simp;done) | (simp;omega)) ?_
               intro v1 w3 hown1 hg1
               have hb3:Below w6.heap.size w6 w3:=Below.grown ((((Below.refl w6.heap.size w6).alloc (by first | omega | (simp;done) | (simp;omega)) _).alloc (by first | omega | (simp;done) | (simp;omega)) _).drew) hg1 (by first | omega | (simp;done) | (simp;omega)) (fun k hk=>by cases hk;first | omega | (simp;done) | (simp;omega))
               have hgl3:=hb3.size
               have hx3:LDem.Row w3 (some ⟨w6.heap.size,0,none⟩) [x]:=OwnDm.row (own_kept (World.ownsRow.drew (World.ownsRow.alloc (owndm_one w6 x (g:=w6.heap.size) (base:=w6.heap.size) rfl (Nat.le_refl _)) _)) (fun k hk=>by cases hk;exact hg1.block _ (by first | omega | (simp;done) | (simp;omega)) (fun h=>by simp [Value.ownBlock] at h))))
            | (refine step_append_at LDem (by rfl) (.tmp 32) (.tmp 34) 40 (by rfl) w6.heap.size 98 i0' _ 16 Tryz.underlying40 hi hz0 hz1 hz2 rfl v1 (0+j) ([]++LDem.all (L.take j)) (by rfl) (by first | exact hown1 | exact hown1.alloc _) (some ⟨w3.heap.size,0,none⟩) 1 1 [x] (by rfl) rfl ((owndm_one w3 x rfl hgl3).row) (by unfold maxLen;omega) (by omega) (by first | omega | (simp;done) | (simp;omega)) ?_
               intro v2 w4 hown2 hg2
               have hb4:Below w6.heap.size w6 w4:=Below.grown (hb3.alloc hb3.size _) hg2 (by first | omega | (simp;done) | (simp;omega)) (fun k hk=>(hown1.lt k hk).1))
            | (refine step_append_at LDem (by rfl) (.tmp 32) (.tmp 34) 40 (by rfl) w6.heap.size 98 i0' _ 16 Tryz.underlying40 hi hz0 hz1 hz2 rfl v1 (0+j) ([]++LDem.all (L.take j)) (by rfl) (by first | exact hown1 | exact hown1.alloc _) (some ⟨w6.heap.size+1,0,none⟩) 1 1 [x] (by rfl) rfl (hx3) (by unfold maxLen;omega) (by omega) (by first | omega | (simp;done) | (simp;omega)) ?_
               intro v2 w4 hown2 hg2
               have hb4:Below w6.heap.size w6 w4:=Below.grown (hb3) hg2 (by first | omega | (simp;done) | (simp;omega)) (fun k hk=>(hown1.lt k hk).1))
            | (refine step_append_at LDem (by rfl) (.tmp 32) (.tmp 34) 40 (by rfl) w6.heap.size 98 i0' _ 16 Tryz.underlying40 hi hz0 hz1 hz2 rfl v1 (0+j) ([]++LDem.all (L.take j)) (by rfl) (by first | exact hown1 | exact hown1.alloc _) (some ⟨w6.heap.size,0,none⟩) 1 1 [x] (by rfl) rfl (hx3) (by unfold maxLen;omega) (by omega) (by first | omega | (simp;done) | (simp;omega)) ?_
               intro v2 w4 hown2 hg2
               have hb4:Below w6.heap.size w6 w4:=Below.grown (hb3) hg2 (by first | omega | (simp;done) | (simp;omega)) (fun k hk=>(hown1.lt k hk).1))
            | (refine step_append_at LDem (by rfl) (.tmp 35) (.tmp 38) 40 (by rfl) w6.heap.size 98 i0' _ 16 Tryz.underlying40 hi hz0 hz1 hz2 rfl v2 (0+j+1) ([]++LDem.all (L.take j)++LDem.all [x]) (by rfl) hown2 (some ⟨b,o+j * 2,none⟩) (L.length - j) (c - j) (L.drop j) (by rfl) (by rw[List.length_drop]) (Lies.Row.drop LDem (RW.out _ hb4) j) (by unfold maxLen;omega) (by omega) hb4.size ?_
               intro v3 w5 hown3 hg3
               have hb5:Below w6.heap.size w6 w5:=Below.grown hb4 hg3 hb4.size (fun k hk=>(hown2.lt k hk).1)))
          all_goals go_wp2_with fail
          all_goals go_ret
          all_goals (rw[P.out];exact put_own hown3 (by omega) (X0.out.trans ((B6.out.trans (hb5.mono B6.out.size)).mono X0.out.size)) (Nat.le_trans X0.out.size B6.out.size))
        · have D1 : decide ((j:Int)<(L.length:Int))=false:=dec_f (by omega)
          by_cases h0:L=[]
          · subst h0
            obtain rfl:j=0:=by simp at hj;simp at hkl;omega
            cases A with
            | none =>
              go_upto_region 4 with fail
              go_quiet (fail)
              go_wp2_with fail
              go_upto_region 6 with fail
              clear D1 x0 x1 gx
              have B6:=Lib.hid (HB6.out nq)
              generalize wr.drewN nq=w6 at B6 ⊢
              obtain ⟨x0,x1⟩:=cell_posn ((B6.out.block _ (Array.getElem?_eq_some_iff.1 RX.out).1).trans RX.out)
              have gx:=(Array.getElem?_eq_some_iff.1 ((B6.out.block _ (Array.getElem?_eq_some_iff.1 RX.out).1).trans RX.out)).1
              have RW:=Lib.hid (fun W (hW:Below w6.heap.size w6 W)=>HR.out.below rfl (B6.out.trans (hW.mono B6.out.size)))
              have KX:=Lib.hid (fun W (hW:Below w6.heap.size w6 W)=>cell_posn ((hW.block _ (Array.getElem?_eq_some_iff.1 ((B6.out.block _ (Array.getElem?_eq_some_iff.1 RX.out).1).trans RX.out)).1).trans ((B6.out.block _ (Array.getElem?_eq_some_iff.1 RX.out).1).trans RX.out)))
              have B0:=Lib.hid (Below.refl w6.heap.size w6)
              obtain ⟨i0',hi,hz0,hz1,hz2⟩:=info_parts infoDem
              go_region_held3 (fun W=>W.cell? ⟨w.heap.size,0,none⟩ = some (.int .i64 x.pt)∧W.cell? ⟨w.heap.size,1,none⟩ = some (.int .i64 x.pos))
                (first | with_reducible exact KX.out _ B0.out.drew | with_reducible exact KX.out _ hb5 | with_reducible exact KX.out _ hb4 | with_reducible exact KX.out _ hb3 | (go_keep;done))
                (first
                | (refine step_append_at LDem (by rfl) (.tmp 28) (.tmp 31) 40 (by rfl) w6.heap.size 98 i0' _ 16 Tryz.underlying40 hi hz0 hz1 hz2 rfl (.slice (some ⟨w6.heap.size,0,none⟩) 0 0) 0 [] (by rfl) ((owndm_empty w6 rfl (Nat.le_refl _)).drew) _ 0 _ [] (by rfl) rfl (.inl rfl) (by unfold maxLen;omega) (by omega) (by first | omega | (simp;done) | (simp;omega)) ?_
                   intro v1 w3 hown1 hg1
                   have hb3:Below w6.heap.size w6 w3:=Below.grown (((Below.refl w6.heap.size w6).alloc (by first | omega | (simp;done) | (simp;omega)) _).drew) hg1 (by first | omega | (simp;done) | (simp;omega)) (fun k hk=>by cases hk;first | omega | (simp;done) | (simp;omega))
                   have hgl3:=hb3.size)
                | (refine step_append_at LDem (by rfl) (.tmp 28) (.tmp 31) 40 (by rfl) w6.heap.size 98 i0' _ 16 Tryz.underlying40 hi hz0 hz1 hz2 rfl (.slice (some ⟨w6.heap.size,0,none⟩) 0 0) 0 [] (by rfl) (((owndm_empty w6 rfl (Nat.le_refl _)).alloc _).drew) _ 0 _ [] (by rfl) rfl (.inl rfl) (by unfold maxLen;omega) (by omega) (by first | omega | (simp;done) | (simp;omega)) ?_
                   intro v1 w3 hown1 hg1
                   have hb3:Below w6.heap.size w6 w3:=Below.grown ((((Below.refl w6.heap.size w6).alloc (by first | omega | (simp;done) | (simp;omega)) _).alloc (by first | omega | (simp;done) | (simp;omega)) _).drew) hg1 (by first | omega | (simp;done) | (simp;omega)) (fun k hk=>by cases hk;first | omega | (simp;done) | (simp;omega))
                   have hgl3:=hb3.size
                   have hx3:LDem.Row w3 (some ⟨w6.heap.size+1,0,none⟩) [x]:=OwnDm.row (own_kept (World.ownsRow.drew (owndm_one (w6.alloc (.cells #[] 98)) x (g:=w6.heap.size+1) (base:=w6.heap.size) (by simp))) (fun k hk=>by cases hk;exact hg1.block _ (by first | omega | (simp;done) | (simp;omega)) (fun h=>by simp [Value.ownBlock] at h))))
                | (refine step_append_at LDem (by rfl) (.tmp 28) (.tmp 31) 40 (by rfl) w6.heap.size 98 i0' _ 16 Tryz.underlying40 hi hz0 hz1 hz2 rfl (.slice (some ⟨w6.heap.size+1,0,none⟩) 0 0) 0 [] (by rfl) ((owndm_empty (w6.alloc (demO x)) (by simp) (by simp)).drew) _ 0 _ [] (by rfl) rfl (.inl rfl) (by unfold maxLen;omega) (by omega) (by first | omega | (simp;done) | (simp;omega)) ?_
                   intro v1 w3 hown1 hg1
                   have hb3:Below w6.heap.size w6 w3:=Below.grown ((((Below.refl w6.heap.size w6).alloc (by first | omega | (simp;done) | (simp;omega)) _).alloc (by first | omega | (simp;done) | (simp;omega)) _).drew) hg1 (by first | omega | (simp;done) | (simp;omega)) (fun k hk=>by cases hk;first | omega | (simp;done) | (simp;omega))
                   have hgl3:=hb3.size
                   have hx3:LDem.Row w3 (some ⟨w6.heap.size,0,none⟩) [x]:=OwnDm.row (own_kept (World.ownsRow.drew (World.ownsRow.alloc (owndm_one w6 x (g:=w6.heap.size) (base:=w6.heap.size) rfl (Nat.le_refl _)) _)) (fun k hk=>by cases hk;exact hg1.block _ (by first | omega | (simp;done) | (simp;omega)) (fun h=>by simp [Value.ownBlock] at h))))
                | (refine step_append_at LDem (by rfl) (.tmp 32) (.tmp 34) 40 (by rfl) w6.heap.size 98 i0' _ 16 Tryz.underlying40 hi hz0 hz1 hz2 rfl v1 (0+0) ([]++LDem.all (List.nil (α:=Dm.Dem))) (by rfl) (by first | exact hown1 | exact hown1.alloc _) (some ⟨w3.heap.size,0,none⟩) 1 1 [x] (by rfl) rfl ((owndm_one w3 x rfl hgl3).row) (by unfold maxLen;omega) (by omega) (by first | omega | (simp;done) | (simp;omega)) ?_
                   intro v2 w4 hown2 hg2
                   have hb4:Below w6.heap.size w6 w4:=Below.grown (hb3.alloc hb3.size _) hg2 (by first | omega | (simp;done) | (simp;omega)) (fun k hk=>(hown1.lt k hk).1))
                | (refine step_append_at LDem (by rfl) (.tmp 32) (.tmp 34) 40 (by rfl) w6.heap.size 98 i0' _ 16 Tryz.underlying40 hi hz0 hz1 hz2 rfl v1 (0+0) ([]++LDem.all (List.nil (α:=Dm.Dem))) (by rfl) (by first | exact hown1 | exact hown1.alloc _) (some ⟨w6.heap.size+1,0,none⟩) 1 1 [x] (by rfl) rfl (hx3) (by unfold maxLen;omega) (by omega) (by first | omega | (simp;done) | (simp;omega)) ?_
                   intro v2 w4 hown2 hg2
                   have hb4:Below w6.heap.size w6 w4:=Below.grown (hb3) hg2 (by first | omega | (simp;done) | (simp;omega)) (fun k hk=>(hown1.lt k hk).1))
                | (refine step_append_at LDem (by rfl) (.tmp 32) (.tmp 34) 40 (by rfl) w6.heap.size 98 i0' _ 16 Tryz.underlying40 hi hz0 hz1 hz2 rfl v1 (0+0) ([]++LDem.all (List.nil (α:=Dm.Dem))) (by rfl) (by first | exact hown1 | exact hown1.alloc _) (some ⟨w6.heap.size,0,none⟩) 1 1 [x] (by rfl) rfl (hx3) (by unfold maxLen;omega) (by omega) (by first | omega | (simp;done) | (simp;omega)) ?_
                   intro v2 w4 hown2 hg2
                   have hb4:Below w6.heap.size w6 w4:=Below.grown (hb3) hg2 (by first | omega | (simp;done) | (simp;omega)) (fun k hk=>(hown1.lt k hk).1))
                | (refine step_append_at LDem (by rfl) (.tmp 35) (.tmp 38) 40 (by rfl) w6.heap.size 98 i0' _ 16 Tryz.underlying40 hi hz0 hz1 hz2 rfl v2 (0+0+1) ([]++LDem.all (List.nil (α:=Dm.Dem))++LDem.all [x]) (by rfl) hown2 _ 0 _ [] (by rfl) rfl (.inl rfl) (by unfold maxLen;omega) (by omega) hb4.size ?_
                   intro v3 w5 hown3 hg3
                   have hb5:Below w6.heap.size w6 w5:=Below.grown hb4 hg3 hb4.size (fun k hk=>(hown2.lt k hk).1)))
              all_goals go_wp2_with fail
              all_goals go_ret
              all_goals (rw[P.out];exact put_end (j:=0) (L:=[]) (by omega) hown3 (X0.out.trans ((B6.out.trans (hb5.mono B6.out.size)).mono X0.out.size)) (Nat.le_trans X0.out.size B6.out.size))
            | some a =>
              obtain ⟨b,o,sp⟩:=a
              by_cases hcj:c=0
              · subst hcj
                go_upto_region 4 with fail
                go_quiet (fail)
                go_wp2_with fail
                go_upto_region 6 with fail
                clear D1 x0 x1 gx
                have B6:=Lib.hid (HB6.out nq)
                generalize wr.drewN nq=w6 at B6 ⊢
                obtain ⟨x0,x1⟩:=cell_posn ((B6.out.block _ (Array.getElem?_eq_some_iff.1 RX.out).1).trans RX.out)
                have gx:=(Array.getElem?_eq_some_iff.1 ((B6.out.block _ (Array.getElem?_eq_some_iff.1 RX.out).1).trans RX.out)).1
                have RW:=Lib.hid (fun W (hW:Below w6.heap.size w6 W)=>HR.out.below rfl (B6.out.trans (hW.mono B6.out.size)))
                have KX:=Lib.hid (fun W (hW:Below w6.heap.size w6 W)=>cell_posn ((hW.block _ (Array.getElem?_eq_some_iff.1 ((B6.out.block _ (Array.getElem?_eq_some_iff.1 RX.out).1).trans RX.out)).1).trans ((B6.out.block _ (Array.getElem?_eq_some_iff.1 RX.out).1).trans RX.out)))
                have B0:=Lib.hid (Below.refl w6.heap.size w6)
                obtain ⟨i0',hi,hz0,hz1,hz2⟩:=info_parts infoDem
                go_region_held3 (fun W=>W.cell? ⟨w.heap.size,0,none⟩ = some (.int .i64 x.pt)∧W.cell? ⟨w.heap.size,1,none⟩ = some (.int .i64 x.pos))
                  (first | with_reducible exact KX.out _ B0.out.drew | with_reducible exact KX.out _ hb5 | with_reducible exact KX.out _ hb4 | with_reducible exact KX.out _ hb3 | (go_keep;done))
                  (first
                  | (refine step_append_at LDem (by rfl) (.tmp 28) (.tmp 31) 40 (by rfl) w6.heap.size 98 i0' _ 16 Tryz.underlying40 hi hz0 hz1 hz2 rfl (.slice (some ⟨w6.heap.size,0,none⟩) 0 0) 0 [] (by rfl) ((owndm_empty w6 rfl (Nat.le_refl _)).drew) _ 0 _ [] (by rfl) rfl (.inl rfl) (by unfold maxLen;omega) (by omega) (by first | omega | (simp;done) | (simp;omega)) ?_
                     intro v1 w3 hown1 hg1
                     have hb3:Below w6.heap.size w6 w3:=Below.grown (((Below.refl w6.heap.size w6).alloc (by first | omega | (simp;done) | (simp;omega)) _).drew) hg1 (by first | omega | (simp;done) | (simp;omega)) (fun k hk=>by cases hk;first | omega | (simp;done) | (simp;omega))
                     have hgl3:=hb3.size)
                  | (refine step_append_at LDem (by rfl) (.tmp 28) (.tmp 31) 40 (by rfl) w6.heap.size 98 i0' _ 16 Tryz.underlying40 hi hz0 hz1 hz2 rfl (.slice (some ⟨w6.heap.size,0,none⟩) 0 0) 0 [] (by rfl) (((owndm_empty w6 rfl (Nat.le_refl _)).alloc _).drew) _ 0 _ [] (by rfl) rfl (.inl rfl) (by unfold maxLen;omega) (by omega) (by first | omega | (simp;done) | (simp;omega)) ?_
                     intro v1 w3 hown1 hg1
                     have hb3:Below w6.heap.size w6 w3:=Below.grown ((((Below.refl w6.heap.size w6).alloc (by first | omega | (simp;done) | (simp;omega)) _).alloc (by first | omega | (simp;done) | (simp;omega)) _).drew) hg1 (by first | omega | (simp;done) | (simp;omega)) (fun k hk=>by cases hk;first | omega | (simp;done) | (simp;omega))
                     have hgl3:=hb3.size
                     have hx3:LDem.Row w3 (some ⟨w6.heap.size+1,0,none⟩) [x]:=OwnDm.row (own_kept (World.ownsRow.drew (owndm_one (w6.alloc (.cells #[] 98)) x (g:=w6.heap.size+1) (base:=w6.heap.size) (by simp))) (fun k hk=>by cases hk;exact hg1.block _ (by first | omega | (simp;done) | (simp;omega)) (fun h=>by simp [Value.ownBlock] at h))))
                  | (refine step_append_at LDem (by rfl) (.tmp 28) (.tmp 31) 40 (by rfl) w6.heap.size 98 i0' _ 16 Tryz.underlying40 hi hz0 hz1 hz2 rfl (.slice (some ⟨w6.heap.size+1,0,none⟩) 0 0) 0 [] (by rfl) ((owndm_empty (w6.alloc (demO x)) (by simp) (by simp)).drew) _ 0 _ [] (by rfl) rfl (.inl rfl) (by unfold maxLen;omega) (by omega) (by first | omega | (simp;done) | (simp;omega)) ?_
                     intro v1 w3 hown1 hg1
                     have hb3:Below w6.heap.size w6 w3:=Below.grown ((((Below.refl w6.heap.size w6).alloc (by first | omega | (simp;done) | (simp;omega)) _).alloc (by first | omega | (simp;done) | (simp;omega)) _).drew) hg1 (by first | omega | (simp;done) | (simp;omega)) (fun k hk=>by cases hk;first | omega | (simp;done) | (simp;omega))
                     have hgl3:=hb3.size
                     have hx3:LDem.Row w3 (some ⟨w6.heap.size,0,none⟩) [x]:=OwnDm.row (own_kept (World.ownsRow.drew (World.ownsRow.alloc (owndm_one w6 x (g:=w6.heap.size) (base:=w6.heap.size) rfl (Nat.le_refl _)) _)) (fun k hk=>by cases hk;exact hg1.block _ (by first | omega | (simp;done) | (simp;omega)) (fun h=>by simp [Value.ownBlock] at h))))
                  | (refine step_append_at LDem (by rfl) (.tmp 32) (.tmp 34) 40 (by rfl) w6.heap.size 98 i0' _ 16 Tryz.underlying40 hi hz0 hz1 hz2 rfl v1 (0+0) ([]++LDem.all (List.nil (α:=Dm.Dem))) (by rfl) (by first | exact hown1 | exact hown1.alloc _) (some ⟨w3.heap.size,0,none⟩) 1 1 [x] (by rfl) rfl ((owndm_one w3 x rfl hgl3).row) (by unfold maxLen;omega) (by omega) (by first | omega | (simp;done) | (simp;omega)) ?_
                     intro v2 w4 hown2 hg2
                     have hb4:Below w6.heap.size w6 w4:=Below.grown (hb3.alloc hb3.size _) hg2 (by first | omega | (simp;done) | (simp;omega)) (fun k hk=>(hown1.lt k hk).1))
                  | (refine step_append_at LDem (by rfl) (.tmp 32) (.tmp 34) 40 (by rfl) w6.heap.size 98 i0' _ 16 Tryz.underlying40 hi hz0 hz1 hz2 rfl v1 (0+0) ([]++LDem.all (List.nil (α:=Dm.Dem))) (by rfl) (by first | exact hown1 | exact hown1.alloc _) (some ⟨w6.heap.size+1,0,none⟩) 1 1 [x] (by rfl) rfl (hx3) (by unfold maxLen;omega) (by omega) (by first | omega | (simp;done) | (simp;omega)) ?_
                     intro v2 w4 hown2 hg2
                     have hb4:Below w6.heap.size w6 w4:=Below.grown (hb3) hg2 (by first | omega | (simp;done) | (simp;omega)) (fun k hk=>(hown1.lt k hk).1))
                  | (refine step_append_at LDem (by rfl) (.tmp 32) (.tmp 34) 40 (by rfl) w6.heap.size 98 i0' _ 16 Tryz.underlying40 hi hz0 hz1 hz2 rfl v1 (0+0) ([]++LDem.all (List.nil (α:=Dm.Dem))) (by rfl) (by first | exact hown1 | exact hown1.alloc _) (some ⟨w6.heap.size,0,none⟩) 1 1 [x] (by rfl) rfl (hx3) (by unfold maxLen;omega) (by omega) (by first | omega | (simp;done) | (simp;omega)) ?_
                     intro v2 w4 hown2 hg2
                     have hb4:Below w6.heap.size w6 w4:=Below.grown (hb3) hg2 (by first | omega | (simp;done) | (simp;omega)) (fun k hk=>(hown1.lt k hk).1))
                  | (refine step_append_at LDem (by rfl) (.tmp 35) (.tmp 38) 40 (by rfl) w6.heap.size 98 i0' _ 16 Tryz.underlying40 hi hz0 hz1 hz2 rfl v2 (0+0+1) ([]++LDem.all (List.nil (α:=Dm.Dem))++LDem.all [x]) (by rfl) hown2 _ 0 _ [] (by rfl) rfl (.inl rfl) (by unfold maxLen;omega) (by omega) hb4.size ?_
                     intro v3 w5 hown3 hg3
                     have hb5:Below w6.heap.size w6 w5:=Below.grown hb4 hg3 hb4.size (fun k hk=>(hown2.lt k hk).1)))
                all_goals go_wp2_with fail
                all_goals go_ret
                all_goals (rw[P.out];exact put_end (j:=0) (L:=[]) (by omega) hown3 (X0.out.trans ((B6.out.trans (hb5.mono B6.out.size)).mono X0.out.size)) (Nat.le_trans X0.out.size B6.out.size))
              ·
                go_upto_region 4 with fail
                go_quiet (fail)
                go_wp2_with fail
                go_upto_region 6 with fail
                clear D1 x0 x1 gx
                have B6:=Lib.hid (HB6.out nq)
                generalize wr.drewN nq=w6 at B6 ⊢
                obtain ⟨x0,x1⟩:=cell_posn ((B6.out.block _ (Array.getElem?_eq_some_iff.1 RX.out).1).trans RX.out)
                have gx:=(Array.getElem?_eq_some_iff.1 ((B6.out.block _ (Array.getElem?_eq_some_iff.1 RX.out).1).trans RX.out)).1
                have RW:=Lib.hid (fun W (hW:Below w6.heap.size w6 W)=>HR.out.below rfl (B6.out.trans (hW.mono B6.out.size)))
                have KX:=Lib.hid (fun W (hW:Below w6.heap.size w6 W)=>cell_posn ((hW.block _ (Array.getElem?_eq_some_iff.1 ((B6.out.block _ (Array.getElem?_eq_some_iff.1 RX.out).1).trans RX.out)).1).trans ((B6.out.block _ (Array.getElem?_eq_some_iff.1 RX.out).1).trans RX.out)))
                have B0:=Lib.hid (Below.refl w6.heap.size w6)
                obtain ⟨i0',hi,hz0,hz1,hz2⟩:=info_parts infoDem
                go_region_held3 (fun W=>W.cell? ⟨w.heap.size,0,none⟩ = some (.int .i64 x.pt)∧W.cell? ⟨w.heap.size,1,none⟩ = some (.int .i64 x.pos))
                  (first | with_reducible exact KX.out _ B0.out.drew | with_reducible exact KX.out _ hb5 | with_reducible exact KX.out _ hb4 | with_reducible exact KX.out _ hb3 | (go_keep;done))
                  (first
                  | (refine step_append_at LDem (by rfl) (.tmp 28) (.tmp 31) 40 (by rfl) w6.heap.size 98 i0' _ 16 Tryz.underlying40 hi hz0 hz1 hz2 rfl (.slice (some ⟨w6.heap.size,0,none⟩) 0 0) 0 [] (by rfl) ((owndm_empty w6 rfl (Nat.le_refl _)).drew) _ 0 _ [] (by rfl) rfl (.inl rfl) (by unfold maxLen;omega) (by omega) (by first | omega | (simp;done) | (simp;omega)) ?_
                     intro v1 w3 hown1 hg1
                     have hb3:Below w6.heap.size w6 w3:=Below.grown (((Below.refl w6.heap.size w6).alloc (by first | omega | (simp;done) | (simp;omega)) _).drew) hg1 (by first | omega | (simp;done) | (simp;omega)) (fun k hk=>by cases hk;first | omega | (simp;done) | (simp;omega))
                     have hgl3:=hb3.size)
                  | (refine step_append_at LDem (by rfl) (.tmp 28) (.tmp 31) 40 (by rfl) w6.heap.size 98 i0' _ 16 Tryz.underlying40 hi hz0 hz1 hz2 rfl (.slice (some ⟨w6.heap.size,0,none⟩) 0 0) 0 [] (by rfl) (((owndm_empty w6 rfl (Nat.le_refl _)).alloc _).drew) _ 0 _ [] (by rfl) rfl (.inl rfl) (by unfold maxLen;omega) (by omega) (by first | omega | (simp;done) | (simp;omega)) ?_
                     intro v1 w3 hown1 hg1
                     have hb3:Below w6.heap.size w6 w3:=Below.grown ((((Below.refl w6.heap.size w6).alloc (by first | omega | (simp;done) | (simp;omega)) _).alloc (by first | omega | (simp;done) | (simp;omega)) _).drew) hg1 (by first | omega | (simp;done) | (simp;omega)) (fun k hk=>by cases hk;first | omega | (simp;done) | (simp;omega))
                     have hgl3:=hb3.size
                     have hx3:LDem.Row w3 (some ⟨w6.heap.size+1,0,none⟩) [x]:=OwnDm.row (own_kept (World.ownsRow.drew (owndm_one (w6.alloc (.cells #[] 98)) x (g:=w6.heap.size+1) (base:=w6.heap.size) (by simp))) (fun k hk=>by cases hk;exact hg1.block _ (by first | omega | (simp;done) | (simp;omega)) (fun h=>by simp [Value.ownBlock] at h))))
                  | (refine step_append_at LDem (by rfl) (.tmp 28) (.tmp 31) 40 (by rfl) w6.heap.size 98 i0' _ 16 Tryz.underlying40 hi hz0 hz1 hz2 rfl (.slice (some ⟨w6.heap.size+1,0,none⟩) 0 0) 0 [] (by rfl) ((owndm_empty (w6.alloc (demO x)) (by simp) (by simp)).drew) _ 0 _ [] (by rfl) rfl (.inl rfl) (by unfold maxLen;omega) (by omega) (by first | omega | (simp;done) | (simp;omega)) ?_
                     intro v1 w3 hown1 hg1
                     have hb3:Below w6.heap.size w6 w3:=Below.grown ((((Below.refl w6.heap.size w6).alloc (by first | omega | (simp;done) | (simp;omega)) _).alloc (by first | omega | (simp;done) | (simp;omega)) _).drew) hg1 (by first | omega | (simp;done) | (simp;omega)) (fun k hk=>by cases hk;first | omega | (simp;done) | (simp;omega))
                     have hgl3:=hb3.size
                     have hx3:LDem.Row w3 (some ⟨w6.heap.size,0,none⟩) [x]:=OwnDm.row (own_kept (World.ownsRow.drew (World.ownsRow.alloc (owndm_one w6 x (g:=w6.heap.size) (base:=w6.heap.size) rfl (Nat.le_refl _)) _)) (fun k hk=>by cases hk;exact hg1.block _ (by first | omega | (simp;done) | (simp;omega)) (fun h=>by simp [Value.ownBlock] at h))))
                  | (refine step_append_at LDem (by rfl) (.tmp 32) (.tmp 34) 40 (by rfl) w6.heap.size 98 i0' _ 16 Tryz.underlying40 hi hz0 hz1 hz2 rfl v1 (0+0) ([]++LDem.all (List.nil (α:=Dm.Dem))) (by rfl) (by first | exact hown1 | exact hown1.alloc _) (some ⟨w3.heap.size,0,none⟩) 1 1 [x] (by rfl) rfl ((owndm_one w3 x rfl hgl3).row) (by unfold maxLen;omega) (by omega) (by first | omega | (simp;done) | (simp;omega)) ?_
                     intro v2 w4 hown2 hg2
                     have hb4:Below w6.heap.size w6 w4:=Below.grown (hb3.alloc hb3.size _) hg2 (by first | omega | (simp;done) | (simp;omega)) (fun k hk=>(hown1.lt k hk).1))
                  | (refine step_append_at LDem (by rfl) (.tmp 32) (.tmp 34) 40 (by rfl) w6.heap.size 98 i0' _ 16 Tryz.underlying40 hi hz0 hz1 hz2 rfl v1 (0+0) ([]++LDem.all (List.nil (α:=Dm.Dem))) (by rfl) (by first | exact hown1 | exact hown1.alloc _) (some ⟨w6.heap.size+1,0,none⟩) 1 1 [x] (by rfl) rfl (hx3) (by unfold maxLen;omega) (by omega) (by first | omega | (simp;done) | (simp;omega)) ?_
                     intro v2 w4 hown2 hg2
                     have hb4:Below w6.heap.size w6 w4:=Below.grown (hb3) hg2 (by first | omega | (simp;done) | (simp;omega)) (fun k hk=>(hown1.lt k hk).1))
                  | (refine step_append_at LDem (by rfl) (.tmp 32) (.tmp 34) 40 (by rfl) w6.heap.size 98 i0' _ 16 Tryz.underlying40 hi hz0 hz1 hz2 rfl v1 (0+0) ([]++LDem.all (List.nil (α:=Dm.Dem))) (by rfl) (by first | exact hown1 | exact hown1.alloc _) (some ⟨w6.heap.size,0,none⟩) 1 1 [x] (by rfl) rfl (hx3) (by unfold maxLen;omega) (by omega) (by first | omega | (simp;done) | (simp;omega)) ?_
                     intro v2 w4 hown2 hg2
                     have hb4:Below w6.heap.size w6 w4:=Below.grown (hb3) hg2 (by first | omega | (simp;done) | (simp;omega)) (fun k hk=>(hown1.lt k hk).1))
                  | (refine step_append_at LDem (by rfl) (.tmp 35) (.tmp 38) 40 (by rfl) w6.heap.size 98 i0' _ 16 Tryz.underlying40 hi hz0 hz1 hz2 rfl v2 (0+0+1) ([]++LDem.all (List.nil (α:=Dm.Dem))++LDem.all [x]) (by rfl) hown2 _ 0 _ [] (by rfl) rfl (.inl rfl) (by unfold maxLen;omega) (by omega) hb4.size ?_
                     intro v3 w5 hown3 hg3
                     have hb5:Below w6.heap.size w6 w5:=Below.grown hb4 hg3 hb4.size (fun k hk=>(hown2.lt k hk).1)))
                all_goals go_wp2_with fail
                all_goals go_ret
                all_goals (rw[P.out];exact put_end (j:=0) (L:=[]) (by omega) hown3 (X0.out.trans ((B6.out.trans (hb5.mono B6.out.size)).mono X0.out.size)) (Nat.le_trans X0.out.size B6.out.size))
          · obtain ⟨b,o,rfl,-,-⟩:=HR.out.at (show 0<L.length from List.length_pos_iff.2 h0)
            by_cases hcj:c=j
            · subst hcj
              have hjl:L.length=c:=by omega
              go_upto_region 4 with fail
              go_quiet (fail)
              go_wp2_with fail
              go_upto_region 6 with fail
              clear D1 x0 x1 gx
              have B6:=Lib.hid (HB6.out nq)
              generalize wr.drewN nq=w6 at B6 ⊢
              obtain ⟨x0,x1⟩:=cell_posn ((B6.out.block _ (Array.getElem?_eq_some_iff.1 RX.out).1).trans RX.out)
              have gx:=(Array.getElem?_eq_some_iff.1 ((B6.out.block _ (Array.getElem?_eq_some_iff.1 RX.out).1).trans RX.out)).1
              have RW:=Lib.hid (fun W (hW:Below w6.heap.size w6 W)=>HR.out.below rfl (B6.out.trans (hW.mono B6.out.size)))
              have KX:=Lib.hid (fun W (hW:Below w6.heap.size w6 W)=>cell_posn ((hW.block _ (Array.getElem?_eq_some_iff.1 ((B6.out.block _ (Array.getElem?_eq_some_iff.1 RX.out).1).trans RX.out)).1).trans ((B6.out.block _ (Array.getElem?_eq_some_iff.1 RX.out).1).trans RX.out)))
              have B0:=Lib.hid (Below.refl w6.heap.size w6)
              obtain ⟨i0',hi,hz0,hz1,hz2⟩:=info_parts infoDem
              go_region_held3 (fun W=>W.cell? ⟨w.heap.size,0,none⟩ = some (.int .i64 x.pt)∧W.cell? ⟨w.heap.size,1,none⟩ = some (.int .i64 x.pos))
                (first | with_reducible exact KX.out _ B0.out.drew | with_reducible exact KX.out _ hb5 | with_reducible exact KX.out _ hb4 | with_reducible exact KX.out _ hb3 | (go_keep;done))
                (first
                | (refine step_append_at LDem (by rfl) (.tmp 28) (.tmp 31) 40 (by rfl) w6.heap.size 98 i0' _ 16 Tryz.underlying40 hi hz0 hz1 hz2 rfl (.slice (some ⟨w6.heap.size,0,none⟩) 0 0) 0 [] (by rfl) ((owndm_empty w6 rfl (Nat.le_refl _)).drew) (some ⟨b,o,none⟩) c c (L.take c) (by rfl) (by rw[List.length_take];omega) (Lies.Row.take LDem (RW.out _ (((Below.refl w6.heap.size w6).alloc (Nat.le_refl _) _).drew)) c) (by unfold maxLen;omega) (by omega) (by first | omega | (simp;done) | (simp;omega)) ?_
                   intro v1 w3 hown1 hg1
                   have hb3:Below w6.heap.size w6 w3:=Below.grown (((Below.refl w6.heap.size w6).alloc (by first | omega | (simp;done) | (simp;omega)) _).drew) hg1 (by first | omega | (simp;done) | (simp;omega)) (fun k hk=>by cases hk;first | omega | (simp;done) | (simp;omega))
                   have hgl3:=hb3.size)
                | (refine step_append_at LDem (by rfl) (.tmp 28) (.tmp 31) 40 (by rfl) w6.heap.size 98 i0' _ 16 Tryz.underlying40 hi hz0 hz1 hz2 rfl (.slice (some ⟨w6.heap.size,0,none⟩) 0 0) 0 [] (by rfl) (((owndm_empty w6 rfl (Nat.le_refl _)).alloc _).drew) (some ⟨b,o,none⟩) c c (L.take c) (by rfl) (by rw[List.length_take];omega) (Lies.Row.take LDem (RW.out _ ((((Below.refl w6.heap.size w6).alloc (Nat.le_refl _) _).alloc (by first | omega | (simp;done) | (simp;omega)) _).drew)) c) (by unfold maxLen;omega) (by omega) (by first | omega | (simp;done) | (simp;omega)) ?_
                   intro v1 w3 hown1 hg1
                   have hb3:Below w6.heap.size w6 w3:=Below.grown ((((Below.refl w6.heap.size w6).alloc (by first | omega | (simp;done) | (simp;omega)) _).alloc (by first | omega | (simp;done) | (simp;omega)) _).drew) hg1 (by first | omega | (simp;done) | (simp;omega)) (fun k hk=>by cases hk;first | omega | (simp;done) | (simp;omega))
                   have hgl3:=hb3.size
                   have hx3:LDem.Row w3 (some ⟨w6.heap.size+1,0,none⟩) [x]:=OwnDm.row (own_kept (World.ownsRow.drew (owndm_one (w6.alloc (.cells #[] 98)) x (g:=w6.heap.size+1) (base:=w6.heap.size) (by simp))) (fun k hk=>by cases hk;exact hg1.block _ (by first | omega | (simp;done) | (simp;omega)) (fun h=>by simp [Value.ownBlock] at h))))
                | (refine step_append_at LDem (by rfl) (.tmp 28) (.tmp 31) 40 (by rfl) w6.heap.size 98 i0' _ 16 Tryz.underlying40 hi hz0 hz1 hz2 rfl (.slice (some ⟨w6.heap.size+1,0,none⟩) 0 0) 0 [] (by rfl) ((owndm_empty (w6.alloc (demO x)) (by simp) (by simp)).drew) (some ⟨b,o,none⟩) c c (L.take c) (by rfl) (by rw[List.length_take];omega) (Lies.Row.take LDem (RW.out _ ((((Below.refl w6.heap.size w6).alloc (Nat.le_refl _) _).alloc (by first | omega | (simp;done) | (simp;omega)) _).drew)) c) (by unfold maxLen;omega) (by omega) (by first | omega | (simp;done) | (simp;omega)) ?_
                   intro v1 w3 hown1 hg1
                   have hb3:Below w6.heap.size w6 w3:=Below.grown ((((Below.refl w6.heap.size w6).alloc (by first | omega | (simp;done) | (simp;omega)) _).alloc (by first | omega | (simp;done) | (simp;omega)) _).drew) hg1 (by first | omega | (simp;done) | (simp;omega)) (fun k hk=>by cases hk;first | omega | (simp;done) | (simp;omega))
                   have hgl3:=hb3.size
                   have hx3:LDem.Row w3 (some ⟨w6.heap.size,0,none⟩) [x]:=OwnDm.row (own_kept (World.ownsRow.drew (World.ownsRow.alloc (owndm_one w6 x (g:=w6.heap.size) (base:=w6.heap.size) rfl (Nat.le_refl _)) _)) (fun k hk=>by cases hk;exact hg1.block _ (by first | omega | (simp;done) | (simp;omega)) (fun h=>by simp [Value.ownBlock] at h))))
                | (refine step_append_at LDem (by rfl) (.tmp 32) (.tmp 34) 40 (by rfl) w6.heap.size 98 i0' _ 16 Tryz.underlying40 hi hz0 hz1 hz2 rfl v1 (0+c) ([]++LDem.all (L.take c)) (by rfl) (by first | exact hown1 | exact hown1.alloc _) (some ⟨w3.heap.size,0,none⟩) 1 1 [x] (by rfl) rfl ((owndm_one w3 x rfl hgl3).row) (by unfold maxLen;omega) (by omega) (by first | omega | (simp;done) | (simp;omega)) ?_
                   intro v2 w4 hown2 hg2
                   have hb4:Below w6.heap.size w6 w4:=Below.grown (hb3.alloc hb3.size _) hg2 (by first | omega | (simp;done) | (simp;omega)) (fun k hk=>(hown1.lt k hk).1))
                | (refine step_append_at LDem (by rfl) (.tmp 32) (.tmp 34) 40 (by rfl) w6.heap.size 98 i0' _ 16 Tryz.underlying40 hi hz0 hz1 hz2 rfl v1 (0+c) ([]++LDem.all (L.take c)) (by rfl) (by first | exact hown1 | exact hown1.alloc _) (some ⟨w6.heap.size+1,0,none⟩) 1 1 [x] (by rfl) rfl (hx3) (by unfold maxLen;omega) (by omega) (by first | omega | (simp;done) | (simp;omega)) ?_
                   intro v2 w4 hown2 hg2
                   have hb4:Below w6.heap.size w6 w4:=Below.grown (hb3) hg2 (by first | omega | (simp;done) | (simp;omega)) (fun k hk=>(hown1.lt k hk).1))
                | (refine step_append_at LDem (by rfl) (.tmp 32) (.tmp 34) 40 (by rfl) w6.heap.size 98 i0' _ 16 Tryz.underlying40 hi hz0 hz1 hz2 rfl v1 (0+c) ([]++LDem.all (L.take c)) (by rfl) (by first | exact hown1 | exact hown1.alloc _) (some ⟨w6.heap.size,0,none⟩) 1 1 [x] (by rfl) rfl (hx3) (by unfold maxLen;omega) (by omega) (by first | omega | (simp;done) | (simp;omega)) ?_
                   intro v2 w4 hown2 hg2
                   have hb4:Below w6.heap.size w6 w4:=Below.grown (hb3) hg2 (by first | omega | (simp;done) | (simp;omega)) (fun k hk=>(hown1.lt k hk).1))
                | (refine step_append_at LDem (by rfl) (.tmp 35) (.tmp 38) 40 (by rfl) w6.heap.size 98 i0' _ 16 Tryz.underlying40 hi hz0 hz1 hz2 rfl v2 (0+c+1) ([]++LDem.all (L.take c)++LDem.all [x]) (by rfl) hown2 _ 0 _ [] (by rfl) rfl (.inl rfl) (by unfold maxLen;omega) (by omega) hb4.size ?_
                   intro v3 w5 hown3 hg3
                   have hb5:Below w6.heap.size w6 w5:=Below.grown hb4 hg3 hb4.size (fun k hk=>(hown2.lt k hk).1)))
              all_goals go_wp2_with fail
              all_goals go_ret
              all_goals (rw[P.out];exact put_end (by omega) hown3 (X0.out.trans ((B6.out.trans (hb5.mono B6.out.size)).mono X0.out.size)) (Nat.le_trans X0.out.size B6.out.size))
            · go_upto_region 4 with fail
              go_quiet (fail)
              go_wp2_with fail
              go_upto_region 6 with fail
              clear D1 x0 x1 gx
              have B6:=Lib.hid (HB6.out nq)
              generalize wr.drewN nq=w6 at B6 ⊢
              obtain ⟨x0,x1⟩:=cell_posn ((B6.out.block _ (Array.getElem?_eq_some_iff.1 RX.out).1).trans RX.out)
              have gx:=(Array.getElem?_eq_some_iff.1 ((B6.out.block _ (Array.getElem?_eq_some_iff.1 RX.out).1).trans RX.out)).1
              have RW:=Lib.hid (fun W (hW:Below w6.heap.size w6 W)=>HR.out.below rfl (B6.out.trans (hW.mono B6.out.size)))
              have KX:=Lib.hid (fun W (hW:Below w6.heap.size w6 W)=>cell_posn ((hW.block _ (Array.getElem?_eq_some_iff.1 ((B6.out.block _ (Array.getElem?_eq_some_iff.1 RX.out).1).trans RX.out)).1).trans ((B6.out.block _ (Array.getElem?_eq_some_iff.1 RX.out).1).trans RX.out)))
              have B0:=Lib.hid (Below.refl w6.heap.size w6)
              obtain ⟨i0',hi,hz0,hz1,hz2⟩:=info_parts infoDem
              go_region_held3 (fun W=>W.cell? ⟨w.heap.size,0,none⟩ = some (.int .i64 x.pt)∧W.cell? ⟨w.heap.size,1,none⟩ = some (.int .i64 x.pos))
                (first | with_reducible exact KX.out _ B0.out.drew | with_reducible exact KX.out _ hb5 | with_reducible exact KX.out _ hb4 | with_reducible exact KX.out _ hb3 | (go_keep;done))
                (first
                | (refine step_append_at LDem (by rfl) (.tmp 28) (.tmp 31) 40 (by rfl) w6.heap.size 98 i0' _ 16 Tryz.underlying40 hi hz0 hz1 hz2 rfl (.slice (some ⟨w6.heap.size,0,none⟩) 0 0) 0 [] (by rfl) ((owndm_empty w6 rfl (Nat.le_refl _)).drew) (some ⟨b,o,none⟩) j c (L.take j) (by rfl) (by rw[List.length_take];omega) (Lies.Row.take LDem (RW.out _ (((Below.refl w6.heap.size w6).alloc (Nat.le_refl _) _).drew)) j) (by unfold maxLen;omega) (by omega) (by first | omega | (simp;done) | (simp;omega)) ?_
                   intro v1 w3 hown1 hg1
                   have hb3:Below w6.heap.size w6 w3:=Below.grown (((Below.refl w6.heap.size w6).alloc (by first | omega | (simp;done) | (simp;omega)) _).drew) hg1 (by first | omega | (simp;done) | (simp;omega)) (fun k hk=>by cases hk;first | omega | (simp;done) | (simp;omega))
                   have hgl3:=hb3.size)
                | (refine step_append_at LDem (by rfl) (.tmp 28) (.tmp 31) 40 (by rfl) w6.heap.size 98 i0' _ 16 Tryz.underlying40 hi hz0 hz1 hz2 rfl (.slice (some ⟨w6.heap.size,0,none⟩) 0 0) 0 [] (by rfl) (((owndm_empty w6 rfl (Nat.le_refl _)).alloc _).drew) (some ⟨b,o,none⟩) j c (L.take j) (by rfl) (by rw[List.length_take];omega) (Lies.Row.take LDem (RW.out _ ((((Below.refl w6.heap.size w6).alloc (Nat.le_refl _) _).alloc (by first | omega | (simp;done) | (simp;omega)) _).drew)) j) (by unfold maxLen;omega) (by omega) (by first | omega | (simp;done) | (simp;omega)) ?_
                   intro v1 w3 hown1 hg1
                   have hb3:Below w6.heap.size w6 w3:=Below.grown ((((Below.refl w6.heap.size w6).alloc (by first | omega | (simp;done) | (simp;omega)) _).alloc (by first | omega | (simp;done) | (simp;omega)) _).drew) hg1 (by first | omega | (simp;done) | (simp;omega)) (fun k hk=>by cases hk;first | omega | (simp;done) | (simp;omega))
                   have hgl3:=hb3.size
                   have hx3:LDem.Row w3 (some ⟨w6.heap.size+1,0,none⟩) [x]:=OwnDm.row (own_kept (World.ownsRow.drew (owndm_one (w6.alloc (.cells #[] 98)) x (g:=w6.heap.size+1) (base:=w6.heap.size) (by simp))) (fun k hk=>by cases hk;exact hg1.block _ (by first | omega | (simp;done) | (simp;omega)) (fun h=>by simp [Value.ownBlock] at h))))
                | (refine step_append_at LDem (by rfl) (.tmp 28) (.tmp 31) 40 (by rfl) w6.heap.size 98 i0' _ 16 Tryz.underlying40 hi hz0 hz1 hz2 rfl (.slice (some ⟨w6.heap.size+1,0,none⟩) 0 0) 0 [] (by rfl) ((owndm_empty (w6.alloc (demO x)) (by simp) (by simp)).drew) (some ⟨b,o,none⟩) j c (L.take j) (by rfl) (by rw[List.length_take];omega) (Lies.Row.take LDem (RW.out _ ((((Below.refl w6.heap.size w6).alloc (Nat.le_refl _) _).alloc (by first | omega | (simp;done) | (simp;omega)) _).drew)) j) (by unfold maxLen;omega) (by omega) (by first | omega | (simp;done) | (simp;omega)) ?_
                   intro v1 w3 hown1 hg1
                   have hb3:Below w6.heap.size w6 w3:=Below.grown ((((Below.refl w6.heap.size w6).alloc (by first | omega | (simp;done) | (simp;omega)) _).alloc (by first | omega | (simp;done) | (simp;omega)) _).drew) hg1 (by first | omega | (simp;done) | (simp;omega)) (fun k hk=>by cases hk;first | omega | (simp;done) | (simp;omega))
                   have hgl3:=hb3.size
                   have hx3:LDem.Row w3 (some ⟨w6.heap.size,0,none⟩) [x]:=OwnDm.row (own_kept (World.ownsRow.drew (World.ownsRow.alloc (owndm_one w6 x (g:=w6.heap.size) (base:=w6.heap.size) rfl (Nat.le_refl _)) _)) (fun k hk=>by cases hk;exact hg1.block _ (by first | omega | (simp;done) | (simp;omega)) (fun h=>by simp [Value.ownBlock] at h))))
                | (refine step_append_at LDem (by rfl) (.tmp 32) (.tmp 34) 40 (by rfl) w6.heap.size 98 i0' _ 16 Tryz.underlying40 hi hz0 hz1 hz2 rfl v1 (0+j) ([]++LDem.all (L.take j)) (by rfl) (by first | exact hown1 | exact hown1.alloc _) (some ⟨w3.heap.size,0,none⟩) 1 1 [x] (by rfl) rfl ((owndm_one w3 x rfl hgl3).row) (by unfold maxLen;omega) (by omega) (by first | omega | (simp;done) | (simp;omega)) ?_
                   intro v2 w4 hown2 hg2
                   have hb4:Below w6.heap.size w6 w4:=Below.grown (hb3.alloc hb3.size _) hg2 (by first | omega | (simp;done) | (simp;omega)) (fun k hk=>(hown1.lt k hk).1))
                | (refine step_append_at LDem (by rfl) (.tmp 32) (.tmp 34) 40 (by rfl) w6.heap.size 98 i0' _ 16 Tryz.underlying40 hi hz0 hz1 hz2 rfl v1 (0+j) ([]++LDem.all (L.take j)) (by rfl) (by first | exact hown1 | exact hown1.alloc _) (some ⟨w6.heap.size+1,0,none⟩) 1 1 [x] (by rfl) rfl (hx3) (by unfold maxLen;omega) (by omega) (by first | omega | (simp;done) | (simp;omega)) ?_
                   intro v2 w4 hown2 hg2
                   have hb4:Below w6.heap.size w6 w4:=Below.grown (hb3) hg2 (by first | omega | (simp;done) | (simp;omega)) (fun k hk=>(hown1.lt k hk).1))
                | (refine step_append_at LDem (by rfl) (.tmp 32) (.tmp 34) 40 (by rfl) w6.heap.size 98 i0' _ 16 Tryz.underlying40 hi hz0 hz1 hz2 rfl v1 (0+j) ([]++LDem.all (L.take j)) (by rfl) (by first | exact hown1 | exact hown1.alloc _) (some ⟨w6.heap.size,0,none⟩) 1 1 [x] (by rfl) rfl (hx3) (by unfold maxLen;omega) (by omega) (by first | omega | (simp;done) | (simp;omega)) ?_
                   intro v2 w4 hown2 hg2
                   have hb4:Below w6.heap.size w6 w4:=Below.grown (hb3) hg2 (by first | omega | (simp;done) | (simp;omega)) (fun k hk=>(hown1.lt k hk).1))
                | (refine step_append_at LDem (by rfl) (.tmp 35) (.tmp 38) 40 (by rfl) w6.heap.size 98 i0' _ 16 Tryz.underlying40 hi hz0 hz1 hz2 rfl v2 (0+j+1) ([]++LDem.all (L.take j)++LDem.all [x]) (by rfl) hown2 (some ⟨b,o+j * 2,none⟩) (L.length - j) (c - j) (L.drop j) (by rfl) (by rw[List.length_drop]) (Lies.Row.drop LDem (RW.out _ hb4) j) (by unfold maxLen;omega) (by omega) hb4.size ?_
                   intro v3 w5 hown3 hg3
                   have hb5:Below w6.heap.size w6 w5:=Below.grown hb4 hg3 hb4.size (fun k hk=>(hown2.lt k hk).1)))
              all_goals go_wp2_with fail
              all_goals go_ret
              all_goals (rw[P.out];exact put_own hown3 (by omega) (X0.out.trans ((B6.out.trans (hb5.mono B6.out.size)).mono X0.out.size)) (Nat.le_trans X0.out.size B6.out.size))
  · have P:=Lib.hid (Dm.put_had h0)
    have E:(Dm.posOf L x.pt != 0)=true:=by rw[bne_iff_ne];exact h0
    rw [P.out]
    generalize Dm.posOf L x.pt=n at CP E
    clear h h0
    go_enter Tryz.func90,Tryz.ntmps90
    go_wp2_with fail
    refine CP.out.mono ?_;rintro e w2 ⟨rfl,hb2⟩
    have B2:=Lib.hid (X0.out.trans (hb2.mono X0.out.size))
    have R2:=Lib.hid (HR.out.below rfl hb2)
    clear hb2 x0 x1
    go_wp2_with fail
    go_ret
    exact ⟨A,c,rfl,R2.out,hc,B2.out,.inl ⟨rfl,rfl⟩⟩
end Go.Proofs.YtpdfbnolhpakoaaGreat
