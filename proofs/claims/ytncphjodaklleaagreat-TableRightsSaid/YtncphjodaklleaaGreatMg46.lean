/-
 Texts of this claim, merged: TbFew, TbOpen, RtEval, CrAwake, TbEval.
-/
import Derived.Test.YtncphjodaklleaaGreatMg04
import Derived.Test.YtncphjodaklleaaGreatMg13
import Derived.Test.YtncphjodaklleaaGreatMg15
import Derived.Test.YtncphjodaklleaaGreatMg23
import Derived.Test.YtncphjodaklleaaGreatMg44
import Derived.Test.YtncphjodaklleaaGreatMg45
import Derived.Deep.Slices
set_option maxHeartbeats 16000000
set_option maxRecDepth 100000
namespace Go.Proofs.YtncphjodaklleaaGreat
open Lib (hid)
open Go.RowKit
def FewIs (t:Tb.Table) (w:World) (e:Ending) (w':World):Prop:=(∃ z,e=.returned (.bool z)∧(z=true→Tb.Bound t))∧Below w.heap.size w w'
def Upto {α:Type} (L:List α) (i:Nat) (q:α→Prop):Prop:=∀ (k:Nat) (y:α),k<i→L[k]? = some y→q y
theorem Upto.next {α:Type} {L:List α} {i:Nat} {q:α→Prop} {y:α} (h:Upto L i q) (hy:L[i]? = some y) (hq:q y):Upto L (i+1) q:=fun k z hk hz=>by
 rcases Nat.lt_or_ge k i with h1 | h1
 ·exact h k z h1 hz
 ·obtain rfl:k=i:=by omega
  rw [hy] at hz
  cases hz
  exact hq
theorem Upto.all {α:Type} {L:List α} {q:α→Prop} (h:Upto L L.length q):∀ y∈L,q y:=fun y hy=>by
 obtain ⟨k,hk,rfl⟩:=List.getElem_of_mem hy
 exact h k _ hk (List.getElem?_eq_getElem hk)
theorem Upto.none {α:Type} {L:List α} {q:α→Prop}:Upto L 0 q:=fun _ _ h=>absurd h (Nat.not_lt_zero _)
theorem tbFew_any (m : TableM) (w:World) (h:TableIn w m):Calls Tryz.prog 12 #[tbV m] w (FewIs m.t w):=by
 --[
 obtain ⟨A0,c0,A1,c1,A2,c2,A4,c4,A5,c5,t⟩:=m
 have XX:=(Below.refl w.heap.size w).alloc (Nat.le_refl _) (.cells #[.slice A0 t.names.length c0,.slice A1 t.points.length c1,.slice A2 t.sigs.length c2,.int .i64 t.settle,.slice A4 t.routes.length c4,.slice A5 t.bars.length c5] 34)
 have X:=hid XX
 have HI:=hid (h.below XX)
 have RP:=hid (heap_alloc_new w (.cells #[.slice A0 t.names.length c0,.slice A1 t.points.length c1,.slice A2 t.sigs.length c2,.int .i64 t.settle,.slice A4 t.routes.length c4,.slice A5 t.bars.length c5] 34))
 show Calls Tryz.prog 12 #[.agg #[.slice A0 t.names.length c0,.slice A1 t.points.length c1,.slice A2 t.sigs.length c2,.int .i64 t.settle,.slice A4 t.routes.length c4,.slice A5 t.bars.length c5]] w (FewIs t w)
 clear h XX
 go_enter Tryz.func12,Tryz.ntmps12
 go_upto_region 1 with fail
 generalize w.alloc (.cells #[.slice A0 t.names.length c0,.slice A1 t.points.length c1,.slice A2 t.sigs.length c2,.int .i64 t.settle,.slice A4 t.routes.length c4,.slice A5 t.bars.length c5] 34)=w1 at X HI RP ⊢
 generalize w.heap.size=g at RP ⊢
 have gl:=(Array.getElem?_eq_some_iff.1 RP.out).1
 have KB:=hid (fun W (hW:Below w1.heap.size w1 W)=>(row6 ((hW.block _ gl).trans RP.out)).1)
 have B0:=hid (Below.refl w1.heap.size w1)
 obtain ⟨p0,p1,p2,p3,p4,p5⟩:=KB.out _ B0.out
 clear gl
 by_cases h1:40<t.names.length
 ·have d1:decide ((40:Int)<(t.names.length:Int))=true:=dec_t (by omega)
  clear h1
  go_wp2_with fail
  go_ret
  exact ⟨⟨false,rfl,fun h=>(by cases h)⟩,X.out⟩
 have d1:decide ((40:Int)<(t.names.length:Int))=false:=dec_f (by omega)
 by_cases h2:40<t.points.length
 ·have d2:decide ((40:Int)<(t.points.length:Int))=true:=dec_t (by omega)
  clear h1 h2
  go_wp2_with fail
  go_ret
  exact ⟨⟨false,rfl,fun h=>(by cases h)⟩,X.out⟩
 have d2:decide ((40:Int)<(t.points.length:Int))=false:=dec_f (by omega)
 by_cases h3:40<t.sigs.length
 ·have d3:decide ((40:Int)<(t.sigs.length:Int))=true:=dec_t (by omega)
  clear h1 h2 h3
  go_wp2_with fail
  go_ret
  exact ⟨⟨false,rfl,fun h=>(by cases h)⟩,X.out⟩
 have d3:decide ((40:Int)<(t.sigs.length:Int))=false:=dec_f (by omega)
 by_cases h4:40<t.routes.length
 ·have d4:decide ((40:Int)<(t.routes.length:Int))=true:=dec_t (by omega)
  clear h1 h2 h3 h4
  go_wp2_with fail
  go_ret
  exact ⟨⟨false,rfl,fun h=>(by cases h)⟩,X.out⟩
 have d4:decide ((40:Int)<(t.routes.length:Int))=false:=dec_f (by omega)
 by_cases h5:40<t.bars.length
 ·have d5:decide ((40:Int)<(t.bars.length:Int))=true:=dec_t (by omega)
  clear h1 h2 h3 h4 h5
  go_wp2_with fail
  go_ret
  exact ⟨⟨false,rfl,fun h=>(by cases h)⟩,X.out⟩
 have d5:decide ((40:Int)<(t.bars.length:Int))=false:=dec_f (by omega)
 have HL:=hid (show t.names.length≤40∧t.points.length≤40∧t.sigs.length≤40∧t.routes.length≤40∧t.bars.length≤40 from ⟨by omega,by omega,by omega,by omega,by omega⟩)
 clear h1 h2 h3 h4 h5
 go_wp2_with fail
 clear d1 d2 d3 d4 d5 p0 p1 p2 p3 p4 p5
 go_loopw [3,4] (fun v _ w'=>∃ i:Nat,i≤t.routes.length∧v=.int .i64 i∧Upto t.routes i Tb.Few∧Below w1.heap.size w1 w') (fun v _ _=>t.routes.length - (intOf v).toNat)
 case atStart=>exact ⟨0,Nat.zero_le _,rfl,Upto.none,B0.out⟩
 case round =>
  obtain ⟨i,hi,rfl,hU,hb⟩:=hrel
  obtain ⟨p0,p1,p2,p3,p4,p5⟩:=KB.out _ hb
  by_cases hlt:i<t.routes.length
  ·have hy:=List.getElem?_eq_getElem hlt
   have d0:decide ((i:Int)<(t.routes.length:Int))=true:=dec_t (by omega)
   have i0:(0:Int)≤(i:Int):=Int.natCast_nonneg i
   have i1:(i:Int)<(t.routes.length:Int):=by omega
   have hlim:=HL.out.2.2.2.1
   obtain ⟨b,o,mj,hA,hbb,hmj,on,-⟩:=(HI.out.p4.below hb).at hy
   rw [← hmj] at hy
   have HY:=hid (And.intro hlt (And.intro hy hU))
   obtain ⟨x0,x1,x2,x3,x4,x5,x6,x7,x8⟩:=rt_on on
   obtain rfl:=hA
   have Y0:=(Below.refl wr.heap.size wr).alloc (Nat.le_refl _) (rtO mj)
   have RY:=hid (heap_alloc_new wr (rtO mj))
   have Y:=hid (hb.trans (Y0.mono hb.size))
   clear hb hbb on Y0 hmj hU hy
   go_upto_region 7 with fail
   generalize wr.alloc (rtO mj)=w3 at RY Y ⊢
   generalize wr.heap.size=gy at RY ⊢
   obtain ⟨⟨q0,q1,q2,q3,q4,q5,q6,q7,q8⟩,-⟩:=row9 RY.out
   have gly:=(Array.getElem?_eq_some_iff.1 RY.out).1
   have FY:=hid (X.out.trans (Y.out.mono X.out.size))
   clear x0 x1 x2 x3 x4 x5 x6 x7 x8 p0 p1 p2 p3 p4 p5
   by_cases h1:30<mj.r.steps.length
   ·have d1:decide ((30:Int)<(mj.r.steps.length:Int))=true:=dec_t (by omega)
    clear h1
    go_wp2_with fail
    go_ret
    exact ⟨⟨false,rfl,fun h=>(by cases h)⟩,FY.out⟩
   have d1:decide ((30:Int)<(mj.r.steps.length:Int))=false:=dec_f (by omega)
   by_cases h2:30<mj.r.lap.length
   ·have d2:decide ((30:Int)<(mj.r.lap.length:Int))=true:=dec_t (by omega)
    clear h1 h2
    go_wp2_with fail
    go_ret
    exact ⟨⟨false,rfl,fun h=>(by cases h)⟩,FY.out⟩
   have d2:decide ((30:Int)<(mj.r.lap.length:Int))=false:=dec_f (by omega)
   by_cases h3:30<mj.r.pts.length
   ·have d3:decide ((30:Int)<(mj.r.pts.length:Int))=true:=dec_t (by omega)
    clear h1 h2 h3
    go_wp2_with fail
    go_ret
    exact ⟨⟨false,rfl,fun h=>(by cases h)⟩,FY.out⟩
   have d3:decide ((30:Int)<(mj.r.pts.length:Int))=false:=dec_f (by omega)
   by_cases h4:30<mj.r.fl.length
   ·have d4:decide ((30:Int)<(mj.r.fl.length:Int))=true:=dec_t (by omega)
    clear h1 h2 h3 h4
    go_wp2_with fail
    go_ret
    exact ⟨⟨false,rfl,fun h=>(by cases h)⟩,FY.out⟩
   have d4:decide ((30:Int)<(mj.r.fl.length:Int))=false:=dec_f (by omega)
   by_cases h5:30<mj.r.near.length
   ·have d5:decide ((30:Int)<(mj.r.near.length:Int))=true:=dec_t (by omega)
    clear h1 h2 h3 h4 h5
    go_wp2_with fail
    go_ret
    exact ⟨⟨false,rfl,fun h=>(by cases h)⟩,FY.out⟩
   have d5:decide ((30:Int)<(mj.r.near.length:Int))=false:=dec_f (by omega)
   have HN:=hid (HY.out.2.2.next HY.out.2.1 (show Tb.Few mj.r from ⟨by omega,by omega,by omega,by omega,by omega⟩))
   clear h1 h2 h3 h4 h5
   go_wp2_with fail
   go_roundw
   case rel=>exact ⟨i+1,by omega,by go_num,HN.out,Y.out⟩
   case measure=>simp [intOf];omega
  ·obtain rfl : i = t.routes.length:=by omega
   have d0:decide ((t.routes.length:Int)<(t.routes.length:Int))=false:=dec_f (by omega)
   have HR:=hid hU.all
   have B1:=hid hb
   clear hlt hi hU hb
   go_wp2_with fail
   clear d0 p0 p1 p2 p3 p4 p5
   go_loopw [5] (fun v w'=>∃ i:Nat,i≤t.names.length∧v=.int .i64 i∧Upto t.names i (fun x=>x.length≤1000000)∧Below w1.heap.size w1 w') (fun v _=>t.names.length - (intOf v).toNat)
   case atStart=>exact ⟨0,Nat.zero_le _,rfl,Upto.none,B1.out⟩
   case round =>
    obtain ⟨i,hi,rfl,hU,hb⟩:=hrel
    obtain ⟨p0,p1,p2,p3,p4,p5⟩:=KB.out _ hb
    by_cases hlt:i<t.names.length
    ·have hy:=List.getElem?_eq_getElem hlt
     have d0:decide ((i:Int)<(t.names.length:Int))=true:=dec_t (by omega)
     have i0:(0:Int)≤(i:Int):=Int.natCast_nonneg i
     have i1:(i:Int)<(t.names.length:Int):=by omega
     have hlim:=HL.out.1
     obtain ⟨b,o,hA,hbb,on⟩:=(HI.out.p0.below rfl hb).at hlt
     obtain rfl:=hA
     have x0:=tx_on on
     rw [show i * LTx.m=i from Nat.mul_one i] at x0
     clear hbb on
     generalize t.names[i]=x at hy x0
     have sz:(txt x).size=x.length:=show x.toArray.size=x.length from List.size_toArray
     have HY:=hid (And.intro hlt (And.intro hy hU))
     have FY:=hid (X.out.trans (hb.mono X.out.size))
     have HB:=hid hb
     clear hy hU hb
     by_cases h1:50<x.length
     ·have d1:decide ((50:Int)<(x.length:Int))=true:=dec_t (by omega)
      clear h1
      go_wp2_with fail
      go_ret
      exact ⟨⟨false,rfl,fun h=>(by cases h)⟩,FY.out⟩
     have d1:decide ((50:Int)<(x.length:Int))=false:=dec_f (by omega)
     have HN:=hid (HY.out.2.2.next HY.out.2.1 (show x.length≤1000000 by omega))
     clear h1
     go_wp2_with fail
     go_roundw
     case rel=>exact ⟨i+1,by omega,by go_num,HN.out,HB.out⟩
     case measure=>simp [intOf];omega
    ·obtain rfl : i=t.names.length:=by omega
     have d0:decide ((t.names.length:Int)<(t.names.length:Int))=false:=dec_f (by omega)
     have N1:=hid (And.intro hU.all hb)
     clear hlt hi hU hb
     go_wp2_with fail
     clear d0 p0 p1 p2 p3 p4 p5
     have B2:=hid N1.out.2
     go_loopw [6] (fun v w'=>∃ i:Nat,i≤t.sigs.length∧v=.int .i64 i∧Upto t.sigs i (fun x=>x.length≤1000000)∧Below w1.heap.size w1 w') (fun v _=>t.sigs.length - (intOf v).toNat)
     case atStart=>exact ⟨0,Nat.zero_le _,rfl,Upto.none,B2.out⟩
     case round =>
      obtain ⟨i,hi,rfl,hU,hb⟩:=hrel
      obtain ⟨p0,p1,p2,p3,p4,p5⟩:=KB.out _ hb
      by_cases hlt:i<t.sigs.length
      ·have hy:=List.getElem?_eq_getElem hlt
       have d0:decide ((i:Int)<(t.sigs.length:Int))=true:=dec_t (by omega)
       have i0:(0:Int)≤(i:Int):=Int.natCast_nonneg i
       have i1:(i:Int)<(t.sigs.length:Int):=by omega
       have hlim:=HL.out.2.2.1
       obtain ⟨b,o,hA,hbb,on⟩:=(HI.out.p2.below rfl hb).at hlt
       obtain rfl:=hA
       have x0:=tx_on on
       rw [show i * LTx.m=i from Nat.mul_one i] at x0
       clear hbb on
       generalize t.sigs[i]=x at hy x0
       have sz:(txt x).size=x.length:=show x.toArray.size=x.length from List.size_toArray
       have HY:=hid (And.intro hlt (And.intro hy hU))
       have FY:=hid (X.out.trans (hb.mono X.out.size))
       have HB:=hid hb
       clear hy hU hb
       by_cases h1:50<x.length
       ·have d1:decide ((50:Int)<(x.length:Int))=true:=dec_t (by omega)
        clear h1
        go_wp2_with fail
        go_ret
        exact ⟨⟨false,rfl,fun h=>(by cases h)⟩,FY.out⟩
       have d1:decide ((50:Int)<(x.length:Int))=false:=dec_f (by omega)
       have HN:=hid (HY.out.2.2.next HY.out.2.1 (show x.length≤1000000 by omega))
       clear h1
       go_wp2_with fail
       go_roundw
       case rel=>exact ⟨i+1,by omega,by go_num,HN.out,HB.out⟩
       case measure=>simp [intOf];omega
      ·obtain rfl:i=t.sigs.length:=by omega
       have d0:decide ((t.sigs.length:Int)<(t.sigs.length:Int))=false:=dec_f (by omega)
       have N2:=hid (And.intro hU.all hb)
       clear hlt hi hU hb
       go_wp2_with fail
       clear d0 p0 p1 p2 p3 p4 p5
       have B3:=hid N2.out.2
       go_loopw [7] (fun v w'=>∃ i:Nat,i≤t.bars.length∧v=.int .i64 i∧Upto t.bars i (fun x=>x.length≤1000000)∧Below w1.heap.size w1 w') (fun v _=>t.bars.length - (intOf v).toNat)
       case atStart=>exact ⟨0,Nat.zero_le _,rfl,Upto.none,B3.out⟩
       case round =>
        obtain ⟨i,hi,rfl,hU,hb⟩:=hrel
        obtain ⟨p0,p1,p2,p3,p4,p5⟩:=KB.out _ hb
        by_cases hlt:i<t.bars.length
        ·have hy:=List.getElem?_eq_getElem hlt
         have d0:decide ((i:Int)<(t.bars.length:Int))=true:=dec_t (by omega)
         have i0:(0:Int)≤(i:Int):=Int.natCast_nonneg i
         have i1:(i:Int)<(t.bars.length:Int):=by omega
         have hlim:=HL.out.2.2.2.2
         obtain ⟨b,o,B,c,hA,hbb,x0,-⟩:=(HI.out.p5.below hb).at hy
         obtain rfl:=hA
         clear hbb
         generalize t.bars[i]=x at hy x0
         have HY:=hid (And.intro hlt (And.intro hy hU))
         have FY:=hid (X.out.trans (hb.mono X.out.size))
         have HB:=hid hb
         clear hy hU hb
         by_cases h1:10<x.length
         ·have d1:decide ((10:Int)<(x.length:Int))=true:=dec_t (by omega)
          clear h1
          go_wp2_with fail
          go_ret
          exact ⟨⟨false,rfl,fun h=>(by cases h)⟩,FY.out⟩
         have d1:decide ((10:Int)<(x.length:Int))=false:=dec_f (by omega)
         have HN:=hid (HY.out.2.2.next HY.out.2.1 (show x.length≤1000000 by omega))
         clear h1
         go_wp2_with fail
         go_roundw
         case rel=>exact ⟨i+1,by omega,by go_num,HN.out,HB.out⟩
         case measure=>simp [intOf];omega
        ·obtain rfl:i=t.bars.length:=by omega
         have d0:decide ((t.bars.length:Int)<(t.bars.length:Int))=false:=dec_f (by omega)
         have N3:=hid (And.intro hU.all hb)
         clear hlt hi hU hb
         go_wp2_with fail
         go_ret
         exact ⟨⟨true,rfl,fun _=>⟨by have:=HL.out.1;omega,by have:=HL.out.2.1;omega,by have:=HL.out.2.2.1;omega,by have:=HL.out.2.2.2.1;omega,N1.out.1,N2.out.1,HR.out,N3.out.1,by have:=HL.out.2.2.2.2;omega⟩⟩,X.out.trans (N3.out.2.mono X.out.size)⟩
 --]
open Go.ChangeShapes Go.WideShapes Go.ChangeAt Go.RowKit
theorem co_int:Tryz.prog.cellsOf 3=1:=by kernel_rfl
theorem co_text:Tryz.prog.cellsOf 9=1:=by kernel_rfl
theorem co_bool:Tryz.prog.cellsOf 4=1:=by kernel_rfl
theorem co_word:Tryz.prog.cellsOf 72=1:=by kernel_rfl
theorem co_stp:Tryz.prog.cellsOf 123=3:=by kernel_rfl
theorem co_dem:Tryz.prog.cellsOf 125=2:=by kernel_rfl
theorem co_rt:Tryz.prog.cellsOf 66=9:=by kernel_rfl
theorem co_tb:Tryz.prog.cellsOf 34=6:=by kernel_rfl
theorem co_stps:Tryz.prog.cellsOf 62=1:=by kernel_rfl
theorem co_dems:Tryz.prog.cellsOf 63=1:=by kernel_rfl
theorem co_ints:Tryz.prog.cellsOf 64=1:=by kernel_rfl
theorem co_words:Tryz.prog.cellsOf 67=1:=by kernel_rfl
theorem co_texts:Tryz.prog.cellsOf 29=1:=by kernel_rfl
theorem co_bools:Tryz.prog.cellsOf 30=1:=by kernel_rfl
theorem co_rts:Tryz.prog.cellsOf 31=1:=by kernel_rfl
theorem co_sets:Tryz.prog.cellsOf 32=1:=by kernel_rfl
theorem pick_row {α:Type} {E:Lies α} {Q:α→Prop} {w:World} {b o:Nat}:∀ (n:Nat),(∀ i,i<n→∃ y,E.On w b (o+i * E.m) y∧Q y)→∃ L:List α,L.length=n∧(∀ k y,L[k]? = some y→E.On w b (o+k * E.m) y)∧∀ y∈L,Q y
 | 0,_=>⟨[],rfl,(fun k y h=>by simp at h),(fun y h=>by cases h)⟩
 | n + 1, h=>by
   obtain ⟨L,hl,h1,h2⟩:=pick_row (Q:=Q) n fun i hi=>h i (by omega)
   obtain ⟨y,hy,hq⟩:=h n (by omega)
   refine ⟨L++[y],by simp [hl],fun k z hz=>?_,fun z hz=>?_⟩
   ·rcases Nat.lt_or_ge k L.length with hk | hk
    ·rw[List.getElem?_append_left hk] at hz;exact h1 k z hz
    ·rw [List.getElem?_append_right hk] at hz
     have hk0:k=n:=by
      have:=(List.getElem?_eq_some_iff.1 hz).1
      simp at this;omega
     subst hk0
     rw [hl,Nat.sub_self] at hz
     obtain rfl:y=z:=by simpa using hz
     exact hy
   ·rcases List.mem_append.1 hz with hz | hz
    ·exact h2 z hz
    ·obtain rfl:z=y:=by simpa using hz
     exact hq
theorem on_cells {α:Type} {E:Lies α} {w:World} {base b o:Nat} {cs:List Value} {y:α} (hc:w.cells? base ⟨b,o,none⟩ E.m=some cs) (h:cs=E.enc y):E.On w b o y:=fun j v hv=>by
 subst h
 have hj:j<E.m:=by
  have:=(List.getElem?_eq_some_iff.1 hv).1
  rwa [E.len] at this
 obtain ⟨_,_,hg⟩:=World.cells?_some hc
 have:=hg j hj
 rw [Go.WideShapes.add_plain] at this
 rw [this]
 exact hv
section
variable {H : Type} {enc : TypeId × Value → H} {w : World} {sp : Nat → Bool} {held : Bool}
theorem open_cell {α:Type} (E:Lies α) {Q:α→Prop} {e t:TypeId} (hu:Tryz.prog.underlying t=some (.slice e)) (hce:Tryz.prog.cellsOf e=E.m)
 (hone:∀ {base fuel b o cs} {x:DataW H × List MemPlace},w.cells? base ⟨b,o,none⟩ E.m=some cs→DataW.trod enc Tryz.prog w base sp held fuel e cs=some x→∃ y,E.On w b o y∧Q y)
 {base fuel:Nat} {cs:List Value} {x:DataW H × List MemPlace} (hf:DataW.trod enc Tryz.prog w base sp held fuel t cs=some x) :
 ∃ A c n L,cs=[.slice A n c]∧L.length=n∧E.Row w A L∧n≤c∧∀ y∈L,Q y:=by
 rcases Go.Deep.open_slice hu hf with ⟨h,_⟩ | ⟨a,n0,c0,m,f,D,Pl,h,hb,hl,hm,hmm,_,hx⟩
 ·exact ⟨none,0,0,[],h,rfl,.inl rfl,Nat.le_refl _,fun y h=>by cases h⟩
 ·have hlm:n0≤m:=by rw[hmm];split <;> omega
  by_cases h0:n0=0
  ·subst h0
   exact ⟨some a,c0,0,[],h,rfl,.inl rfl,hl,fun y h=>by cases h⟩
  rw [hce] at hx
  have hp:=E.pos
  obtain ⟨b,o,sp'⟩:=a
  have hsp:sp'=none:=by
   obtain ⟨cs,hc,_⟩:=hx 0 (by omega)
   obtain ⟨_,hlen,hg⟩:=World.cells?_some hc
   have:=hg 0 (by omega)
   rw [List.getElem?_eq_getElem (by omega)] at this
   have:=World.cell?_spot this
   simpa [Addr.add] using this
  subst hsp
  obtain ⟨L,hL,h1,h2⟩:=pick_row (E:=E) (Q:=Q) (w:=w) (b:=b) (o:=o) n0 fun i hi=>by
   obtain ⟨cs,hc,ht⟩:=hx i (by omega)
   rw [Go.WideShapes.add_plain] at hc
   exact hone hc ht
  refine ⟨some ⟨b,o,none⟩,c0,n0,L,h,hL,.inr ⟨b,o,rfl,?_,h1⟩,hl,h2⟩
  have hy:L[0]? = some L[0]:=List.getElem?_eq_getElem (by omega)
  have h7:=h1 0 _ hy 0 ((E.enc L[0])[0]'(by rw[E.len];exact hp)) (List.getElem?_eq_getElem _)
  exact World.block_lt_of_cell? _ _ h7
variable {base fuel b o : Nat} {cs : List Value} {x : DataW H × List MemPlace}
theorem text_cells (hc:w.cells? base ⟨b,o,none⟩ 1=some cs) (hf:DataW.trod enc Tryz.prog w base sp held fuel 9 cs=some x):∃ y,LTx.On w b o y∧True:=by
 obtain ⟨s,rfl,-,-⟩:=DataW.trod_string Tryz.underlying9 hf
 exact ⟨s.data.toList,on_cells hc (by show _=[Value.string (txt s.data.toList)];rw[txt_of]),trivial⟩
theorem bool_cells (hc:w.cells? base ⟨b,o,none⟩ 1=some cs) (hf:DataW.trod enc Tryz.prog w base sp held fuel 4 cs=some x):∃ y,LBo.On w b o y∧True:=by
 obtain ⟨z,rfl,-⟩:=DataW.trod_bool Tryz.underlying4 hf
 exact ⟨z,on_cells hc rfl,trivial⟩
theorem int_cells (hc:w.cells? base ⟨b,o,none⟩ 1=some cs) (hf:DataW.trod enc Tryz.prog w base sp held fuel 3 cs=some x):∃ y,LNum.On w b o y∧True:=by
 obtain ⟨k,rfl,-,-⟩:=DataW.trod_int Tryz.underlying3 hf
 exact ⟨k,on_cells hc rfl,trivial⟩
theorem word_cells (hc:w.cells? base ⟨b,o,none⟩ 1=some cs) (hf:DataW.trod enc Tryz.prog w base sp held fuel 72 cs=some x):∃ y,LWd.On w b o y∧True:=by
 obtain ⟨k,rfl,-,wk⟩:=DataW.trod_int Tryz.underlying72 hf
 have bk:=wf_u32 wk
 obtain ⟨m,rfl⟩:∃ m:Nat,k=(m:Int):=⟨k.toNat,by omega⟩
 exact ⟨m,on_cells hc rfl,trivial⟩
theorem set_cells (hc:w.cells? base ⟨b,o,none⟩ 1=some cs) (hf:DataW.trod enc Tryz.prog w base sp held fuel 67 cs=some x):∃ y,LSet.On w b o y∧LWd.Row w y.A y.L:=by
 obtain ⟨A,c,n,L,rfl,rfl,hR,-,-⟩:=open_cell LWd Tryz.underlying67 co_word (fun hc hf=>word_cells hc hf) hf
 exact ⟨⟨A,c,L⟩,on_cells hc rfl,hR⟩
theorem stp_cells (hc:w.cells? base ⟨b,o,none⟩ 3=some cs) (hf:DataW.trod enc Tryz.prog w base sp held fuel 123 cs=some x):∃ y,LStp.On w b o y∧True:=by
 obtain ⟨xs,n,_,_,hl,hlen,hg⟩:=DataW.trod_struct Tryz.underlying123 hf
 rw [co_stp] at hl
 match cs,hl with
 | [c0,c1,c2],_ =>
   match xs,hlen with
   | [y0,y1,y2],_ =>
     have h0:=hg 0 _ rfl
     have h1:=hg 1 _ rfl
     have h2:=hg 2 _ rfl
     simp [co_int] at h0 h1 h2
     obtain ⟨k,hk,-,-⟩:=DataW.trod_int Tryz.underlying3 h0
     obtain ⟨m,hm,-,-⟩:=DataW.trod_int Tryz.underlying3 h1
     obtain ⟨n,hn,-,-⟩:=DataW.trod_int Tryz.underlying3 h2
     simp only [List.cons.injEq,and_true] at hk hm hn
     subst hk hm hn
     exact ⟨⟨k,m,n⟩,on_cells hc rfl,trivial⟩
theorem dem_cells (hc:w.cells? base ⟨b,o,none⟩ 2=some cs) (hf:DataW.trod enc Tryz.prog w base sp held fuel 125 cs=some x):∃ y,LDem.On w b o y∧True:=by
 obtain ⟨xs,n,_,_,hl,hlen,hg⟩:=DataW.trod_struct Tryz.underlying125 hf
 rw [co_dem] at hl
 match cs,hl with
 | [c0,c1],_ =>
   match xs,hlen with
   | [y0,y1],_ =>
     have h0:=hg 0 _ rfl
     have h1:=hg 1 _ rfl
     simp [co_int] at h0 h1
     obtain ⟨k,hk,-,-⟩:=DataW.trod_int Tryz.underlying3 h0
     obtain ⟨m,hm,-,-⟩:=DataW.trod_int Tryz.underlying3 h1
     simp only [List.cons.injEq,and_true] at hk hm
     subst hk hm
     exact ⟨⟨k,m⟩,on_cells hc rfl,trivial⟩
theorem route_cells (hc:w.cells? base ⟨b,o,none⟩ 9=some cs) (hf:DataW.trod enc Tryz.prog w base sp held fuel 66 cs=some x):∃ y,LRt.On w b o y∧PartsIn w y:=by
 obtain ⟨xs,n,_,_,hl,hlen,hg⟩:=DataW.trod_struct Tryz.underlying66 hf
 rw [co_rt] at hl
 match cs,hl with
 | [c0,c1,c2,c3,c4,c5,c6,c7,c8],_ =>
   match xs,hlen with
   | [y0,y1,y2,y3,y4,y5,y6,y7,y8],_ =>
     have h0:=hg 0 _ rfl
     have h1:=hg 1 _ rfl
     have h2:=hg 2 _ rfl
     have h3:=hg 3 _ rfl
     have h4:=hg 4 _ rfl
     have h5:=hg 5 _ rfl
     have h6:=hg 6 _ rfl
     have h7:=hg 7 _ rfl
     have h8:=hg 8 _ rfl
     simp [co_int,co_stps,co_dems,co_ints] at h0 h1 h2 h3 h4 h5 h6 h7 h8
     obtain ⟨k0,e0,-,-⟩:=DataW.trod_int Tryz.underlying3 h0
     obtain ⟨k1,e1,-,-⟩:=DataW.trod_int Tryz.underlying3 h1
     obtain ⟨A1,d1,n1,L1,e2,rfl,R1,q1,-⟩:=open_cell LStp Tryz.underlying62 co_stp (fun hc hf=>stp_cells hc hf) h2
     obtain ⟨A2,d2,n2,L2,e3,rfl,R2,q2,-⟩:=open_cell LStp Tryz.underlying62 co_stp (fun hc hf=>stp_cells hc hf) h3
     obtain ⟨A3,d3,n3,L3,e4,rfl,R3,-,-⟩:=open_cell LDem Tryz.underlying63 co_dem (fun hc hf=>dem_cells hc hf) h4
     obtain ⟨A4,d4,n4,L4,e5,rfl,R4,-,-⟩:=open_cell LNum Tryz.underlying64 co_int (fun hc hf=>int_cells hc hf) h5
     obtain ⟨A5,d5,n5,L5,e6,rfl,R5,-,-⟩:=open_cell LNum Tryz.underlying64 co_int (fun hc hf=>int_cells hc hf) h6
     obtain ⟨k7,e7,-,-⟩:=DataW.trod_int Tryz.underlying3 h7
     obtain ⟨k8,e8,-,-⟩:=DataW.trod_int Tryz.underlying3 h8
     simp only [List.cons.injEq,and_true] at e0 e1 e2 e3 e4 e5 e6 e7 e8
     subst e0 e1 e2 e3 e4 e5 e6 e7 e8
     exact ⟨⟨A1,d1,A2,d2,A3,d3,A4,d4,A5,d5,⟨k0,k1,L1,L2,L3,L4,L5,k7,k8⟩⟩,on_cells hc rfl,⟨R1,R2,R3,R4,R5,⟨q1,q2⟩⟩⟩
end
theorem open_table {H:Type} {enc:TypeId × Value→H} {w:World} {base b0:Nat} {r:Reach} {sp:Nat→Bool} {held:Bool} {v:Value} {d:DataW H} {p:List MemPlace}
 (hval:Value.okWide Tryz.prog w r b0 34 v) (hd:DataW.Trod enc Tryz.prog w base sp held 34 v d p):∃ m:TableM,v=tbV m∧TableIn w m∧m.t.routes.length≤m.c4:=by
 obtain ⟨cs,rfl,_⟩:=okWide_struct Tryz.underlying34 hval
 obtain ⟨fuel,hf⟩:=hd
 obtain ⟨xs,n,_,_,hl,hlen,hg⟩:=DataW.trod_struct Tryz.underlying34 hf
 obtain ⟨l⟩:=cs
 rw [co_tb] at hl
 match l,hl with
 | [c0,c1,c2,c3,c4,c5],_ =>
   match xs,hlen with
   | [y0,y1,y2,y3,y4,y5],_ =>
     have h0:=hg 0 _ rfl
     have h1:=hg 1 _ rfl
     have h2:=hg 2 _ rfl
     have h3:=hg 3 _ rfl
     have h4:=hg 4 _ rfl
     have h5:=hg 5 _ rfl
     simp [co_int,co_texts,co_bools,co_rts,co_sets,Value.cells] at h0 h1 h2 h3 h4 h5
     obtain ⟨A0,d0,n0,L0,e0,rfl,R0,-,-⟩:=open_cell LTx Tryz.underlying29 co_text (fun hc hf=>text_cells hc hf) h0
     obtain ⟨A1,d1,n1,L1,e1,rfl,R1,-,-⟩:=open_cell LBo Tryz.underlying30 co_bool (fun hc hf=>bool_cells hc hf) h1
     obtain ⟨A2,d2,n2,L2,e2,rfl,R2,-,-⟩:=open_cell LTx Tryz.underlying29 co_text (fun hc hf=>text_cells hc hf) h2
     obtain ⟨k3,e3,-,-⟩:=DataW.trod_int Tryz.underlying3 h3
     obtain ⟨A4,d4,n4,L4,e4,rfl,R4,q4,P4⟩:=open_cell LRt Tryz.underlying31 co_rt (fun hc hf=>route_cells hc hf) h4
     obtain ⟨A5,d5,n5,L5,e5,rfl,R5,-,P5⟩:=open_cell LSet Tryz.underlying32 co_words (fun hc hf=>set_cells hc hf) h5
     simp only [List.cons.injEq,and_true] at e0 e1 e2 e3 e4 e5
     subst e0 e1 e2 e3 e4 e5
     refine ⟨⟨A0,d0,A1,d1,A2,d2,A4,d4,A5,d5,⟨L0,L1,L2,k3,L4.map RouteM.r,L5.map SetM.L⟩⟩,?_,⟨R0,R1,R2,⟨L4,rfl,R4,P4⟩,⟨L5,rfl,R5,P5⟩⟩,by rw[List.length_map];exact q4⟩
     show _=Value.agg #[.slice A0 L0.length d0,.slice A1 L1.length d1,.slice A2 L2.length d2,.int .i64 k3,.slice A4 (L4.map RouteM.r).length d4,.slice A5 (L5.map SetM.L).length d5]
     rw [List.length_map,List.length_map]
end Go.Proofs.YtncphjodaklleaaGreat
namespace Go.Proofs.YtncphjodaklleaaGreat.Rt
open Go Pl Wk
theorem ways_all {p:Plan} {i:Int}:∀ {ws:List Cr.Way} {acc:List Route},(∀ w∈ws,(Lp.of p i w).2=0)→acc.length+ws.length≤30→ways p i ws acc=(acc++ws.map fun w=>fill p i w (Lp.of p i w).1,0)
 | [],acc,_,_=>by rw[List.map_nil,List.append_nil];rfl
 | w :: ws,acc,h,hl=>by
   rw [List.length_cons] at hl
   have h1:=h w (List.mem_cons_self ..)
   rw [ways_ok (by omega) (by rw[of_err];exact h1),of_ok h1,ways_all (fun x hx=>h x (List.mem_cons_of_mem _ hx)) (by rw[List.length_append,List.length_singleton];omega),List.append_assoc]
   rfl
theorem from_all {p:Plan}:∀ {l:List Nat} {acc:List Route},(∀ i∈l,(Cr.of p i).2=0∧∀ w∈(Cr.of p i).1,(Lp.of p i w).2=0)→acc.length+(l.map fun (i:Nat)=>(Cr.of p i).1.length).sum≤30→from_ p l acc=(acc++l.flatMap (fun (i:Nat)=>(Cr.of p i).1.map fun w=>fill p i w (Lp.of p i w).1),0)
 | [],acc,_,_=>by rw[List.flatMap_nil,List.append_nil];rfl
 | i :: l,acc,h,hl=>by
   rw [List.map_cons,List.sum_cons] at hl
   obtain ⟨h1,h2⟩:=h i (List.mem_cons_self ..)
   have hw:=ways_all (p:=p) (i:=i) (acc:=acc) h2 (by omega)
   rw [from_ok h1 (by rw[hw]),hw,from_all (fun x hx=>h x (List.mem_cons_of_mem _ hx)) (by rw[List.length_append,List.length_map];omega),List.append_assoc,List.flatMap_cons]
theorem all_all {p:Plan} (h:∀ i∈List.range p.sigs.length,(Cr.of p i).2=0∧∀ w∈(Cr.of p i).1,(Lp.of p i w).2=0) (hl:((List.range p.sigs.length).map fun (i:Nat)=>(Cr.of p i).1.length).sum≤30):all p=((List.range p.sigs.length).flatMap (fun (i:Nat)=>(Cr.of p i).1.map fun w=>fill p i w (Lp.of p i w).1),0):=by
 unfold all
 rw [from_all h (by rw[List.length_nil];omega),List.nil_append]
end Go.Proofs.YtncphjodaklleaaGreat.Rt
namespace Go.Proofs.YtncphjodaklleaaGreat
open Go.RowKit
def awL:Pl.Plan:=⟨3000,15000,2,1,[⟨[69],false,9000,⟨3,0,3⟩,⟨1,0,-1⟩,⟨-1,0,-1⟩⟩,⟨[70],false,8000,⟨0,1,7⟩,⟨-1,0,-1⟩,⟨-1,0,-1⟩⟩,⟨[80],true,5000,⟨7,1,-1⟩,⟨4,0,-1⟩,⟨5,0,-1⟩⟩,⟨[81],true,5000,⟨0,0,-1⟩,⟨4,1,-1⟩,⟨5,1,-1⟩⟩,⟨[84],false,7000,⟨2,1,4⟩,⟨3,1,1⟩,⟨-1,0,-1⟩⟩,⟨[85],false,7000,⟨2,2,5⟩,⟨3,2,2⟩,⟨-1,0,-1⟩⟩,⟨[86],false,8000,⟨-1,0,-1⟩,⟨7,0,6⟩,⟨-1,0,-1⟩⟩,⟨[87],false,9000,⟨6,1,-1⟩,⟨2,0,0⟩,⟨-1,0,-1⟩⟩],[⟨[65],7,1⟩,⟨[66],4,1⟩,⟨[67],5,1⟩,⟨[68],0,0⟩,⟨[71],4,0⟩,⟨[72],5,0⟩,⟨[73],6,1⟩,⟨[74],1,0⟩]⟩
abbrev exL:ByteArray:=⟨((([111,118,101,114,108,97,112,32,51,48,48,48,10,97,112,112,114,111,97,99,104,32,49,53,48,48,48,10,115,101,116,116,108,101,32,50,10,104,111,108,100,32,49,10,115,101,99,116].append [105,111,110,32,87,32,57,48,48,48,10,115,101,99,116,105,111,110,32,86,32,56,48,48,48,10,112,111,105,110,116,32,80,32,53,48,48,48,10,115,101,99,116,105,111,110,32,84,32]).append ([55,48,48,48,10,115,101,99,116,105,111,110,32,85,32,55,48,48,48,10,112,111,105,110,116,32,81,32,53,48,48,48,10,115,101,99,116,105,111,110,32,69,32,57,48,48,48,10,115].append [101,99,116,105,111,110,32,70,32,56,48,48,48,10,106,111,105,110,32,86,46,98,32,87,46,97,10,106,111,105,110,32,87,46,98,32,80,46,116,10,106,111,105,110,32,80,46,110,32])).append (([84,46,97,10,106,111,105,110,32,80,46,114,32,85,46,97,10,106,111,105,110,32,84,46,98,32,81,46,110,10,106,111,105,110,32,85,46,98,32,81,46,114,10,106,111,105,110,32].append [81,46,116,32,69,46,97,10,106,111,105,110,32,69,46,98,32,70,46,97,10,98,117,102,102,101,114,32,86,46,97,10,98,117,102,102,101,114,32,70,46,98,10,115,105,103,110,97,108]).append ([32,65,32,87,46,98,10,115,105,103,110,97,108,32,66,32,84,46,98,10,115,105,103,110,97,108,32,67,32,85,46,98,10,115,105,103,110,97,108,32,68,32,69,46,97,10,115,105,103].append [110,97,108,32,71,32,84,46,97,10,115,105,103,110,97,108,32,72,32,85,46,97,10,115,105,103,110,97,108,32,73,32,86,46,98,10,115,105,103,110,97,108,32,74,32,70,46,97,10]))).toArray⟩
theorem exL_built:Pl.builtP exL.data.toList=(awL,0,0):=by decide +kernel
theorem made_exL:madeP exL.data.toList=some awL:=by
 unfold madeP
 rw [exL_built]
 exact if_pos ⟨by decide +kernel,rfl⟩
theorem tbA_ok:∀ i∈List.range awL.sigs.length,(Cr.of awL i).2=0∧∀ w∈(Cr.of awL i).1,(Lp.of awL i w).2=0:=by decide +kernel
theorem tbA_len:((List.range awL.sigs.length).map fun (i:Nat)=>(Cr.of awL i).1.length).sum=10:=by decide +kernel
theorem tbA_all:Rt.all awL=((List.range awL.sigs.length).flatMap (fun (i:Nat)=>(Cr.of awL i).1.map fun w=>Rt.fill awL i w (Lp.of awL i w).1),0):=Rt.all_all tbA_ok (by rw[tbA_len];decide)
theorem tbA_one:∃ T:Tb.Table,Tb.make awL=(T,0)∧T.names=[[69],[70],[80],[81],[84],[85],[86],[87]]∧T.points=[false,false,true,true,false,false,false,false]∧T.sigs=[[65],[66],[67],[68],[71],[72],[73],[74]]∧T.settle=2∧T.routes.length=10∧T.bars.length=10∧Tb.Tight T∧Tb.right T=true:=by
 have h0:(Rt.all awL).2=0:=by rw[tbA_all]
 have hm:=madeP_route made_exL
 have hn:=madeP_named made_exL
 have hl:(Rt.all awL).1.length=10:=by
  rw [tbA_all]
  show (List.flatMap _ _).length=10
  rw [List.length_flatMap,← tbA_len]
  congr 2
  funext i
  rw [List.length_map]
 have ht:=Tb.make_tight hm.1 hn
 have hr:=Tb.right_make hm.1 hm.2.1 hn h0
 have e:=Tb.make_ok h0
 rw [e] at ht hr
 exact ⟨_,e,by decide,by decide,by decide,by decide,hl,(Cl.rows_len _).trans hl,ht,hr⟩
namespace Tb
theorem right_settle (t:Table):right { t with settle:=-1 } = false:=by
 refine Bool.eq_false_iff.2 fun h=>?_
 unfold right at h
 simp only [Bool.and_eq_true,decide_eq_true_iff] at h
 have:=h.1.1.1.2
 omega
theorem right_named {t:Table} {N:List Pl.Nm} (h:namesOk N=false):right { t with names:=N } = false:=by
 refine Bool.eq_false_iff.2 fun h'=>?_
 unfold right at h'
 simp only [Bool.and_eq_true,h] at h'
 exact absurd h'.1.1.1.1.1.2 (by decide)
theorem named_spoilt:namesOk [[90],[70],[80],[81],[84],[85],[86],[87]]=false:=by decide +kernel
theorem right_zero:right zero=true:=by decide +kernel
theorem zero_bound:Bound zero:=zero_tight.bound
theorem settle_bound {t:Table} (h:Bound t) (x:Int):Bound { t with settle:=x }:=⟨h.1,h.2,h.3,h.4,h.5,h.6,h.7,h.8,h.9⟩
theorem named_bound {t:Table} (h:Bound t):Bound { t with names:=[[90],[70],[80],[81],[84],[85],[86],[87]] }:=⟨show 8≤1000000 by decide,h.2,h.3,h.4,(by decide:∀ x∈([[90],[70],[80],[81],[84],[85],[86],[87]]:List Pl.Nm),x.length≤1000000),h.6,h.7,h.8,h.9⟩
end Tb
end Go.Proofs.YtncphjodaklleaaGreat
