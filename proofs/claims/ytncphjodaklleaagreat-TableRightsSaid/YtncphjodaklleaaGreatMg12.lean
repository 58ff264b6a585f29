/-
 Texts of this claim, merged: WkRef, WkRefB, WkRefC, WkPrA, WkPrB, WkProg, CrSplit.
-/
import Derived.Test.YtncphjodaklleaaGreatMg02
import Derived.Test.YtncphjodaklleaaGreatMg09
import Derived.Test.YtncphjodaklleaaGreatMg11
import Derived.BigQuiet
import Derived.Deep.LoopGhost
import Derived.Shelf.Abstract
set_option maxHeartbeats 8000000
set_option maxRecDepth 100000
namespace Go.Proofs.YtncphjodaklleaaGreat
open Go.RowKit
abbrev endZ:Obj:=.cells #[.int .i64 0,.int .i64 0,.int .i64 0] 56
def EndIs (x:Option Pl.En) (w:World) (e:Ending) (w':World):Prop:=e=.returned (.tuple #[endV (x.getD ⟨0,0,0⟩),.bool x.isSome])∧Below w.heap.size w w'
theorem row3 {w:World} {g:Nat} {a b c:Value} {t:TypeId} (h:w.heap[g]? = some (.cells #[a,b,c] t (0,0))) :
 (w.cell? ⟨g,0,none⟩ = some a∧w.cell? ⟨g,1,none⟩ = some b∧w.cell? ⟨g,2,none⟩ = some c)∧(w.frozen? ⟨g,0,none⟩ = false∧w.frozen? ⟨g,1,none⟩ = false∧w.frozen? ⟨g,2,none⟩ = false)∧g<w.heap.size :=
 ⟨⟨cell_of_row w g 0 _ t _ h,cell_of_row w g 1 _ t _ h,cell_of_row w g 2 _ t _ h⟩,⟨frozen_of_row w g 0 _ t h,frozen_of_row w g 1 _ t h,frozen_of_row w g 2 _ t h⟩,(Array.getElem?_eq_some_iff.1 h).1⟩
def NextIs (x:Int × Int × Bool) (w:World) (e:Ending) (w':World):Prop:=e=.returned (.tuple #[.int .i64 x.1,.int .i64 x.2.1,.bool x.2.2])∧Below w.heap.size w w'
def OneIs (v:Value) (w:World) (e:Ending) (w':World):Prop:=e=.returned v∧Below w.heap.size w w'
abbrev stpO (x:Wk.Stp):Obj:=.cells #[.int .i64 x.s,.int .i64 x.f,.int .i64 x.t] 123
theorem within_at {L:List Wk.Stp} {s:Int} {k:Nat} {x:Wk.Stp} (hx:L[k]? = some x) (h:x.s=s):Wk.within L s=true:=by
 unfold Wk.within
 rw [List.any_eq_true]
 exact ⟨x,List.mem_of_getElem? hx,decide_eq_true h⟩
theorem within_none {L:List Wk.Stp} {s:Int} (h:∀ j<L.length,∀ x,L[j]? = some x→x.s≠s):Wk.within L s=false:=by
 unfold Wk.within
 rw [List.any_eq_false]
 intro x hx
 obtain ⟨j,hj,rfl⟩:=List.getElem_of_mem hx
 simpa using h j hj _ (List.getElem?_eq_getElem hj)
theorem row_one (w:World) (y:Wk.Stp) {g:Nat} (hg:w.heap.size=g):LStp.Row (w.alloc (.cells #[.int .i64 y.s,.int .i64 y.f,.int .i64 y.t] 123)) (some ⟨g,0,none⟩) [y]:=hg ▸ Lies.Row.fresh (E:=LStp) w [y] 123
theorem rwWithin_any (A:Option Addr) (c:Nat) (L:List Wk.Stp) (s:Int) (w:World) (h:LStp.Row w A L) (hl:L.length≤1000000) :
 Calls Tryz.prog 101 #[.slice A L.length c,.int .i64 s] w fun e w'=>e=.returned (.bool (Wk.within L s))∧w=w':=by
 go_enter Tryz.func101,Tryz.ntmps101
 go_wp2
 go_loop [5] (fun i=>∃ k:Nat,k≤L.length∧i=.int .i64 k∧∀ j<k,∀ t,L[j]? = some t→t.s≠s) (fun i=>L.length - (intOf i).toNat)
 case atStart=>exact ⟨0,Nat.zero_le _,rfl,fun j hj=>absurd hj (by omega)⟩
 case round =>
  obtain ⟨k,hk,rfl,h0⟩:=hrel
  have H0:=Lib.hid h0
  clear h0
  by_cases hlt:k<L.length
  ·obtain ⟨b,o,rfl,hb,on⟩:=h.at hlt
   have hx:=List.getElem?_eq_getElem hlt
   generalize L[k]=x at hx on
   obtain ⟨a0,-⟩:=stp_on on
   rw [show k * LStp.m=k * 3 from rfl] at a0
   have HX:=Lib.hid hx
   clear on hx
   by_cases he:x.s=s
   ·have h1:(x.s == s)=true:=by rw[beq_iff_eq];exact he
    have P:=Lib.hid (within_at HX.out he)
    clear he
    go_wp2
    go_ret
    exact ⟨by rw[P.out];rfl,rfl⟩
   ·have h1:(x.s == s)=false:=by rw[beq_eq_false_iff_ne];exact he
    have N:=Lib.hid (fun j (hj:j<k+1) t (ht:L[j]? = some t)=>(show t.s≠s from by
     by_cases hjk:j=k
     ·subst hjk
      rw [HX.out] at ht
      cases ht
      exact he
     ·exact H0.out j (by omega) t ht))
    clear he
    go_wp2
    go_round
    case rel=>exact ⟨k+1,by omega,by go_num,N.out⟩
    case measure=>simp [intOf];omega
  ·obtain rfl:k=L.length:=by omega
   have P:=Lib.hid (within_none H0.out)
   go_wp2
   go_ret
   exact ⟨by rw[P.out];rfl,rfl⟩
def endsAt (p:Pl.Plan) (s:Int):Pl.Sec × Nat :=
 match Wk.secAt p s with
 | none=>(⟨[],false,0,⟨0,0,0⟩,⟨0,0,0⟩,⟨0,0,0⟩⟩,0)
 | some x=>(x,if x.pt then 3 else 2)
theorem endsAt_le (p:Pl.Plan) (s:Int):(endsAt p s).2≤3:=by
 unfold endsAt
 split
 ·exact Nat.zero_le _
 ·split
  ·exact Nat.le_refl _
  ·exact Nat.le_succ _
theorem endOf_ends (p:Pl.Plan) (s e:Int):Wk.endOf p s e=if 0≤e∧e<((endsAt p s).2:Int) then some ((endsAt p s).1.get e.toNat) else none:=by
 unfold Wk.endOf endsAt
 cases Wk.secAt p s with
 | none =>
   simp only
   rw [if_neg (by omega)]
 | some x =>
   simp only
   unfold Wk.isEnd
   cases x.pt
   ·simp only [Bool.or_false,Bool.and_eq_true,decide_eq_true_eq,Bool.false_eq_true,if_false]
    by_cases h:0≤e∧e≤2∧e≠2
    ·rw[if_pos h,if_pos (by omega)]
    ·rw[if_neg h,if_neg (by omega)]
   ·simp only [Bool.or_true,Bool.and_true,Bool.and_eq_true,decide_eq_true_eq,if_true]
    by_cases h:0≤e∧e≤2
    ·rw[if_pos h,if_pos (by omega)]
    ·rw[if_neg h,if_neg (by omega)]
abbrev wkEV (x:Pl.Sec):Value:=.agg #[.int .i64 x.e0.goes,.int .i64 x.e0.at_,.int .i64 x.e0.sig,.int .i64 x.e1.goes,.int .i64 x.e1.at_,.int .i64 x.e1.sig,.int .i64 x.e2.goes,.int .i64 x.e2.at_,.int .i64 x.e2.sig]
abbrev wkEO (x:Pl.Sec):Obj:=.cells #[.int .i64 x.e0.goes,.int .i64 x.e0.at_,.int .i64 x.e0.sig,.int .i64 x.e1.goes,.int .i64 x.e1.at_,.int .i64 x.e1.sig,.int .i64 x.e2.goes,.int .i64 x.e2.at_,.int .i64 x.e2.sig] 57
abbrev wkEZ:Obj:=.cells #[.int .i64 0,.int .i64 0,.int .i64 0,.int .i64 0,.int .i64 0,.int .i64 0,.int .i64 0,.int .i64 0,.int .i64 0] 57
abbrev wkSO (x:Pl.Sec):Obj:=.cells #[.string (txt x.name),.bool x.pt,.int .i64 x.len,.int .i64 x.e0.goes,.int .i64 x.e0.at_,.int .i64 x.e0.sig,.int .i64 x.e1.goes,.int .i64 x.e1.at_,.int .i64 x.e1.sig,.int .i64 x.e2.goes,.int .i64 x.e2.at_,.int .i64 x.e2.sig] 59
def EndsAre (x:Pl.Sec × Nat) (w:World) (e:Ending) (w':World):Prop:=e=.returned (.tuple #[wkEV x.1,.int .i64 x.2])∧Below w.heap.size w w'
theorem three_new (w:World) (a b c:Obj):(((w.alloc a).alloc b).alloc c).heap[w.heap.size]? = some a∧(((w.alloc a).alloc b).alloc c).heap[w.heap.size+1]? = some b∧(((w.alloc a).alloc b).alloc c).heap[w.heap.size+2]? = some c∧Below w.heap.size w (((w.alloc a).alloc b).alloc c):=by
 have s1:(w.alloc a).heap.size=w.heap.size+1:=by simp
 have s2:((w.alloc a).alloc b).heap.size=w.heap.size+2:=by simp
 refine ⟨?_,?_,?_,(((Below.refl _ _).alloc (Nat.le_refl _) _).alloc (by omega) _).alloc (by omega) _⟩
 ·rw[heap_alloc_old _ _ (by omega),heap_alloc_old _ _ (by omega)];exact heap_alloc_new _ _
 ·rw[heap_alloc_old _ _ (by omega),← s1];exact heap_alloc_new _ _
 ·rw[← s2];exact heap_alloc_new _ _
theorem row9 {w:World} {g:Nat} {a b c d e f i j k:Value} {t:TypeId} (h:w.heap[g]? = some (.cells #[a,b,c,d,e,f,i,j,k] t (0,0))) :
 (w.cell? ⟨g,0,none⟩ = some a∧w.cell? ⟨g,1,none⟩ = some b∧w.cell? ⟨g,2,none⟩ = some c∧w.cell? ⟨g,3,none⟩ = some d∧w.cell? ⟨g,4,none⟩ = some e∧w.cell? ⟨g,5,none⟩ = some f∧w.cell? ⟨g,6,none⟩ = some i∧w.cell? ⟨g,7,none⟩ = some j∧w.cell? ⟨g,8,none⟩ = some k) ∧
 (w.frozen? ⟨g,0,none⟩ = false∧w.frozen? ⟨g,1,none⟩ = false∧w.frozen? ⟨g,2,none⟩ = false∧w.frozen? ⟨g,3,none⟩ = false∧w.frozen? ⟨g,4,none⟩ = false∧w.frozen? ⟨g,5,none⟩ = false∧w.frozen? ⟨g,6,none⟩ = false∧w.frozen? ⟨g,7,none⟩ = false∧w.frozen? ⟨g,8,none⟩ = false)∧g<w.heap.size :=
 ⟨⟨cell_of_row w g 0 _ t _ h,cell_of_row w g 1 _ t _ h,cell_of_row w g 2 _ t _ h,cell_of_row w g 3 _ t _ h,cell_of_row w g 4 _ t _ h,cell_of_row w g 5 _ t _ h,cell_of_row w g 6 _ t _ h,cell_of_row w g 7 _ t _ h,cell_of_row w g 8 _ t _ h⟩,
   ⟨frozen_of_row w g 0 _ t h,frozen_of_row w g 1 _ t h,frozen_of_row w g 2 _ t h,frozen_of_row w g 3 _ t h,frozen_of_row w g 4 _ t h,frozen_of_row w g 5 _ t h,frozen_of_row w g 6 _ t h,frozen_of_row w g 7 _ t h,frozen_of_row w g 8 _ t h⟩,(Array.getElem?_eq_some_iff.1 h).1⟩
theorem row_sec {w:World} {g:Nat} {x:Pl.Sec} (h:w.heap[g]? = some (wkSO x)) :
 w.cell? ⟨g,1,none⟩ = some (.bool x.pt)∧w.cell? ⟨g,3,none⟩ = some (.int .i64 x.e0.goes)∧w.cell? ⟨g,4,none⟩ = some (.int .i64 x.e0.at_)∧w.cell? ⟨g,5,none⟩ = some (.int .i64 x.e0.sig)∧w.cell? ⟨g,6,none⟩ = some (.int .i64 x.e1.goes)∧w.cell? ⟨g,7,none⟩ = some (.int .i64 x.e1.at_) ∧
  w.cell? ⟨g,8,none⟩ = some (.int .i64 x.e1.sig)∧w.cell? ⟨g,9,none⟩ = some (.int .i64 x.e2.goes)∧w.cell? ⟨g,10,none⟩ = some (.int .i64 x.e2.at_)∧w.cell? ⟨g,11,none⟩ = some (.int .i64 x.e2.sig)∧g<w.heap.size :=
 ⟨cell_of_row w g 1 _ _ _ h,cell_of_row w g 3 _ _ _ h,cell_of_row w g 4 _ _ _ h,cell_of_row w g 5 _ _ _ h,cell_of_row w g 6 _ _ _ h,cell_of_row w g 7 _ _ _ h,cell_of_row w g 8 _ _ _ h,cell_of_row w g 9 _ _ _ h,cell_of_row w g 10 _ _ _ h,cell_of_row w g 11 _ _ _ h,(Array.getElem?_eq_some_iff.1 h).1⟩
theorem pwEnds_any (p:Pl.Plan) (A:Option Addr) (c:Nat) (A':Option Addr) (c':Nat) (s:Int) (w:World) (h:PlanIn w p A A') :
 Calls Tryz.prog 147 #[planV p A c A' c',.int .i64 s] w (EndsAre (endsAt p s) w):=by
 --[
 obtain ⟨R0,R1,XX,XS⟩:=two_blocks w (planO p A c A' c') wkEZ
 have X0:=Lib.hid XX
 obtain ⟨⟨-,-,-,-,p4,-⟩,-,gp⟩:=row6 R0
 obtain ⟨⟨z0,z1,z2,z3,z4,z5,z6,z7,z8⟩,⟨f0,f1,f2,f3,f4,f5,f6,f7,f8⟩,gz⟩:=row9 R1
 have HI:=Lib.hid (h.below XX)
 clear R0 R1 XX h
 rcases Wk.sec_ways p s with ⟨hs,hn⟩ | ⟨k,rfl,⟨hk,hn⟩ | ⟨x,hx,hn⟩⟩
 ·have D:decide (s<0)=true:=dec_t hs
  have E:endsAt p s=(⟨[],false,0,⟨0,0,0⟩,⟨0,0,0⟩,⟨0,0,0⟩⟩,0):=by unfold endsAt;rw[hn]
  rw [E]
  clear hs hn E
  go_enter Tryz.func147,Tryz.ntmps147
  go_wp2_with fail
  refine bodyPost_ret ?_ rfl ⟨rfl,?_⟩
  ·simp [results,Tryz.results147,go_sem, *]
  ·(repeat (with_reducible refine Below.setCell ?_ (by exact Nat.le_succ _) _));exact X0.out
 ·have D0:decide ((k:Int)<0)=false:=dec_f (by omega)
  have D1:decide ((p.secs.length:Int)≤(k:Int))=true:=dec_t (by omega)
  have E:endsAt p k=(⟨[],false,0,⟨0,0,0⟩,⟨0,0,0⟩,⟨0,0,0⟩⟩,0):=by unfold endsAt;rw[hn]
  rw [E]
  clear hn E
  go_enter Tryz.func147,Tryz.ntmps147
  go_wp2_with fail
  refine bodyPost_ret ?_ rfl ⟨rfl,?_⟩
  ·simp [results,Tryz.results147,go_sem, *]
  ·(repeat (with_reducible refine Below.setCell ?_ (by exact Nat.le_succ _) _));exact X0.out
 ·have hlt:k<p.secs.length:=(List.getElem?_eq_some_iff.1 hx).1
  have D0:decide ((k:Int)<0)=false:=dec_f (by omega)
  have D1:decide ((p.secs.length:Int)≤(k:Int))=false:=dec_f (by omega)
  have N1:¬ p.secs.length≤k:=by omega
  have E:endsAt p k=(x,if x.pt then 3 else 2):=by unfold endsAt;rw[hn]
  rw [E]
  obtain ⟨b,o,rfl,hb,on⟩:=sec_cells HI.out.1 hx
  obtain ⟨a0,a1,a2,a3,a4,a5,a6,a7,a8,a9,a10,a11⟩:=sec_on on
  obtain ⟨-,R1,R2,-⟩:=three_new w (planO p (some ⟨b,o,none⟩) c A' c') wkEZ (wkSO x)
  obtain ⟨⟨y0,y1,y2,y3,y4,y5,y6,y7,y8⟩,⟨q0,q1,q2,q3,q4,q5,q6,q7,q8⟩,gy⟩:=row9 R1
  obtain ⟨t1,t3,t4,t5,t6,t7,t8,t9,t10,t11,gt⟩:=row_sec R2
  clear hn on hx E R1 R2 X0
  cases hpt:x.pt
  ·rw [hpt] at a1 t1
   simp only [Bool.false_eq_true,if_false]
   clear hpt
   go_enter Tryz.func147,Tryz.ntmps147
   go_wp2_with fail
   refine bodyPost_ret ?_ rfl ⟨rfl,?_⟩
   ·simp [results,Tryz.results147,go_sem, *]
   ·exact (three_new w _ _ _).2.2.2
  ·rw [hpt] at a1 t1
   simp only [if_true]
   clear hpt
   go_enter Tryz.func147,Tryz.ntmps147
   go_wp2_with fail
   refine bodyPost_ret ?_ rfl ⟨rfl,?_⟩
   ·simp [results,Tryz.results147,go_sem, *]
   ·exact (three_new w _ _ _).2.2.2
 --]
theorem ends_at3 {w:World} {g:Nat} {x:Pl.Sec} (h:w.heap[g]? = some (wkEO x)) {e:Nat} (he:e<3):w.cell? ⟨g,e * 3,none⟩ = some (.int .i64 (x.get e).goes)∧w.cell? ⟨g,e * 3+1,none⟩ = some (.int .i64 (x.get e).at_)∧w.cell? ⟨g,e * 3+2,none⟩ = some (.int .i64 (x.get e).sig):=by
 obtain ⟨⟨a3,a4,a5,a6,a7,a8,a9,a10,a11⟩,-,-⟩:=row9 h
 have:e=0∨e=1∨e=2:=by omega
 rcases this with rfl | rfl | rfl
 ·exact ⟨a3,a4,a5⟩
 ·exact ⟨a6,a7,a8⟩
 ·exact ⟨a9,a10,a11⟩
theorem pwTip_any (p:Pl.Plan) (A:Option Addr) (c:Nat) (A':Option Addr) (c':Nat) (s e:Int) (w:World) (h:PlanIn w p A A') :
 Calls Tryz.prog 118 #[planV p A c A' c',.int .i64 s,.int .i64 e] w (EndIs (Wk.endOf p s e) w):=by
 --[
 obtain ⟨R0,R1,XX,XS⟩:=two_blocks w (planO p A c A' c') endZ
 have X0:=Lib.hid XX
 obtain ⟨⟨p0,p1,p2,p3,p4,p5⟩,-,gp⟩:=row6 R0
 have HR1:=Lib.hid R1
 have EN:=Lib.hid (pwEnds_any p A c A' c' s _ (h.below XX))
 have hle:=endsAt_le p s
 rw [endOf_ends]
 clear R0 R1 XX h
 generalize endsAt p s=q at EN hle
 obtain ⟨x,n⟩:=q
 simp only at hle
 have fin2:∀ w1,Below ((w.alloc (planO p A c A' c')).alloc endZ).heap.size ((w.alloc (planO p A c A' c')).alloc endZ) w1→(w1.alloc (wkEO x)).heap[w.heap.size+1]? = some endZ∧(w1.alloc (wkEO x)).heap[w1.heap.size]? = some (wkEO x)∧Below w.heap.size w (w1.alloc (wkEO x)):=fun w1 hb=>by
  have hsz:=hb.size
  refine ⟨?_,heap_alloc_new _ _,(X0.out.trans (hb.mono X0.out.size)).alloc (X0.out.trans (hb.mono X0.out.size)).size _⟩
  rw [heap_alloc_old _ _ (by omega),hb.block _ (by omega)]
  exact HR1.out
 have F2:=Lib.hid fin2
 clear fin2 HR1
 by_cases h0:e<0
 ·have D2:decide (e<0)=true:=dec_t h0
  rw [if_neg (by omega)]
  clear h0
  go_enter Tryz.func118,Tryz.ntmps118
  go_wp2_with fail
  refine EN.out.mono ?_;rintro e w1 ⟨rfl,hb1⟩
  obtain ⟨R1,R2,B2⟩:=F2.out w1 hb1
  obtain ⟨⟨z0,z1,z2⟩,⟨f0,f1,f2⟩,gz⟩:=row3 R1
  have H2:=Lib.hid B2
  clear p0 p1 p2 p3 p4 p5 hb1 R1 R2 B2 F2 EN
  go_wp2_with fail
  refine bodyPost_ret ?_ rfl ⟨rfl,?_⟩
  ·simp [results,Tryz.results118,go_sem, *]
  ·(repeat (with_reducible refine Below.setCell ?_ (by exact Nat.le_succ _) _));exact H2.out
 have D2:decide (e<0)=false:=dec_f h0
 obtain ⟨j,rfl⟩:∃ j:Nat,e=j:=⟨e.toNat,by omega⟩
 by_cases h2:n≤j
 ·have D3:decide ((n:Int)≤(j:Int))=true:=dec_t (by omega)
  rw [if_neg (by simp only;omega)]
  clear h0
  go_enter Tryz.func118,Tryz.ntmps118
  go_wp2_with fail
  refine EN.out.mono ?_;rintro e w1 ⟨rfl,hb1⟩
  obtain ⟨R1,R2,B2⟩:=F2.out w1 hb1
  obtain ⟨⟨z0,z1,z2⟩,⟨f0,f1,f2⟩,gz⟩:=row3 R1
  have H2:=Lib.hid B2
  clear p0 p1 p2 p3 p4 p5 hb1 R1 R2 B2 F2 EN
  go_wp2_with fail
  refine bodyPost_ret ?_ rfl ⟨rfl,?_⟩
  ·simp [results,Tryz.results118,go_sem, *]
  ·(repeat (with_reducible refine Below.setCell ?_ (by exact Nat.le_succ _) _));exact H2.out
 ·have D3:decide ((n:Int)≤(j:Int))=false:=dec_f (by omega)
  have N3:¬ n≤j:=h2
  have j3:(j:Int)<3:=by omega
  have j3':j<3:=by omega
  rw [if_pos (by simp only;omega),Int.toNat_natCast]
  obtain ⟨⟨y0,y1,y2⟩,hy⟩:∃ y,y=x.get j:=⟨_,rfl⟩
  have HY:=Lib.hid hy.symm
  simp only
  rw [← hy]
  clear h0 h2 hy
  go_enter Tryz.func118,Tryz.ntmps118
  go_wp2_with fail
  refine EN.out.mono ?_;rintro e w1 ⟨rfl,hb1⟩
  obtain ⟨R1,R2,B2⟩:=F2.out w1 hb1
  obtain ⟨⟨z0,z1,z2⟩,⟨f0,f1,f2⟩,gz⟩:=row3 R1
  obtain ⟨k0,k1,k2⟩:=ends_at3 R2 j3'
  have gk:=(Array.getElem?_eq_some_iff.1 R2).1
  rw [HY.out] at k0 k1 k2
  simp only at k0 k1 k2
  have H2:=Lib.hid B2
  clear p0 p1 p2 p3 p4 p5 hb1 R1 R2 B2 F2 EN
  go_wp2_with fail
  refine bodyPost_ret ?_ rfl ⟨rfl,?_⟩
  ·simp [results,Tryz.results118,go_sem, *]
  ·(repeat (with_reducible refine Below.setCell ?_ (by exact Nat.le_succ _) _));exact H2.out
 --]
theorem pwPosition_any (p:Pl.Plan) (A:Option Addr) (c:Nat) (A':Option Addr) (c':Nat) (x:Wk.Stp) (w:World) (h:PlanIn w p A A') (_hl:p.secs.length≤24) :
 Calls Tryz.prog 126 #[planV p A c A' c',stpV x] w (OneIs (.int .i64 (Wk.position p x)) w):=by
 --[
 obtain ⟨s,f,t⟩:=x
 obtain ⟨R0,R1,XX,XS⟩:=two_blocks w (planO p A c A' c') (stpO ⟨s,f,t⟩)
 have X0:=Lib.hid XX
 obtain ⟨⟨-,-,-,-,p4,-⟩,-,gp⟩:=row6 R0
 obtain ⟨⟨z0,z1,z2⟩,-,gz⟩:=row3 R1
 have HI:=Lib.hid (h.below XX)
 clear R0 R1 XX h
 have E:∀ s,Wk.position p ⟨s,f,t⟩ = if ((Wk.secAt p s).map Pl.Sec.pt).getD false then max (max f t) 0 else 0:=fun _=>rfl
 rcases Wk.sec_ways p s with ⟨hs,hn⟩ | ⟨k,rfl,⟨hk,hn⟩ | ⟨x,hx,hn⟩⟩
 ·have D:decide (s<0)=true:=dec_t hs
  rw [E,hn]
  clear hs hn E
  go_enter Tryz.func126,Tryz.ntmps126
  go_wp2_with fail
  go_ret
  exact ⟨rfl,X0.out⟩
 ·have D0:decide ((k:Int)<0)=false:=dec_f (by omega)
  have D1:decide ((p.secs.length:Int)≤(k:Int))=true:=dec_t (by omega)
  rw [E,hn]
  clear hn E
  go_enter Tryz.func126,Tryz.ntmps126
  go_wp2_with fail
  go_ret
  exact ⟨rfl,X0.out⟩
 ·have hlt:k<p.secs.length:=(List.getElem?_eq_some_iff.1 hx).1
  have D0:decide ((k:Int)<0)=false:=dec_f (by omega)
  have D1:decide ((p.secs.length:Int)≤(k:Int))=false:=dec_f (by omega)
  have N1:¬ p.secs.length≤k:=by omega
  obtain ⟨b,o,rfl,hb,on⟩:=sec_cells HI.out.1 hx
  obtain ⟨-,a1,-⟩:=sec_on on
  rw [E,hn]
  clear hn on hx E
  cases hpt:x.pt
  ·rw [hpt] at a1
   simp only [Option.map_some,Option.getD_some,hpt]
   clear hpt
   go_enter Tryz.func126,Tryz.ntmps126
   go_wp2_with fail
   go_ret
   exact ⟨rfl,X0.out⟩
  ·rw [hpt] at a1
   simp only [Option.map_some,Option.getD_some,hpt]
   clear hpt
   go_enter Tryz.func126,Tryz.ntmps126
   go_wp2_with fail
   all_goals refine bodyPost_ret (v:=.int .i64 (max f (max t 0))) ?_ rfl ⟨rfl,X0.out⟩
   all_goals simp [results,Tryz.results126,go_sem]
   all_goals omega
 --]
theorem pStepOf (x:Wk.Stp) (s:Int) (g:Nat) (W:World) (hg:g<W.heap.size) (hc:W.cell? ⟨g,0,none⟩ = some (.int .i64 s)) :
 Calls Tryz.prog 148 #[stpV x,.pointer (some ⟨g,0,none⟩)] W fun e w'=>e=.returned (.bool (x.s == s))∧Below W.heap.size W w':=by
 --[
 obtain ⟨a,b,d⟩:=x
 have hne:g≠W.heap.size:=by omega
 have X:=Lib.hid ((Below.refl W.heap.size W).alloc (Nat.le_refl _) (stpO ⟨a,b,d⟩))
 show Calls Tryz.prog 148 #[.agg #[.int .i64 a,.int .i64 b,.int .i64 d],.pointer (some ⟨g,0,none⟩)] W fun e w'=>e=.returned (.bool (a == s))∧Below W.heap.size W w'
 cases h1:(a == s)
 ·go_enter Tryz.func148,Tryz.ntmps148
  go_wp2
  go_ret
  exact ⟨rfl,X.out⟩
 ·go_enter Tryz.func148,Tryz.ntmps148
  go_wp2
  go_ret
  exact ⟨rfl,X.out⟩
 --]
def HitIs (b:Bool) (w:World) (e:Ending) (w':World):Prop:=∃ i:Int,e=.returned (.int .i64 i)∧(b=true→decide (0≤i)=true)∧(b=false→i = -1)∧Below w.heap.size w w'
theorem pIndexStep (A:Option Addr) (c:Nat) (L:List Wk.Stp) (s:Int) (g:Nat) (w:World) (h:LStp.Row w A L) (hl:L.length≤1000000) (hg:g<w.heap.size) (hc:w.cell? ⟨g,0,none⟩ = some (.int .i64 s)) :
 Calls Tryz.prog 163 #[.slice A L.length c,.func (.func 148) #[] #[.pointer (some ⟨g,0,none⟩)]] w (HitIs (Wk.within L s) w):=by
 --[
 have eg:∀ args w,(callFunc 148 args).run Tryz.prog w=.ok (.enter 148 args) w:=enters_of Tryz.func148 (by kernel_rfl) rfl
 have IA:=Lib.hid h
 have CL:=Lib.hid (fun x W (hb:Below w.heap.size w W)=>pStepOf x s g W (Nat.lt_of_lt_of_le hg hb.size) ((hb.cell (p:=⟨g,0,none⟩) hg).trans hc))
 clear h hc
 go_enter Tryz.func163,Tryz.ntmps163
 go_wp2
 go_loopg [5,8] L.length (fun gg _ s8 wr=>∃ k:Nat,k≤L.length∧L.length - k≤gg∧s8=.int .i64 k∧Below w.heap.size w wr∧∀ j<k,∀ t,L[j]? = some t→t.s≠s)
 case atStart=>exact ⟨0,Nat.zero_le _,by omega,rfl,Below.refl _ w,fun j hj=>absurd hj (Nat.not_lt_zero _)⟩
 case round =>
  obtain ⟨k,hk,hgg,rfl,hB,h0⟩:=hrel
  have HB:=Lib.hid hB
  have H0:=Lib.hid h0
  clear hB h0
  by_cases hlt:k<L.length
  ·have d1:decide ((k:Int)<(L.length:Int))=true:=dec_t (by omega)
   have hx:=List.getElem?_eq_getElem hlt
   obtain ⟨b,o,rfl,hb,on⟩:=(IA.out.below rfl HB.out).at hlt
   generalize L[k]=x at hx on
   obtain ⟨a0,a1,a2⟩:=stp_on on
   rw [show k * LStp.m=k * 3 from rfl] at a0 a1 a2
   have HX:=Lib.hid hx
   have CX:=Lib.hid (CL.out x wr HB.out)
   clear on hx
   by_cases he:x.s=s
   ·have h1:(x.s == s)=true:=by rw[beq_iff_eq];exact he
    have P:=Lib.hid (within_at HX.out he)
    rw [h1] at CX
    clear he h1
    go_wp2_with (go_at_fn 148;refine CX.out.mono ?_;rintro e w' ⟨rfl,hb'⟩;have HB2:=Lib.hid (HB.out.trans (hb'.mono HB.out.size));clear hb')
    go_ret
    exact ⟨(k:Int),rfl,(fun _=>dec_t (by omega)),(fun h=>absurd (P.out.symm.trans h) (by decide)),HB2.out⟩
   ·have h1:(x.s == s)=false:=by rw[beq_eq_false_iff_ne];exact he
    have N:=Lib.hid (fun j (hj:j<k+1) t (ht:L[j]? = some t)=>(show t.s≠s from by
     by_cases hjk:j=k
     ·subst hjk
      rw [HX.out] at ht
      cases ht
      exact he
     ·exact H0.out j (by omega) t ht))
    rw [h1] at CX
    clear he h1
    go_wp2_with (go_at_fn 148;refine CX.out.mono ?_;rintro e w' ⟨rfl,hb'⟩;have HB2:=Lib.hid (HB.out.trans (hb'.mono HB.out.size));clear hb')
    go_roundg (L.length - (k+1))
    case measure=>omega
    case rel=>exact ⟨k+1,by omega,by omega,by go_num,HB2.out,N.out⟩
  ·obtain rfl:k=L.length:=by omega
   have P:=Lib.hid (within_none H0.out)
   go_wp2
   go_ret
   exact ⟨-1,rfl,(fun h=>absurd (P.out.symm.trans h) (by decide)),(fun _=>rfl),HB.out⟩
 --]
theorem pHasStep (A:Option Addr) (c:Nat) (L:List Wk.Stp) (s:Int) (g:Nat) (w:World) (h:LStp.Row w A L) (hl:L.length≤1000000) (hg:g<w.heap.size) (hc:w.cell? ⟨g,0,none⟩ = some (.int .i64 s)) :
 Calls Tryz.prog 137 #[.slice A L.length c,.func (.func 148) #[] #[.pointer (some ⟨g,0,none⟩)]] w (OneIs (.bool (Wk.within L s)) w):=by
 --[
 have HC:=Lib.hid (pIndexStep A c L s g w h hl hg hc)
 clear h hc hg
 cases hb:Wk.within L s with
 | true =>
   rw [hb] at HC
   clear hb
   go_enter Tryz.func137,Tryz.ntmps137
   go_wp2_with fail
   refine HC.out.mono ?_;rintro e w' ⟨i,rfl,h1,-,hb'⟩
   have D:=h1 rfl
   have HB:=Lib.hid hb'
   clear h1 hb' HC
   go_wp2_with fail
   go_ret
   exact ⟨rfl,HB.out⟩
 | false =>
   rw [hb] at HC
   clear hb
   go_enter Tryz.func137,Tryz.ntmps137
   go_wp2_with fail
   refine HC.out.mono ?_;rintro e w' ⟨i,rfl,-,h2,hb'⟩
   obtain rfl:=h2 rfl
   have HB:=Lib.hid hb'
   clear h2 hb' HC
   go_wp2_with fail
   go_ret
   exact ⟨rfl,HB.out⟩
 --]
theorem pwWithin_any (A:Option Addr) (c:Nat) (L:List Wk.Stp) (s:Int) (w:World) (h:LStp.Row w A L) (hl:L.length≤1000000) :
 Calls Tryz.prog 119 #[.slice A L.length c,.int .i64 s] w (OneIs (.bool (Wk.within L s)) w):=by
 --[
 have hb0:=(Below.refl w.heap.size w).alloc (Nat.le_refl _) (.cells #[.int .i64 s] 3)
 have HC:=Lib.hid (pHasStep A c L s w.heap.size _ (h.below rfl hb0) hl (by simp) (cell_of_row _ _ 0 _ _ _ (heap_alloc_new w (.cells #[.int .i64 s] 3))))
 have HB0:=Lib.hid hb0
 clear h hb0
 go_enter Tryz.func119,Tryz.ntmps119
 go_wp2_with fail
 refine HC.out.mono ?_;rintro e w' ⟨rfl,hb'⟩
 go_wp2_with fail
 go_ret
 exact ⟨rfl,HB0.out.trans (hb'.mono HB0.out.size)⟩
 --]
theorem pwNext_any (p:Pl.Plan) (A:Option Addr) (c:Nat) (A':Option Addr) (c':Nat) (s e:Int) (w:World) (h:PlanIn w p A A') (_hl:p.secs.length≤24) :
 Calls Tryz.prog 81 #[planV p A c A' c',.int .i64 s,.int .i64 e] w (NextIs (Wk.next p s e) w):=by
 --[
 have R0:=heap_alloc_new w (planO p A c A' c')
 have XX:=(Below.refl w.heap.size w).alloc (Nat.le_refl _) (planO p A c A' c')
 have X0:=Lib.hid XX
 obtain ⟨⟨p0,p1,p2,p3,p4,p5⟩,-,gp⟩:=row6 R0
 have AT:=Lib.hid (pwTip_any p A c A' c' s e _ (h.below XX))
 have E:Wk.next p s e=match Wk.endOf p s e with | none=>(0,0,false) | some x=>if x.goes<0 then (0,0,false) else (x.goes,x.at_,true):=rfl
 rw [E]
 clear R0 XX h E
 cases hx:Wk.endOf p s e with
 | none =>
   rw [hx] at AT
   clear hx
   go_enter Tryz.func81,Tryz.ntmps81
   go_wp2_with fail
   refine AT.out.mono ?_;rintro e w1 ⟨rfl,hb1⟩
   have B1:=Lib.hid ((X0.out.trans (hb1.mono X0.out.size)).alloc (X0.out.trans (hb1.mono X0.out.size)).size endZ)
   clear p0 p1 p2 p3 p4 p5 hb1
   go_wp2_with fail
   refine bodyPost_ret ?_ rfl ⟨rfl,B1.out⟩
   simp [results,Tryz.results81,go_sem]
 | some y =>
   rw [hx] at AT
   obtain ⟨y0,y1,y2⟩:=y
   by_cases h0:y0<0
   ·have D:decide (y0<0)=true:=dec_t h0
    simp only
    rw [if_pos h0]
    clear hx h0
    go_enter Tryz.func81,Tryz.ntmps81
    go_wp2_with fail
    refine AT.out.mono ?_;rintro e w1 ⟨rfl,hb1⟩
    have B1:=Lib.hid ((X0.out.trans (hb1.mono X0.out.size)).alloc (X0.out.trans (hb1.mono X0.out.size)).size (.cells #[.int .i64 y0,.int .i64 y1,.int .i64 y2] 56))
    obtain ⟨⟨k0,k1,k2⟩,-,-⟩:=row3 (heap_alloc_new w1 (.cells #[.int .i64 y0,.int .i64 y1,.int .i64 y2] 56))
    clear p0 p1 p2 p3 p4 p5 hb1
    go_wp2_with fail
    refine bodyPost_ret ?_ rfl ⟨rfl,B1.out⟩
    simp [results,Tryz.results81,go_sem]
   ·have D:decide (y0<0)=false:=dec_f h0
    simp only
    rw [if_neg h0]
    clear hx h0
    go_enter Tryz.func81,Tryz.ntmps81
    go_wp2_with fail
    refine AT.out.mono ?_;rintro e w1 ⟨rfl,hb1⟩
    have B1:=Lib.hid ((X0.out.trans (hb1.mono X0.out.size)).alloc (X0.out.trans (hb1.mono X0.out.size)).size (.cells #[.int .i64 y0,.int .i64 y1,.int .i64 y2] 56))
    obtain ⟨⟨k0,k1,k2⟩,-,-⟩:=row3 (heap_alloc_new w1 (.cells #[.int .i64 y0,.int .i64 y1,.int .i64 y2] 56))
    clear p0 p1 p2 p3 p4 p5 hb1
    go_wp2_with fail
    go_quiet (fail)
    go_wp2_with fail
    refine bodyPost_ret ?_ rfl ⟨rfl,below_drewN B1.out _⟩
    simp [results,Tryz.results81,go_sem]
 --]
theorem pwSignal_any (p:Pl.Plan) (A:Option Addr) (c:Nat) (A':Option Addr) (c':Nat) (s e:Int) (w:World) (h:PlanIn w p A A') (_hl:p.secs.length≤24) :
 Calls Tryz.prog 149 #[planV p A c A' c',.int .i64 s,.int .i64 e] w (OneIs (.int .i64 (Wk.signal p s e)) w):=by
 --[
 have R0:=heap_alloc_new w (planO p A c A' c')
 have XX:=(Below.refl w.heap.size w).alloc (Nat.le_refl _) (planO p A c A' c')
 have X0:=Lib.hid XX
 obtain ⟨⟨p0,p1,p2,p3,p4,p5⟩,-,gp⟩:=row6 R0
 have AT:=Lib.hid (pwTip_any p A c A' c' s e _ (h.below XX))
 have E:Wk.signal p s e=match Wk.endOf p s e with | none=>-1 | some x=>x.sig:=rfl
 rw [E]
 clear R0 XX h E
 cases hx:Wk.endOf p s e with
 | none =>
   rw [hx] at AT
   clear hx
   go_enter Tryz.func149,Tryz.ntmps149
   go_wp2_with fail
   refine AT.out.mono ?_;rintro e w1 ⟨rfl,hb1⟩
   have B1:=Lib.hid ((X0.out.trans (hb1.mono X0.out.size)).alloc (X0.out.trans (hb1.mono X0.out.size)).size endZ)
   clear p0 p1 p2 p3 p4 p5 hb1
   go_wp2_with fail
   go_ret
   exact ⟨rfl,B1.out⟩
 | some y =>
   rw [hx] at AT
   obtain ⟨y0,y1,y2⟩:=y
   clear hx
   go_enter Tryz.func149,Tryz.ntmps149
   go_wp2_with fail
   refine AT.out.mono ?_;rintro e w1 ⟨rfl,hb1⟩
   have B1:=Lib.hid ((X0.out.trans (hb1.mono X0.out.size)).alloc (X0.out.trans (hb1.mono X0.out.size)).size (.cells #[.int .i64 y0,.int .i64 y1,.int .i64 y2] 56))
   obtain ⟨⟨k0,k1,k2⟩,-,-⟩:=row3 (heap_alloc_new w1 (.cells #[.int .i64 y0,.int .i64 y1,.int .i64 y2] 56))
   clear p0 p1 p2 p3 p4 p5 hb1
   go_wp2_with fail
   go_ret
   exact ⟨rfl,B1.out⟩
 --]
theorem infoStp:(Tryz.prog.info? 123).map (fun i=>(i.zero,i.size,i.bytes))=some (some (.agg #[.int .i64 0,.int .i64 0,.int .i64 0]),3,24):=by kernel_rfl
def legsTo (s:Int) (k:Nat):List Wk.Stp:=(List.range k).map fun (i:Nat)=>(⟨s,0,(i:Int)+1⟩:Wk.Stp)
theorem legsTo_succ (s:Int) (k:Nat):legsTo s (k+1)=legsTo s k++[⟨s,0,(k:Int)+1⟩]:=by
 unfold legsTo
 rw [List.range_succ,List.map_append];rfl
theorem legsTo_len (s:Int) (k:Nat):(legsTo s k).length=k:=by unfold legsTo;rw[List.length_map,List.length_range]
theorem outs_ends (p:Pl.Plan) (s f:Int):Wk.outs p s f=if f<0∨((endsAt p s).2:Int)≤f then [] else if 0<f then [⟨s,f,0⟩] else legsTo s ((endsAt p s).2 - 1):=by
 unfold Wk.outs endsAt
 cases Wk.secAt p s with
 | none =>
   simp only
   rw [if_pos (by omega)]
 | some x =>
   simp only
   cases x.pt
   ·simp only [Bool.false_eq_true,if_false]
    by_cases h0:f=0
    ·subst h0;rfl
    by_cases h1:f=1
    ·subst h1;rfl
    rw [if_neg (by omega),if_pos (by omega)]
   ·simp only [if_true]
    by_cases h0:f=0
    ·subst h0;rfl
    by_cases h1:f=1∨f=2
    ·rw[if_neg h0,if_pos h1,if_neg (by omega),if_pos (by omega)]
    rw [if_neg h0,if_neg h1,if_pos (by omega)]
def LegSt (w wr:World) (v:Value) (L:List Wk.Stp):Prop:=Below w.heap.size w wr∧wr.ownsRow w.heap.size 123 LStp.m v L.length (LStp.all L)
theorem pwOuts_any (p:Pl.Plan) (A:Option Addr) (c:Nat) (A':Option Addr) (c':Nat) (s f:Int) (w:World) (h:PlanIn w p A A') (_hl:p.secs.length≤24) :
 Calls Tryz.prog 120 #[planV p A c A' c',.int .i64 s,.int .i64 f] w (StepsYes (Wk.outs p s f) w):=by
 --[
 obtain ⟨i0,hi,hz0,hz1,hz2⟩:=info_parts infoStp
 have R0:=heap_alloc_new w (planO p A c A' c')
 have XX:=(Below.refl w.heap.size w).alloc (Nat.le_refl _) (planO p A c A' c')
 have X0:=Lib.hid XX
 obtain ⟨⟨p0,p1,p2,p3,p4,p5⟩,-,gp⟩:=row6 R0
 have EN:=Lib.hid (pwEnds_any p A c A' c' s _ (h.below XX))
 have hle:=endsAt_le p s
 rw [outs_ends]
 clear R0 XX h
 generalize endsAt p s=q at EN hle
 obtain ⟨x,n⟩:=q
 simp only at hle
 simp only
 by_cases h0:f<0
 ·have D2:decide (f<0)=true:=dec_t h0
  rw [if_pos (.inl h0)]
  clear h0
  go_enter Tryz.func120,Tryz.ntmps120
  go_wp2_with fail
  refine EN.out.mono ?_;rintro e w1 ⟨rfl,hb1⟩
  have B1:=Lib.hid ((X0.out.trans (hb1.mono X0.out.size)).alloc (X0.out.trans (hb1.mono X0.out.size)).size (wkEO x))
  clear p0 p1 p2 p3 p4 p5 hb1 EN
  go_wp2_with fail
  go_ret
  exact ⟨none,0,rfl,.inl rfl,B1.out⟩
 have D2:decide (f<0)=false:=dec_f h0
 by_cases h2:(n:Int)≤f
 ·have D3:decide ((n:Int)≤f)=true:=dec_t h2
  rw [if_pos (.inr h2)]
  clear h0 h2
  go_enter Tryz.func120,Tryz.ntmps120
  go_wp2_with fail
  refine EN.out.mono ?_;rintro e w1 ⟨rfl,hb1⟩
  have B1:=Lib.hid ((X0.out.trans (hb1.mono X0.out.size)).alloc (X0.out.trans (hb1.mono X0.out.size)).size (wkEO x))
  clear p0 p1 p2 p3 p4 p5 hb1 EN
  go_wp2_with fail
  go_ret
  exact ⟨none,0,rfl,.inl rfl,B1.out⟩
 have D3:decide ((n:Int)≤f)=false:=dec_f h2
 rw [if_neg (by omega)]
 by_cases h1:0<f
 ·have D4:decide (0<f)=true:=dec_t h1
  rw [if_pos h1]
  clear h0 h2 h1
  go_enter Tryz.func120,Tryz.ntmps120
  go_wp2_with fail
  refine EN.out.mono ?_;rintro e w1 ⟨rfl,hb1⟩
  have B1:=Lib.hid ((X0.out.trans (hb1.mono X0.out.size)).alloc (X0.out.trans (hb1.mono X0.out.size)).size (wkEO x))
  clear p0 p1 p2 p3 p4 p5 hb1 EN
  go_wp2_with fail
  go_ret
  exact ⟨_,_,rfl,row_one (w1.alloc (wkEO x)) ⟨s,f,0⟩ (by simp),B1.out.alloc B1.out.size _⟩
 ·have D4:decide (0<f)=false:=dec_f h1
  rw [if_neg h1]
  obtain rfl:f=0:=by omega
  have hn1:1≤n:=by omega
  clear h0 h2 h1
  go_enter Tryz.func120,Tryz.ntmps120
  go_wp2_with fail
  refine EN.out.mono ?_;rintro e w1 ⟨rfl,hb1⟩
  have B1:=Lib.hid ((X0.out.trans (hb1.mono X0.out.size)).alloc (X0.out.trans (hb1.mono X0.out.size)).size (wkEO x))
  clear p0 p1 p2 p3 p4 p5 hb1 EN
  go_wp2_with fail
  go_loopw [9,10] (fun v i wr=>∃ k:Nat,k+1≤n∧i=.int .i64 ((k+1:Nat):Int)∧LegSt w wr v (legsTo s k)) (fun _ i _=>n - (intOf i).toNat)
  case atStart=>exact ⟨0,hn1,rfl,B1.out,World.ownsRow_nil _ _ _ _⟩
  case round =>
   clear B1
   obtain ⟨k,hk,rfl,hS⟩:=hrel
   have HS:=Lib.hid hS
   have hS1:=hS.1.size
   have hlen:=legsTo_len s k
   clear hS
   by_cases hlt:k+1<n
   ·have d1:decide (((k+1:Nat):Int)<(n:Int))=true:=dec_t (by omega)
    have HN:=Lib.hid (legsTo_succ s k)
    have HX:=Lib.hid ((Below.refl wr.heap.size wr).alloc (Nat.le_refl _) (stpO ⟨s,0,((k+1:Nat):Int)⟩))
    have NW:=Lib.hid (row_one wr ⟨s,0,((k+1:Nat):Int)⟩ rfl)
    have OW:=Lib.hid (ownsRow_below HS.out.2 HX.out)
    go_wp2_with (at_builtin;refine wpList_append_row LStp _ rfl (.tmp 35) (.tmp 39) 62 rfl w.heap.size 123 i0 _ 24 Tryz.underlying62 hi hz0 hz1 hz2 rfl _ _ _ rfl OW.out (some ⟨wr.heap.size,0,none⟩) 1 1 [⟨s,0,((k+1:Nat):Int)⟩] rfl (by decide) rfl NW.out (by omega) (by omega) (by simp;omega) ?_;intro g1 cap1 w3 hown1 hg1 hb1)
    have H3:=Lib.hid (show LegSt w w3 (.slice (some ⟨g1,0,none⟩) (k+1) cap1) (legsTo s (k+1)) from by
     refine ⟨(HS.out.1.trans (HX.out.mono HS.out.1.size)).grown hg1 (Nat.le_trans HS.out.1.size HX.out.size) (fun b hb=>(OW.out.lt b hb).1),?_⟩
     rw [hlen] at hown1
     rw [HN.out,LStp.all_append,List.length_append,hlen]
     exact hown1)
    clear hown1 hg1 hb1
    go_wp2_with fail
    go_roundw
    case rel=>exact ⟨k+1,by omega,by go_num,H3.out⟩
    case measure=>simp [intOf];omega
   ·have d1:decide (((k+1:Nat):Int)<(n:Int))=false:=dec_f (by omega)
    obtain rfl:n=k+1:=by omega
    obtain ⟨-,B,cp,rfl,-,hR⟩:=Lies.Row.of_own HS.out.2
    have HR:=Lib.hid hR
    clear hR
    go_wp2_with fail
    go_ret
    exact ⟨B,cp,rfl,HR.out,HS.out.1⟩
 --]
end Go.Proofs.YtncphjodaklleaaGreat
namespace Go.Proofs.YtncphjodaklleaaGreat.Cr
open Go Pl Wk
section
variable {p : Plan} {i e : Nat} {nm : Nm} {s0 : Sec} (hs : p.secs[i]? = some s0) (he : e < 3)
include hs
include he
end
theorem chain_fresh {p:Plan} {b:Int}:∀ {t:List Stp} {s f:Int} {st:List Stp} {e:Int},Chain p b s f st t e→∀ y∈t,within st y.s=false∧y.s≠b
 | [],_,_,_,_,h,_,_=>by unfold Chain at h;exact h.elim
 | x :: t,s,f,st,e,h,y,hy=>by
   unfold Chain at h
   obtain ⟨⟨h1,h2,h3⟩,h4⟩:=h
   rcases List.mem_cons.1 hy with rfl | hy
   ·rw[outs_sec h3];exact ⟨h2,h1⟩
   ·rcases h4 with ⟨-,rfl,-⟩ | ⟨-,h4⟩
    ·cases hy
    ·obtain ⟨g1,g2⟩:=chain_fresh h4 y hy
     unfold within at g1 ⊢
     rw [List.any_append,Bool.or_eq_false_iff] at g1
     exact ⟨g1.1,g2⟩
theorem chain_head {p:Plan} {b:Int} {x:Stp} {t:List Stp} {s f:Int} {st:List Stp} {e:Int} (h:Chain p b s f st (x :: t) e):∀ y∈t,y.s≠x.s:=fun y hy he=>by
 unfold Chain at h
 obtain ⟨-,h4⟩:=h
 rcases h4 with ⟨-,rfl,-⟩ | ⟨-,h4⟩
 ·cases hy
 ·have:=(chain_fresh h4 y hy).1
  unfold within at this
  rw [List.any_append,Bool.or_eq_false_iff] at this
  have h2:=this.2
  rw [List.any_cons,Bool.or_eq_false_iff] at h2
  exact absurd he.symm (of_decide_eq_false h2.1)
section
variable {p : Plan} {i e : Nat} {nm : Nm} {s0 : Sec} (hs : p.secs[i]? = some s0) (he : e < 3)
include hs he
omit hs he in
end
end Go.Proofs.YtncphjodaklleaaGreat.Cr
