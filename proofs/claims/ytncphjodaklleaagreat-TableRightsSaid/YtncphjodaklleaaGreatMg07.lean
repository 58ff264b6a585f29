/-
 Texts of this claim, merged: PlRefC, PlRefD, PlRefE, PlRefF, PlRefG, PlRefH.
-/
import Derived.Test.YtncphjodaklleaaGreatMg06
import Derived.Deep.RegionLaw
set_option maxHeartbeats 8000000
set_option maxRecDepth 100000
namespace Go.Proofs.YtncphjodaklleaaGreat
open Go.RowKit
def toldB (M:List It.Itm) (k:Int):Bool:=M.any fun y=>decide (y.k=k)
def workCells (M:List It.Itm) (vS vG:Value):Array Value :=
 #[.int .i64 (Pl.num M 1),.int .i64 (Pl.num M 2),.int .i64 (Pl.num M 3),.int .i64 (Pl.num M 4),vS,vG,.bool false,.bool (toldB M 1),.bool (toldB M 2),.bool (toldB M 3),.bool (toldB M 4)]
def WorkL (tw tS tG:TypeId) (w:World) (g:Nat) (M:List It.Itm) (LS:List Pl.Sec) (LG:List Pl.Sig):Prop :=
 ∃ vS vG,w.heap[g]? = some (.cells (workCells M vS vG) tw (0,0))∧w.ownsRow (g+1) tS LSec.m vS LS.length (LSec.all LS)∧w.ownsRow (g+1) tG LSig.m vG LG.length (LSig.all LG)∧∀ k,vS.ownBlock=some k→vG.ownBlock≠some k
def WorkAt (tw tS tG:TypeId) (w:World) (g:Nat) (M:List It.Itm):Prop:=WorkL tw tS tG w g M (Pl.wS M) (Pl.wG M)
theorem WorkL.below {tw tS tG:TypeId} {w w':World} {g:Nat} {M:List It.Itm} {LS:List Pl.Sec} {LG:List Pl.Sig} (h:WorkL tw tS tG w g M LS LG) (hb:Below w.heap.size w w'):WorkL tw tS tG w' g M LS LG:=by
 obtain ⟨vS,vG,h1,h2,h3,h4⟩:=h
 exact ⟨vS,vG,(hb.block _ (Array.getElem?_eq_some_iff.1 h1).1).trans h1,ownsRow_below h2 hb,ownsRow_below h3 hb,h4⟩
theorem work_row {w:World} {g:Nat} {t:TypeId} {M:List It.Itm} {vS vG:Value} (h:w.heap[g]? = some (.cells (workCells M vS vG) t (0,0))) :
 (w.cell? ⟨g,0,none⟩ = some (.int .i64 (Pl.num M 1))∧w.cell? ⟨g,1,none⟩ = some (.int .i64 (Pl.num M 2))∧w.cell? ⟨g,2,none⟩ = some (.int .i64 (Pl.num M 3))∧w.cell? ⟨g,3,none⟩ = some (.int .i64 (Pl.num M 4))∧w.cell? ⟨g,4,none⟩ = some vS∧w.cell? ⟨g,5,none⟩ = some vG) ∧
 (w.cell? ⟨g,6,none⟩ = some (.bool false)∧w.cell? ⟨g,7,none⟩ = some (.bool (toldB M 1))∧w.cell? ⟨g,8,none⟩ = some (.bool (toldB M 2))∧w.cell? ⟨g,9,none⟩ = some (.bool (toldB M 3))∧w.cell? ⟨g,10,none⟩ = some (.bool (toldB M 4)))∧(∀ j,w.frozen? ⟨g,j,none⟩ = false)∧g<w.heap.size :=
 ⟨⟨cell_of_row w g 0 _ t _ h,cell_of_row w g 1 _ t _ h,cell_of_row w g 2 _ t _ h,cell_of_row w g 3 _ t _ h,cell_of_row w g 4 _ t _ h,cell_of_row w g 5 _ t _ h⟩,
   ⟨cell_of_row w g 6 _ t _ h,cell_of_row w g 7 _ t _ h,cell_of_row w g 8 _ t _ h,cell_of_row w g 9 _ t _ h,cell_of_row w g 10 _ t _ h⟩,fun j=>frozen_of_row w g j _ t h,(Array.getElem?_eq_some_iff.1 h).1⟩
theorem on_to {w:World} {b o:Nat} {s:Pl.Sec} (h:LSec.On w b o s) {e:Nat} (he:e<3):w.cell? ⟨b,o+3+e * 3,none⟩ = some (.int .i64 (s.get e).goes):=by
 have:e=0∨e=1∨e=2:=by omega
 rcases this with rfl | rfl | rfl
 ·exact h 3 _ rfl
 ·exact h 6 _ rfl
 ·exact h 9 _ rfl
theorem on_at {w:World} {b o:Nat} {s:Pl.Sec} (h:LSec.On w b o s) {e:Nat} (he:e<3):w.cell? ⟨b,o+3+e * 3+1,none⟩ = some (.int .i64 (s.get e).at_):=by
 have:e=0∨e=1∨e=2:=by omega
 rcases this with rfl | rfl | rfl
 ·exact h 4 _ rfl
 ·exact h 7 _ rfl
 ·exact h 10 _ rfl
theorem on_sig {w:World} {b o:Nat} {s:Pl.Sec} (h:LSec.On w b o s) {e:Nat} (he:e<3):w.cell? ⟨b,o+3+e * 3+2,none⟩ = some (.int .i64 (s.get e).sig):=by
 have:e=0∨e=1∨e=2:=by omega
 rcases this with rfl | rfl | rfl
 ·exact h 5 _ rfl
 ·exact h 8 _ rfl
 ·exact h 11 _ rfl
inductive FreeIs (L:List Pl.Sec) (t:It.Tp):Int × Int × Int→Prop
 | none (h:Pl.find L t.n = -1):FreeIs L t (0,0,4)
 | noEnd (i:Nat) (s:Pl.Sec) (h:Pl.find L t.n=i) (hs:L[i]? = some s) (he:Pl.endAt s.pt t.c=Option.none):FreeIs L t (0,0,5)
 | used (i e:Nat) (s:Pl.Sec) (h:Pl.find L t.n=i) (hs:L[i]? = some s) (he:Pl.endAt s.pt t.c=some e) (ht:(s.get e).goes ≠ -2):FreeIs L t (0,0,6)
 | free (i e:Nat) (s:Pl.Sec) (h:Pl.find L t.n=i) (hs:L[i]? = some s) (he:Pl.endAt s.pt t.c=some e) (ht:(s.get e).goes = -2):FreeIs L t (i,e,0)
def FreeGives (L:List Pl.Sec) (t:It.Tp) (w:World) (x:Ending) (w':World):Prop:=∃ a b c,x=.returned (.tuple #[.int .i64 a,.int .i64 b,.int .i64 c])∧FreeIs L t (a,b,c)∧Below w.heap.size w w'
theorem FreeGives.mk {L:List Pl.Sec} {t:It.Tp} {w w':World} {x:Ending} (a b c:Int) (h:FreeIs L t (a,b,c)) (he:x=.returned (.tuple #[.int .i64 a,.int .i64 b,.int .i64 c])) (hb:Below w.heap.size w w'):FreeGives L t w x w':=⟨a,b,c,he,h,hb⟩
theorem endAt_lt {pt:Bool} {c:UInt8} {e:Nat} (h:Pl.endAt pt c=some e):e<3:=by
 have:=(Pl.letter_endAt h).2
 unfold Pl.nEnds at this
 split at this <;> omega
theorem rpFree_any (g:Nat) (M:List It.Itm) (L:List Pl.Sec) (LG:List Pl.Sig) (t:It.Tp) (w:World) (h:WorkL 99 59 61 w g M L LG) (hl:L.length≤1000000) (hc:t.c≠0) :
 Calls Tryz.prog 116 #[.pointer (some ⟨g,0,none⟩),.agg #[.string (txt t.n),.int .u8 t.c.toNat]] w (FreeGives L t w):=by
 obtain ⟨vS,vG,hrow,hS,hG,hap⟩:=h
 obtain ⟨-,A,cp,rfl,hcap,hR⟩:=Lies.Row.of_own hS
 obtain ⟨⟨-,-,-,-,s4,-⟩,-,hfz,hg⟩:=work_row hrow
 clear hS hG hap hcap
 have X0:=Lib.hid ((Below.refl w.heap.size w).alloc (Nat.le_refl _) (.cells #[.string (txt t.n),.int .u8 t.c.toNat] 90))
 have EN:=Lib.hid (fun W (h:Below w.heap.size w W)=>Made.of h (rpEnd_any A cp L t W (hR.below rfl h) hl hc))
 obtain ⟨⟨k0,k1⟩,g2⟩:=row2c (show (w.alloc (.cells #[.string (txt t.n),.int .u8 t.c.toNat] 90)).heap[w.heap.size]? = some (.cells #[.string (txt t.n),.int .u8 t.c.toNat] 90 (0,0)) from heap_alloc_new _ _)
 have K4:(w.alloc (.cells #[.string (txt t.n),.int .u8 t.c.toNat] 90)).cell? ⟨g,4,none⟩ = some (.slice A L.length cp):=by
  rw [X0.out.cell (show (⟨g,4,none⟩:Addr).block<w.heap.size from hg)];exact s4
 have g1:g<(w.alloc (.cells #[.string (txt t.n),.int .u8 t.c.toNat] 90)).heap.size:=Nat.lt_trans hg g2
 rcases Pl.find_cases L t.n with ⟨hf,_⟩ | ⟨i,s,hf,hs,_⟩
 ·have P:=Lib.hid (FreeIs.none hf)
  rw [endI_no (show Pl.find L t.n<0 by rw[hf];decide)] at EN
  clear hf hR hl hc
  go_enter Tryz.func116,Tryz.ntmps116
  go_wp2_with fail
  go_region_held3 (fun w'=>w'.cell? ⟨g,4,none⟩ = some (.slice A L.length cp)∧w'.cell? ⟨w.heap.size,0,none⟩ = some (.string (txt t.n))∧w'.cell? ⟨w.heap.size,1,none⟩ = some (.int .u8 t.c.toNat))
   (first | exact ⟨K4,k0,k1⟩ | exact ⟨(hcell _ _ g1).trans K4,(hcell _ _ g2).trans k0,(hcell _ _ g2).trans k1⟩)
   (first
    | (go_at_call 80;(with_reducible refine (EN.out _ X0.out.drew).mono ?_);rintro e w' ⟨rfl,hbl,hacc,hz⟩;have hcell:=(bcell hbl).1))
  all_goals go_wp2_with fail
  all_goals refine bodyPost_ret ?_ rfl (FreeGives.mk _ _ _ P.out rfl hacc)
  all_goals simp [results,Tryz.results116,go_sem]
 ·rw [endI_at hf hs] at EN
  cases he:Pl.endAt s.pt t.c with
  | none =>
    have P:=Lib.hid (FreeIs.noEnd i s hf hs he)
    rw [he] at EN
    clear hf hs he hR hl hc
    go_enter Tryz.func116,Tryz.ntmps116
    go_wp2_with fail
    go_region_held3 (fun w'=>w'.cell? ⟨g,4,none⟩ = some (.slice A L.length cp)∧w'.cell? ⟨w.heap.size,0,none⟩ = some (.string (txt t.n))∧w'.cell? ⟨w.heap.size,1,none⟩ = some (.int .u8 t.c.toNat))
     (first | exact ⟨K4,k0,k1⟩ | exact ⟨(hcell _ _ g1).trans K4,(hcell _ _ g2).trans k0,(hcell _ _ g2).trans k1⟩)
     (first
      | (go_at_call 80;(with_reducible refine (EN.out _ X0.out.drew).mono ?_);rintro e w' ⟨rfl,hbl,hacc,hz⟩;have hcell:=(bcell hbl).1))
    all_goals go_wp2_with fail
    all_goals refine bodyPost_ret ?_ rfl (FreeGives.mk _ _ _ P.out rfl hacc)
    all_goals simp [results,Tryz.results116,go_sem]
  | some e =>
    have h3:=endAt_lt he
    rw [he] at EN
    obtain ⟨hi,hsi⟩:=List.getElem?_eq_some_iff.1 hs
    obtain ⟨b,o,hA,hb,on⟩:=hR.at hi
    rw [hsi] at on
    have t0:=on_to on h3
    rw [show i * LSec.m=i * 12 from rfl] at t0
    subst hA
    clear on hsi
    by_cases ht:(s.get e).goes = -2
    ·have P:=Lib.hid (FreeIs.free i e s hf hs he ht)
     rw [ht] at t0
     clear hf hs he hR hl hc ht
     go_enter Tryz.func116,Tryz.ntmps116
     go_wp2_with fail
     go_region_held3 (fun w'=>w'.cell? ⟨g,4,none⟩ = some (.slice (some ⟨b,o,none⟩) L.length cp)∧w'.cell? ⟨w.heap.size,0,none⟩ = some (.string (txt t.n))∧w'.cell? ⟨w.heap.size,1,none⟩ = some (.int .u8 t.c.toNat))
      (first | exact ⟨K4,k0,k1⟩ | exact ⟨(hcell _ _ g1).trans K4,(hcell _ _ g2).trans k0,(hcell _ _ g2).trans k1⟩)
      (first
       | (go_at_call 80;(with_reducible refine (EN.out _ X0.out.drew).mono ?_);rintro e w' ⟨rfl,hbl,hacc,hz⟩;have hcell:=(bcell hbl).1))
     all_goals have T0:=(hacc.cell (show (⟨b,o+i * 12+3+e * 3,none⟩:Addr).block<w.heap.size from hb)).trans t0
     all_goals have S4:=(hacc.cell (show (⟨g,4,none⟩:Addr).block<w.heap.size from hg)).trans s4
     all_goals go_wp2_with fail
     all_goals refine bodyPost_ret ?_ rfl (FreeGives.mk _ _ _ P.out rfl hacc)
     all_goals simp [results,Tryz.results116,go_sem]
    ·have P:=Lib.hid (FreeIs.used i e s hf hs he ht)
     have h2:((s.get e).goes != -2)=true:=by rw[bne_iff_ne];exact ht
     clear hf hs he hR hl hc ht
     go_enter Tryz.func116,Tryz.ntmps116
     go_wp2_with fail
     go_region_held3 (fun w'=>w'.cell? ⟨g,4,none⟩ = some (.slice (some ⟨b,o,none⟩) L.length cp)∧w'.cell? ⟨w.heap.size,0,none⟩ = some (.string (txt t.n))∧w'.cell? ⟨w.heap.size,1,none⟩ = some (.int .u8 t.c.toNat))
      (first | exact ⟨K4,k0,k1⟩ | exact ⟨(hcell _ _ g1).trans K4,(hcell _ _ g2).trans k0,(hcell _ _ g2).trans k1⟩)
      (first
       | (go_at_call 80;(with_reducible refine (EN.out _ X0.out.drew).mono ?_);rintro e w' ⟨rfl,hbl,hacc,hz⟩;have hcell:=(bcell hbl).1))
     all_goals have T0:=(hacc.cell (show (⟨b,o+i * 12+3+e * 3,none⟩:Addr).block<w.heap.size from hb)).trans t0
     all_goals have S4:=(hacc.cell (show (⟨g,4,none⟩:Addr).block<w.heap.size from hg)).trans s4
     all_goals go_wp2_with fail
     all_goals refine bodyPost_ret ?_ rfl (FreeGives.mk _ _ _ P.out rfl hacc)
     all_goals simp [results,Tryz.results116,go_sem]
theorem toldB_snoc (M:List It.Itm) (x:It.Itm) (k:Int):toldB (M++[x]) k=(toldB M k || decide (x.k=k)):=by simp [toldB,List.any_append]
theorem toldB_ne {M:List It.Itm} {k:Int} (h:toldB M k=false):∀ y∈M,y.k≠k:=fun y hy e=>by
 have:toldB M k=true:=by
  unfold toldB
  rw [List.any_eq_true]
  exact ⟨y,hy,by simpa using e⟩
 rw [h] at this;cases this
def LineGives (tw tS tG:TypeId) (g:Nat) (M:List It.Itm) (x:It.Itm) (er:Int) (w:World) (e:Ending) (w':World):Prop :=
 e=.returned (.int .i64 er)∧(er=0→WorkAt tw tS tG w' g (M++[x]))∧Below g w w'
theorem WorkAt.row {tw tS tG:TypeId} {w w':World} {g:Nat} {M K:List It.Itm} {vS vG:Value} (hS:w.ownsRow (g+1) tS LSec.m vS (Pl.wS M).length (LSec.all (Pl.wS M))) (hG:w.ownsRow (g+1) tG LSig.m vG (Pl.wG M).length (LSig.all (Pl.wG M))) (hap:∀ k,vS.ownBlock=some k→vG.ownBlock≠some k)
 (hrow:w'.heap[g]? = some (.cells (workCells K vS vG) tw (0,0))) (hk:∀ b,b≠g→b<w.heap.size→w'.heap[b]? = w.heap[b]?) (e1:Pl.wS K=Pl.wS M) (e2:Pl.wG K=Pl.wG M):WorkAt tw tS tG w' g K:=by
 refine ⟨vS,vG,hrow,?_,?_,hap⟩
 ·rw [e1]
  refine ⟨hS.1,?_⟩
  rcases hS.2 with hn | ⟨b,cap,cur,rfl,hbb,hgg,rest⟩
  ·exact .inl hn
  ·exact .inr ⟨b,cap,cur,rfl,hbb,by rw[hk b (by omega) (Array.getElem?_eq_some_iff.1 hgg).1];exact hgg,rest⟩
 ·rw [e2]
  refine ⟨hG.1,?_⟩
  rcases hG.2 with hn | ⟨b,cap,cur,rfl,hbb,hgg,rest⟩
  ·exact .inl hn
  ·exact .inr ⟨b,cap,cur,rfl,hbb,by rw[hk b (by omega) (Array.getElem?_eq_some_iff.1 hgg).1];exact hgg,rest⟩
theorem number_world {w:World} {g:Nat} {cs:Array Value} {tw:TypeId} (hrow:w.heap[g]? = some (.cells cs tw (0,0))) (a b:Nat) (u v:Value) (o:Obj) :
 ((((w.setCell ⟨g,a,none⟩ u).setCell ⟨g,b,none⟩ v).alloc o).drew.drew).heap[g]? = some (.cells ((cs.setIfInBounds a u).setIfInBounds b v) tw (0,0)) ∧
 (∀ c,c≠g→c<w.heap.size→((((w.setCell ⟨g,a,none⟩ u).setCell ⟨g,b,none⟩ v).alloc o).drew.drew).heap[c]? = w.heap[c]?)∧Below g w ((((w.setCell ⟨g,a,none⟩ u).setCell ⟨g,b,none⟩ v).alloc o).drew.drew):=by
 have hg:=(Array.getElem?_eq_some_iff.1 hrow).1
 refine ⟨?_,fun c hc hlt=>?_,?_⟩
 ·show (((w.setCell ⟨g,a,none⟩ u).setCell ⟨g,b,none⟩ v).alloc o).heap[g]? = _
  rw [heap_alloc_old _ _ (by simpa using hg)]
  exact heap_setCell_same _ _ _ _ _ _ (heap_setCell_same _ _ _ _ _ _ hrow)
 ·show (((w.setCell ⟨g,a,none⟩ u).setCell ⟨g,b,none⟩ v).alloc o).heap[c]? = _
  rw [heap_alloc_old _ _ (by simpa using hlt),heap_setCell_other _ ⟨g,b,none⟩ c v (by simpa using fun e=>hc e),heap_setCell_other _ ⟨g,a,none⟩ c u (by simpa using fun e=>hc e)]
 ·refine Below.drew (Below.drew (Below.alloc ?_ (by simp;omega) _))
  exact ((Below.refl g w).setCell (Nat.le_refl _) _).setCell (Nat.le_refl _) _
theorem cells_num1 {M:List It.Itm} {x:It.Itm} (h:toldB M 1=false) (hk:x.k=1) (vS vG:Value):((workCells M vS vG).setIfInBounds 7 (.bool true)).setIfInBounds 0 (.int .i64 x.n)=workCells (M++[x]) vS vG:=by
 have h0:=toldB_ne h
 simp [workCells,toldB_snoc,hk,Pl.num_snoc (M:=M) (x:=x) _ (by rw[hk];exact h0)]
theorem cells_num2 {M:List It.Itm} {x:It.Itm} (h:toldB M 2=false) (hk:x.k=2) (vS vG:Value):((workCells M vS vG).setIfInBounds 8 (.bool true)).setIfInBounds 1 (.int .i64 x.n)=workCells (M++[x]) vS vG:=by
 have h0:=toldB_ne h
 simp [workCells,toldB_snoc,hk,Pl.num_snoc (M:=M) (x:=x) _ (by rw[hk];exact h0)]
theorem cells_num3 {M:List It.Itm} {x:It.Itm} (h:toldB M 3=false) (hk:x.k=3) (vS vG:Value):((workCells M vS vG).setIfInBounds 9 (.bool true)).setIfInBounds 2 (.int .i64 x.n)=workCells (M++[x]) vS vG:=by
 have h0:=toldB_ne h
 simp [workCells,toldB_snoc,hk,Pl.num_snoc (M:=M) (x:=x) _ (by rw[hk];exact h0)]
theorem cells_num4 {M:List It.Itm} {x:It.Itm} (h:toldB M 4=false) (hk:x.k=4) (vS vG:Value):((workCells M vS vG).setIfInBounds 10 (.bool true)).setIfInBounds 3 (.int .i64 x.n)=workCells (M++[x]) vS vG:=by
 have h0:=toldB_ne h
 simp [workCells,toldB_snoc,hk,Pl.num_snoc (M:=M) (x:=x) _ (by rw[hk];exact h0)]
theorem rpNumber_any (g:Nat) (M:List It.Itm) (x:It.Itm) (w:World) (h:WorkAt 99 59 61 w g M) (hk:It.isNum x.k=true) :
 Calls Tryz.prog 78 #[.pointer (some ⟨g,0,none⟩),itemV x] w (LineGives 99 59 61 g M x (if toldB M x.k then 3 else 0) w):=by
 obtain ⟨e1,e2⟩:=Pl.w_num (M:=M) hk
 obtain ⟨vS,vG,hrow,hS,hG,hap⟩:=h
 obtain ⟨⟨s0,s1,s2,s3,s4,s5⟩,⟨s6,s7,s8,s9,s10⟩,hfz,hg⟩:=work_row hrow
 have hx:x.k=1∨x.k=2∨x.k=3∨x.k=4:=by
  unfold It.isNum at hk
  have:=of_decide_eq_true hk
  omega
 have N0:=World.new_ne _ _ s0
 have N7:=World.new_ne _ _ s7
 clear s4 s5 s6
 have HB:=Lib.hid ((Below.refl g w).alloc (Nat.le_of_lt hg) (.cells (cells7 x).toArray 93))
 have CN1:=Lib.hid (fun h hk=>cells_num1 (M:=M) (x:=x) h hk vS vG)
 have CN2:=Lib.hid (fun h hk=>cells_num2 (M:=M) (x:=x) h hk vS vG)
 have CN3:=Lib.hid (fun h hk=>cells_num3 (M:=M) (x:=x) h hk vS vG)
 have CN4:=Lib.hid (fun h hk=>cells_num4 (M:=M) (x:=x) h hk vS vG)
 have E1:=Lib.hid e1
 have E2:=Lib.hid e2
 have HR:=Lib.hid hrow
 have HS:=Lib.hid hS
 have HG:=Lib.hid hG
 have HA:=Lib.hid hap
 clear e1 e2 hrow hS hG hap hk
 obtain ⟨k,nm,n,t0,t1⟩:=x
 have hxk:k=1∨k=2∨k=3∨k=4:=hx
 clear hx
 rcases hxk with rfl | rfl | rfl | rfl
 ·have fa:=hfz 7
  have fb:=hfz 0
  clear hfz
  cases ht:toldB M 1
  ·rw [ht] at s7
   have HT:=Lib.hid ht
   clear ht
   go_enter Tryz.func78,Tryz.ntmps78
   go_wp2_with fail
   go_region
   go_wp2_with fail
   go_region
   go_wp2_with fail
   go_ret
   obtain ⟨r1,r2,r3⟩:=number_world HR.out 7 0 (.bool true) (.int .i64 n) (.cells (cells7 ⟨1,nm,n,t0,t1⟩).toArray 93)
   rw [CN1.out HT.out (by first | rfl | trivial)] at r1
   exact ⟨rfl,fun _=>WorkAt.row HS.out HG.out HA.out r1 r2 E1.out E2.out,r3⟩
  ·rw [ht] at s7
   have HT:=Lib.hid ht
   clear ht
   go_enter Tryz.func78,Tryz.ntmps78
   go_wp2_with fail
   go_region
   go_wp2_with fail
   go_ret
   exact ⟨rfl,fun h=>by simp at h,HB.out.drew⟩
 ·have fa:=hfz 8
  have fb:=hfz 1
  clear hfz
  cases ht:toldB M 2
  ·rw [ht] at s8
   have HT:=Lib.hid ht
   clear ht
   go_enter Tryz.func78,Tryz.ntmps78
   go_wp2_with fail
   go_region
   go_wp2_with fail
   go_region
   go_wp2_with fail
   go_ret
   obtain ⟨r1,r2,r3⟩:=number_world HR.out 8 1 (.bool true) (.int .i64 n) (.cells (cells7 ⟨2,nm,n,t0,t1⟩).toArray 93)
   rw [CN2.out HT.out (by first | rfl | trivial)] at r1
   exact ⟨rfl,fun _=>WorkAt.row HS.out HG.out HA.out r1 r2 E1.out E2.out,r3⟩
  ·rw [ht] at s8
   have HT:=Lib.hid ht
   clear ht
   go_enter Tryz.func78,Tryz.ntmps78
   go_wp2_with fail
   go_region
   go_wp2_with fail
   go_ret
   exact ⟨rfl,fun h=>by simp at h,HB.out.drew⟩
 ·have fa:=hfz 9
  have fb:=hfz 2
  clear hfz
  cases ht:toldB M 3
  ·rw [ht] at s9
   have HT:=Lib.hid ht
   clear ht
   go_enter Tryz.func78,Tryz.ntmps78
   go_wp2_with fail
   go_region
   go_wp2_with fail
   go_region
   go_wp2_with fail
   go_ret
   obtain ⟨r1,r2,r3⟩:=number_world HR.out 9 2 (.bool true) (.int .i64 n) (.cells (cells7 ⟨3,nm,n,t0,t1⟩).toArray 93)
   rw [CN3.out HT.out (by first | rfl | trivial)] at r1
   exact ⟨rfl,fun _=>WorkAt.row HS.out HG.out HA.out r1 r2 E1.out E2.out,r3⟩
  ·rw [ht] at s9
   have HT:=Lib.hid ht
   clear ht
   go_enter Tryz.func78,Tryz.ntmps78
   go_wp2_with fail
   go_region
   go_wp2_with fail
   go_ret
   exact ⟨rfl,fun h=>by simp at h,HB.out.drew⟩
 ·have fa:=hfz 10
  have fb:=hfz 3
  clear hfz
  cases ht:toldB M 4
  ·rw [ht] at s10
   have HT:=Lib.hid ht
   clear ht
   go_enter Tryz.func78,Tryz.ntmps78
   go_wp2_with fail
   go_region
   go_wp2_with fail
   go_region
   go_wp2_with fail
   go_ret
   obtain ⟨r1,r2,r3⟩:=number_world HR.out 10 3 (.bool true) (.int .i64 n) (.cells (cells7 ⟨4,nm,n,t0,t1⟩).toArray 93)
   rw [CN4.out HT.out (by first | rfl | trivial)] at r1
   exact ⟨rfl,fun _=>WorkAt.row HS.out HG.out HA.out r1 r2 E1.out E2.out,r3⟩
  ·rw [ht] at s10
   have HT:=Lib.hid ht
   clear ht
   go_enter Tryz.func78,Tryz.ntmps78
   go_wp2_with fail
   go_region
   go_wp2_with fail
   go_ret
   exact ⟨rfl,fun h=>by simp at h,HB.out.drew⟩
theorem infoSec:(Tryz.prog.info? 59).map (fun i=>(i.zero,i.size,i.bytes))=some (some (.agg #[.string ⟨#[]⟩,.bool false,.int .i64 0,.int .i64 0,.int .i64 0,.int .i64 0,.int .i64 0,.int .i64 0,.int .i64 0,.int .i64 0,.int .i64 0,.int .i64 0]),12,104):=by kernel_rfl
abbrev item7 (y:It.Itm):Array Value:=#[.int .i64 y.k,.string (txt y.name),.int .i64 y.n,.string (txt y.e0.n),.int .u8 y.e0.c.toNat,.string (txt y.e1.n),.int .u8 y.e1.c.toNat]
def zeroE:Pl.En:=⟨0,0,0⟩
def secPart (x:It.Itm) (k:Nat):Pl.Sec:=⟨x.name,Pl.isPt x,x.n,if 0<k then Pl.openE else zeroE,if 1<k then Pl.openE else zeroE,if 2<k then Pl.openE else zeroE⟩
theorem row12 {w:World} {g:Nat} {cs:Array Value} {t:TypeId} (h:w.heap[g]? = some (.cells cs t (0,0))):(∀ j,w.cell? ⟨g,j,none⟩ = cs[j]?)∧(∀ j,w.frozen? ⟨g,j,none⟩ = false)∧g<w.heap.size :=
 ⟨fun j=>cell_of_row w g j cs t _ h,fun j=>frozen_of_row w g j cs t h,(Array.getElem?_eq_some_iff.1 h).1⟩
theorem set3 {w:World} {g:Nat} {cs:Array Value} {t:TypeId} (h:w.heap[g]? = some (.cells cs t (0,0))) (a b c:Nat) (u v z:Value) :
 (((w.setCell ⟨g,a,none⟩ u).setCell ⟨g,b,none⟩ v).setCell ⟨g,c,none⟩ z).heap[g]? = some (.cells (((cs.setIfInBounds a u).setIfInBounds b v).setIfInBounds c z) t (0,0)) :=
 heap_setCell_same _ _ _ _ _ _ (heap_setCell_same _ _ _ _ _ _ (heap_setCell_same _ _ _ _ _ _ h))
theorem part_step (x:It.Itm) (k:Nat) (hk:k<3):((((secCells (secPart x k)).toArray.setIfInBounds (3+k * 3) (.int .i64 (-2))).setIfInBounds (3+k * 3+1) (.int .i64 0)).setIfInBounds (3+k * 3+2) (.int .i64 (-1)))=(secCells (secPart x (k+1))).toArray:=by
 have:k=0∨k=1∨k=2:=by omega
 rcases this with rfl | rfl | rfl <;> rfl
def litT (x:It.Itm):List Value:=[.string (txt x.name),.bool true,.int .i64 x.n,.int .i64 (-2),.int .i64 0,.int .i64 (-1),.int .i64 (-2),.int .i64 0,.int .i64 (-1),.int .i64 (-2),.int .i64 0,.int .i64 (-1)]
def litF (x:It.Itm):List Value:=[.string (txt x.name),.bool false,.int .i64 x.n,.int .i64 (-2),.int .i64 0,.int .i64 (-1),.int .i64 (-2),.int .i64 0,.int .i64 (-1),.int .i64 (-1),.int .i64 0,.int .i64 (-1)]
theorem litT_one (x:It.Itm):∀ u∈litT x,u.oneCell'=true:=fun u hu=>by
 simp only [litT,List.mem_cons,List.not_mem_nil,or_false] at hu
 rcases hu with rfl | rfl | rfl | rfl | rfl | rfl | rfl | rfl | rfl | rfl | rfl | rfl <;> rfl
theorem litF_one (x:It.Itm):∀ u∈litF x,u.oneCell'=true:=fun u hu=>by
 simp only [litF,List.mem_cons,List.not_mem_nil,or_false] at hu
 rcases hu with rfl | rfl | rfl | rfl | rfl | rfl | rfl | rfl | rfl | rfl | rfl | rfl <;> rfl
def newSec (x:It.Itm):Pl.Sec:=⟨x.name,Pl.isPt x,x.n,Pl.openE,Pl.openE,if Pl.isPt x then Pl.openE else Pl.stop⟩
theorem litT_eq {x:It.Itm} (hp:Pl.isPt x=true):litT x=LSec.enc (newSec x):=by simp [litT,newSec,hp,LSec,secCells,Pl.openE]
theorem litF_eq {x:It.Itm} (hp:Pl.isPt x=false):litF x=LSec.enc (newSec x):=by simp [litF,newSec,hp,LSec,secCells,Pl.openE,Pl.stop]
theorem cells_keep {M:List It.Itm} {x:It.Itm} (h:It.isNum x.k=false) (vS vG:Value):workCells (M++[x]) vS vG=workCells M vS vG:=by
 have hk:∀ k:Int,1≤k→k≤4→x.k≠k:=fun k h1 h2 e=>by
  unfold It.isNum at h
  exact absurd (show 1≤x.k∧x.k≤4 by omega) (of_decide_eq_false h)
 have n1:=hk 1 (by decide) (by decide)
 have n2:=hk 2 (by decide) (by decide)
 have n3:=hk 3 (by decide) (by decide)
 have n4:=hk 4 (by decide) (by decide)
 simp [workCells,toldB_snoc,Pl.num_other n1,Pl.num_other n2,Pl.num_other n3,Pl.num_other n4,n1,n2,n3,n4]
theorem own_kept {w w':World} {base:Nat} {e:TypeId} {size:Nat} {v:Value} {n:Nat} {xs:List Value} (h:w.ownsRow base e size v n xs) (hk:∀ b,v.ownBlock=some b→w'.heap[b]? = w.heap[b]?):w'.ownsRow base e size v n xs:=by
 refine ⟨h.1,?_⟩
 rcases h.2 with hn | ⟨b,cap,cur,rfl,hbb,hgg,rest⟩
 ·exact .inl hn
 ·exact .inr ⟨b,cap,cur,rfl,hbb,by rw[hk b rfl];exact hgg,rest⟩
theorem WorkAt.sections {tw tS tG:TypeId} {w w1 w2:World} {g:Nat} {M:List It.Itm} {x:It.Itm} {vS vG v':Value} {g' cap':Nat} (hrow:w.heap[g]? = some (.cells (workCells M vS vG) tw (0,0)))
 (hS:w.ownsRow (g+1) tS LSec.m vS (Pl.wS M).length (LSec.all (Pl.wS M))) (hG:w.ownsRow (g+1) tG LSig.m vG (Pl.wG M).length (LSig.all (Pl.wG M))) (hap:∀ k,vS.ownBlock=some k→vG.ownBlock≠some k)
 (hb:Below w.heap.size w w1) (hgr:w1.grownBy w2 vS.ownBlock) (hv:v'=.slice (some ⟨g',0,none⟩) ((Pl.wS M).length+1) cap') (hown:w2.ownsRow (g+1) tS LSec.m v' ((Pl.wS M).length+1) (LSec.all (Pl.wS M)++LSec.enc (newSec x))) (hg':vS.ownBlock=some g'∨w.heap.size≤g')
 (hk:It.isNum x.k=false) (e1:Pl.wS (M++[x])=Pl.wS M++[newSec x]) (e2:Pl.wG (M++[x])=Pl.wG M):WorkAt tw tS tG (w2.setCell ⟨g,4,none⟩ v') g (M++[x])∧Below g w (w2.setCell ⟨g,4,none⟩ v'):=by
 have hg:=(Array.getElem?_eq_some_iff.1 hrow).1
 have hbs:=hb.size
 have hne:some g≠vS.ownBlock:=fun e=>by have:=(hS.lt g e.symm).1;omega
 have row2:w2.heap[g]? = some (.cells (workCells M vS vG) tw (0,0)):=by rw[hgr.block g (by omega) hne,hb.block g hg];exact hrow
 refine ⟨⟨v',vG,?_,?_,?_,?_⟩,?_⟩
 ·rw[heap_setCell_same _ _ _ _ _ _ row2,cells_keep hk];rfl
 ·rw [e1,List.length_append,List.length_singleton,LSec.all_append,LSec.all_one]
  exact ownsRow_setCell_below hown (a:=⟨g,4,none⟩) (by show g<g+1;omega) v'
 ·rw [e2]
  refine ownsRow_setCell_below (own_kept hG fun b hb'=>?_) (a:=⟨g,4,none⟩) (by show g<g+1;omega) v'
  have hlt:=(hG.lt b hb').2
  rw [hgr.block b (by omega) (fun e=>hap b e.symm hb'),hb.block b hlt]
 ·subst hv
  intro k hk1 hk2
  have:g'=k:=by simpa [Value.ownBlock] using hk1
  subst this
  rcases hg' with h | h
  ·exact hap g' h hk2
  ·have:=(hG.lt g' hk2).2;omega
 ·have hb':Below g w w1:=hb.mono (Nat.le_of_lt hg)
  exact (hb'.grown hgr (by omega) (fun k hk=>by have:=(hS.lt k hk).1;omega)).setCell (Nat.le_refl _) _
theorem rpSection_any (g:Nat) (M:List It.Itm) (x:It.Itm) (w:World) (h:WorkAt 99 59 61 w g M) (hM:Pl.Ok M) (hx:Pl.isS x=true) :
 Calls Tryz.prog 75 #[.pointer (some ⟨g,0,none⟩),itemV x] w (LineGives 99 59 61 g M x (if x.name∈Pl.nmS M then 3 else if (Pl.secs M).length=24 then 9 else 0) w):=by
 obtain ⟨vS,vG,hrow,hS,hG,hap⟩:=h
 obtain ⟨-,A,cp,rfl,hcap,hR⟩:=Lies.Row.of_own hS
 obtain ⟨⟨-,-,-,-,s4,-⟩,-,hfz,hg⟩:=work_row hrow
 obtain ⟨i0,hi,hz0,hz1,hz2⟩:=info_parts infoSec
 have hl:(Pl.wS M).length≤24:=by rw[Pl.wS_len];exact hM.few
 have X0:=Lib.hid ((Below.refl w.heap.size w).alloc (Nat.le_refl _) (.cells (item7 x) 93))
 have XG:=Lib.hid ((Below.refl g w).alloc (Nat.le_of_lt hg) (.cells (item7 x) 93))
 have FN:=Lib.hid (fun W (h:Below w.heap.size w W)=>rpFind_any A cp (Pl.wS M) x.name W (hR.below rfl h) (by omega))
 obtain ⟨⟨k0,k1,k2,k3,k4,k5,k6⟩,-,g2⟩:=row7 (show (w.alloc (.cells (item7 x) 93)).heap[w.heap.size]? = some (.cells #[.int .i64 x.k,.string (txt x.name),.int .i64 x.n,.string (txt x.e0.n),.int .u8 x.e0.c.toNat,.string (txt x.e1.n),.int .u8 x.e1.c.toNat] 93 (0,0)) from heap_alloc_new _ _)
 have K4:(w.alloc (.cells (item7 x) 93)).cell? ⟨g,4,none⟩ = some (.slice A (Pl.wS M).length cp):=by
  rw [X0.out.cell (show (⟨g,4,none⟩:Addr).block<w.heap.size from hg)];exact s4
 have g1:g<(w.alloc (.cells (item7 x) 93)).heap.size:=Nat.lt_trans hg g2
 rcases Pl.find_wS (M:=M) x.name with ⟨hno,hf⟩ | ⟨i,y,hf,hy,hn⟩
 ·rw [hf] at FN
  rw [if_neg hno]
  by_cases h24:(Pl.secs M).length=24
  ·rw [if_pos h24]
   have q24:(((Pl.wS M).length:Int) == 24)=true:=by rw[beq_iff_eq,Pl.wS_len];omega
   clear hf hno hR hS hG hap hM hl hcap h24
   go_enter Tryz.func75,Tryz.ntmps75
   go_wp2_with fail
   go_region_held3 (fun w'=>w'.cell? ⟨g,4,none⟩ = some (.slice A (Pl.wS M).length cp)∧w'.cell? ⟨w.heap.size,1,none⟩ = some (.string (txt x.name)))
    (first | exact ⟨K4,k1⟩ | exact ⟨(hcell _ _ g1).trans K4,(hcell _ _ g2).trans k1⟩)
    (first
     | (go_at_call 79;(with_reducible refine (FN.out _ X0.out.drew).mono ?_);rintro e w' ⟨rfl,rfl⟩))
   all_goals go_wp2_with fail
   all_goals go_ret
   all_goals exact ⟨rfl,fun h=>by simp at h,XG.out.drew⟩
  ·rw [if_neg h24]
   have q24:(((Pl.wS M).length:Int) == 24)=false:=by rw[beq_eq_false_iff_ne,Pl.wS_len];omega
   obtain ⟨e1,e2⟩:=Pl.w_sec hM hx hno
   have HE1:=Lib.hid (show Pl.wS (M++[x])=Pl.wS M++[newSec x] from e1)
   have HE2:=Lib.hid e2
   have HR:=Lib.hid hrow
   have HS:=Lib.hid hS
   have HG:=Lib.hid hG
   have HA:=Lib.hid hap
   have HK:=Lib.hid (Pl.sec_facts hx).1
   clear hf hno hR hS hG hap hM hcap h24 e1 e2 hx hrow
   cases hp:Pl.isPt x
   ·have hk6:(x.k == 6)=false:=by rw[beq_eq_false_iff_ne];exact fun e=>by simp [Pl.isPt,e] at hp
    go_enter Tryz.func75,Tryz.ntmps75
    go_wp2_with fail
    go_region_held3 (fun w'=>w'.cell? ⟨g,4,none⟩ = some (.slice A (Pl.wS M).length cp)∧w'.cell? ⟨w.heap.size,1,none⟩ = some (.string (txt x.name)))
     (first | exact ⟨K4,k1⟩ | exact ⟨(hcell _ _ g1).trans K4,(hcell _ _ g2).trans k1⟩)
     (first
      | (go_at_call 79;(with_reducible refine (FN.out _ X0.out.drew).mono ?_);rintro e w' ⟨rfl,rfl⟩))
    all_goals go_wp2_with fail
    go_loopw [6] (fun v wr=>∃ k:Nat,k≤3∧v=.int .i64 k∧wr.heap[w.heap.size+1]? = some (.cells (secCells (secPart x k)).toArray 59 (0,0))∧Below w.heap.size w wr) (fun v _=>3 - (intOf v).toNat)
    case atStart =>
     refine ⟨0,by omega,rfl,?_,(X0.out.alloc (by simp) _).drew⟩
     have:(((w.alloc (.cells (item7 x) 93)).alloc (.cells (secCells (secPart x 0)).toArray 59)).drew).heap[(w.alloc (.cells (item7 x) 93)).heap.size]? = some (.cells (secCells (secPart x 0)).toArray 59 (0,0)):=heap_alloc_new (w.alloc (.cells (item7 x) 93)) (.cells (secCells (secPart x 0)).toArray 59)
     simpa [secCells,secPart,hp,zeroE] using this
    case round =>
     obtain ⟨k,hk,rfl,hrw,hbel⟩:=hrel
     obtain ⟨cl,fz,hgb⟩:=row12 hrw
     have RW:=Lib.hid hrw
     clear hrw
     have hk4:k=0∨k=1∨k=2∨k=3:=by omega
     rcases hk4 with rfl | rfl | rfl | rfl
     ·have c0:wr.cell? ⟨w.heap.size+1,3,none⟩ = some (.int .i64 0):=cl 3
      have c1:wr.cell? ⟨w.heap.size+1,4,none⟩ = some (.int .i64 0):=cl 4
      have c2:wr.cell? ⟨w.heap.size+1,5,none⟩ = some (.int .i64 0):=cl 5
      have f0:=fz 3
      have f1:=fz 4
      have f2:=fz 5
      clear cl fz
      have NX:=Lib.hid (show (((wr.setCell ⟨w.heap.size+1,3,none⟩ (.int .i64 (-2))).setCell ⟨w.heap.size+1,4,none⟩ (.int .i64 0)).setCell ⟨w.heap.size+1,5,none⟩ (.int .i64 (-1))).heap[w.heap.size+1]? = some (.cells (secCells (secPart x 1)).toArray 59 (0,0)) from (set3 RW.out 3 4 5 (.int .i64 (-2)) (.int .i64 0) (.int .i64 (-1))).trans (congrArg (fun a=>some (Obj.cells a 59 (0,0))) (part_step x 0 (by omega))))
      go_wp2_with fail
      go_roundw
      case rel=>exact ⟨1,by omega,by go_num,NX.out,((hbel.setCell (Nat.le_succ _) _).setCell (Nat.le_succ _) _).setCell (Nat.le_succ _) _⟩
      case measure=>simp [intOf]
     ·have c0:wr.cell? ⟨w.heap.size+1,6,none⟩ = some (.int .i64 0):=cl 6
      have c1:wr.cell? ⟨w.heap.size+1,7,none⟩ = some (.int .i64 0):=cl 7
      have c2:wr.cell? ⟨w.heap.size+1,8,none⟩ = some (.int .i64 0):=cl 8
      have f0:=fz 6
      have f1:=fz 7
      have f2:=fz 8
      clear cl fz
      have NX:=Lib.hid (show (((wr.setCell ⟨w.heap.size+1,6,none⟩ (.int .i64 (-2))).setCell ⟨w.heap.size+1,7,none⟩ (.int .i64 0)).setCell ⟨w.heap.size+1,8,none⟩ (.int .i64 (-1))).heap[w.heap.size+1]? = some (.cells (secCells (secPart x 2)).toArray 59 (0,0)) from (set3 RW.out 6 7 8 (.int .i64 (-2)) (.int .i64 0) (.int .i64 (-1))).trans (congrArg (fun a=>some (Obj.cells a 59 (0,0))) (part_step x 1 (by omega))))
      go_wp2_with fail
      go_roundw
      case rel=>exact ⟨2,by omega,by go_num,NX.out,((hbel.setCell (Nat.le_succ _) _).setCell (Nat.le_succ _) _).setCell (Nat.le_succ _) _⟩
      case measure=>simp [intOf]
     ·have c0:wr.cell? ⟨w.heap.size+1,9,none⟩ = some (.int .i64 0):=cl 9
      have c1:wr.cell? ⟨w.heap.size+1,10,none⟩ = some (.int .i64 0):=cl 10
      have c2:wr.cell? ⟨w.heap.size+1,11,none⟩ = some (.int .i64 0):=cl 11
      have f0:=fz 9
      have f1:=fz 10
      have f2:=fz 11
      clear cl fz
      have NX:=Lib.hid (show (((wr.setCell ⟨w.heap.size+1,9,none⟩ (.int .i64 (-2))).setCell ⟨w.heap.size+1,10,none⟩ (.int .i64 0)).setCell ⟨w.heap.size+1,11,none⟩ (.int .i64 (-1))).heap[w.heap.size+1]? = some (.cells (secCells (secPart x 3)).toArray 59 (0,0)) from (set3 RW.out 9 10 11 (.int .i64 (-2)) (.int .i64 0) (.int .i64 (-1))).trans (congrArg (fun a=>some (Obj.cells a 59 (0,0))) (part_step x 2 (by omega))))
      go_wp2_with fail
      go_roundw
      case rel=>exact ⟨3,by omega,by go_num,NX.out,((hbel.setCell (Nat.le_succ _) _).setCell (Nat.le_succ _) _).setCell (Nat.le_succ _) _⟩
      case measure=>simp [intOf]
     ·have RG:=stay_row HR.out hbel
      obtain ⟨⟨-,-,-,-,S4,-⟩,-,hfz2,hg2⟩:=work_row RG
      have f4:=hfz2 4
      have d0:wr.cell? ⟨w.heap.size+1,0,none⟩ = some (.string (txt x.name)):=cl 0
      have d1:wr.cell? ⟨w.heap.size+1,1,none⟩ = some (.bool false):=by rw[← hp];exact cl 1
      have d2:wr.cell? ⟨w.heap.size+1,2,none⟩ = some (.int .i64 x.n):=cl 2
      have d3:wr.cell? ⟨w.heap.size+1,3,none⟩ = some (.int .i64 (-2)):=cl 3
      have d4:wr.cell? ⟨w.heap.size+1,4,none⟩ = some (.int .i64 0):=cl 4
      have d5:wr.cell? ⟨w.heap.size+1,5,none⟩ = some (.int .i64 (-1)):=cl 5
      have d6:wr.cell? ⟨w.heap.size+1,6,none⟩ = some (.int .i64 (-2)):=cl 6
      have d7:wr.cell? ⟨w.heap.size+1,7,none⟩ = some (.int .i64 0):=cl 7
      have d8:wr.cell? ⟨w.heap.size+1,8,none⟩ = some (.int .i64 (-1)):=cl 8
      have d9:wr.cell? ⟨w.heap.size+1,9,none⟩ = some (.int .i64 (-2)):=cl 9
      have d10:wr.cell? ⟨w.heap.size+1,10,none⟩ = some (.int .i64 0):=cl 10
      have d11:wr.cell? ⟨w.heap.size+1,11,none⟩ = some (.int .i64 (-1)):=cl 11
      have e9:=fz 9
      have hbz:=hbel.size
      have HBW:=Lib.hid hbel
      have OW:=Lib.hid (ownsRow_below HS.out hbel)
      clear cl fz hfz2 hfz k0 k1 k2 k3 k4 k5 k6 K4 s4 hbel RG
      go_wp2_with fail
      have RL:(wr.setCell ⟨w.heap.size+1,9,none⟩ (.int .i64 (-1))).heap[w.heap.size+1]? = some (.cells (litF x).toArray 59 (0,0)):=by
       have:=heap_setCell_same _ _ 9 _ _ (.int .i64 (-1)) RW.out
       have e:(secCells (secPart x 3)).toArray.setIfInBounds 9 (.int .i64 (-1))=(litF x).toArray:=by simp [secCells,secPart,litF,hp,Pl.openE]
       rwa [e] at this
      have HBE:Below w.heap.size w (wr.setCell ⟨w.heap.size+1,9,none⟩ (.int .i64 (-1))):=HBW.out.setCell (Nat.le_succ _) _
      have NE:∀ b,b<w.heap.size→(wr.setCell ⟨w.heap.size+1,9,none⟩ (.int .i64 (-1))).heap[b]? = w.heap[b]?:=fun b hb=>HBE.block b hb
      clear d0 d1 d2 d3 d4 d5 d6 d7 d8 d9 d10 d11 e9 S4 f4 HBW OW RW hgb hg2 hbz
      generalize wr.setCell ⟨w.heap.size+1,9,none⟩ (.int .i64 (-1))=WR at RL HBE NE ⊢
      have hbz:=HBE.size
      have RG:=(NE g hg).trans HR.out
      obtain ⟨⟨-,-,-,-,S4,-⟩,-,hfz2,hg2⟩:=work_row RG
      have f4:=hfz2 4
      obtain ⟨cl,-,hgb⟩:=row12 RL
      have d0:WR.cell? ⟨w.heap.size+1,0,none⟩ = some (.string (txt x.name)):=cl 0
      have d1:WR.cell? ⟨w.heap.size+1,1,none⟩ = some (.bool false):=cl 1
      have d2:WR.cell? ⟨w.heap.size+1,2,none⟩ = some (.int .i64 x.n):=cl 2
      have d3:WR.cell? ⟨w.heap.size+1,3,none⟩ = some (.int .i64 (-2)):=cl 3
      have d4:WR.cell? ⟨w.heap.size+1,4,none⟩ = some (.int .i64 0):=cl 4
      have d5:WR.cell? ⟨w.heap.size+1,5,none⟩ = some (.int .i64 (-1)):=cl 5
      have d6:WR.cell? ⟨w.heap.size+1,6,none⟩ = some (.int .i64 (-2)):=cl 6
      have d7:WR.cell? ⟨w.heap.size+1,7,none⟩ = some (.int .i64 0):=cl 7
      have d8:WR.cell? ⟨w.heap.size+1,8,none⟩ = some (.int .i64 (-1)):=cl 8
      have d9:WR.cell? ⟨w.heap.size+1,9,none⟩ = some (.int .i64 (-1)):=cl 9
      have d10:WR.cell? ⟨w.heap.size+1,10,none⟩ = some (.int .i64 0):=cl 10
      have d11:WR.cell? ⟨w.heap.size+1,11,none⟩ = some (.int .i64 (-1)):=cl 11
      have OW:=Lib.hid (ownsRow_below HS.out HBE)
      have NW:=Lib.hid (show ∀ j u,(litF x)[j]? = some u→(WR.drew.alloc (.cells (litF x).toArray 59)).cell? ((⟨WR.heap.size,0,none⟩:Addr).add j)=some u from
       fun j u hu=>World.news_of_block (B:=WR.heap.size) (cs:=(litF x).toArray) (t:=59) (fr:=(0,0)) (heap_alloc_new WR.drew (.cells (litF x).toArray 59)) j u (by simpa using hu))
      have hRG:some g≠(Value.slice A (Pl.wS M).length cp).ownBlock:=fun e=>by have:=(OW.out.lt g e.symm).1;omega
      have HX:=Lib.hid hRG
      have RGh:=Lib.hid RG
      clear cl hfz2 RL NE hRG RG
      go_region_law (refine step_append_lies _ (by rfl) (.tmp 52) (.tmp 54) 22 (by rfl) (g+1) 59 i0 _ 12 104 Tryz.underlying22 hi hz0 hz1 hz2 rfl (by decide) (.slice A (Pl.wS M).length cp) (Pl.wS M).length (LSec.all (Pl.wS M)) (by rfl) (OW.out.drew.alloc _) ⟨WR.heap.size,0,none⟩ 1 1 (litF x) (by rfl) (by rfl) NW.out (litF_one x) (by omega) (by unfold maxLen;omega) (by omega) (by simp;omega) _ rfl ?_;intro g' cap' w2 hown hgr hg' hlt2;have hr2:=(hgr.block g (by simp;omega) HX.out).trans ((heap_alloc_old _ _ (show g<WR.drew.heap.size from hg2)).trans RGh.out);have c2:=(work_row hr2).1.2.2.2.2.1;have f2:=(work_row hr2).2.2.1 4)
      all_goals go_wp2_with fail
      all_goals go_ret
      all_goals (rw[litF_eq hp] at hown;have WS:=WorkAt.sections HR.out HS.out HG.out HA.out (HBE.drew.alloc HBE.size (.cells (litF x).toArray 59)) hgr rfl hown (by rcases hg' with h | h;exact .inl h;exact .inr (by rw[h];simp;omega)) HK.out HE1.out HE2.out;exact ⟨rfl,fun _=>WS.1,WS.2⟩)
   ·have hk6:(x.k == 6)=true:=by rw[beq_iff_eq];simpa [Pl.isPt] using hp
    go_enter Tryz.func75,Tryz.ntmps75
    go_wp2_with fail
    go_region_held3 (fun w'=>w'.cell? ⟨g,4,none⟩ = some (.slice A (Pl.wS M).length cp)∧w'.cell? ⟨w.heap.size,1,none⟩ = some (.string (txt x.name)))
     (first | exact ⟨K4,k1⟩ | exact ⟨(hcell _ _ g1).trans K4,(hcell _ _ g2).trans k1⟩)
     (first
      | (go_at_call 79;(with_reducible refine (FN.out _ X0.out.drew).mono ?_);rintro e w' ⟨rfl,rfl⟩))
    all_goals go_wp2_with fail
    go_loopw [6] (fun v wr=>∃ k:Nat,k≤3∧v=.int .i64 k∧wr.heap[w.heap.size+1]? = some (.cells (secCells (secPart x k)).toArray 59 (0,0))∧Below w.heap.size w wr) (fun v _=>3 - (intOf v).toNat)
    case atStart =>
     refine ⟨0,by omega,rfl,?_,(X0.out.alloc (by simp) _).drew⟩
     have:(((w.alloc (.cells (item7 x) 93)).alloc (.cells (secCells (secPart x 0)).toArray 59)).drew).heap[(w.alloc (.cells (item7 x) 93)).heap.size]? = some (.cells (secCells (secPart x 0)).toArray 59 (0,0)):=heap_alloc_new (w.alloc (.cells (item7 x) 93)) (.cells (secCells (secPart x 0)).toArray 59)
     simpa [secCells,secPart,hp,zeroE] using this
    case round =>
     obtain ⟨k,hk,rfl,hrw,hbel⟩:=hrel
     obtain ⟨cl,fz,hgb⟩:=row12 hrw
     have RW:=Lib.hid hrw
     clear hrw
     have hk4:k=0∨k=1∨k=2∨k=3:=by omega
     rcases hk4 with rfl | rfl | rfl | rfl
     ·have c0:wr.cell? ⟨w.heap.size+1,3,none⟩ = some (.int .i64 0):=cl 3
      have c1:wr.cell? ⟨w.heap.size+1,4,none⟩ = some (.int .i64 0):=cl 4
      have c2:wr.cell? ⟨w.heap.size+1,5,none⟩ = some (.int .i64 0):=cl 5
      have f0:=fz 3
      have f1:=fz 4
      have f2:=fz 5
      clear cl fz
      have NX:=Lib.hid (show (((wr.setCell ⟨w.heap.size+1,3,none⟩ (.int .i64 (-2))).setCell ⟨w.heap.size+1,4,none⟩ (.int .i64 0)).setCell ⟨w.heap.size+1,5,none⟩ (.int .i64 (-1))).heap[w.heap.size+1]? = some (.cells (secCells (secPart x 1)).toArray 59 (0,0)) from (set3 RW.out 3 4 5 (.int .i64 (-2)) (.int .i64 0) (.int .i64 (-1))).trans (congrArg (fun a=>some (Obj.cells a 59 (0,0))) (part_step x 0 (by omega))))
      go_wp2_with fail
      go_roundw
      case rel=>exact ⟨1,by omega,by go_num,NX.out,((hbel.setCell (Nat.le_succ _) _).setCell (Nat.le_succ _) _).setCell (Nat.le_succ _) _⟩
      case measure=>simp [intOf]
     ·have c0:wr.cell? ⟨w.heap.size+1,6,none⟩ = some (.int .i64 0):=cl 6
      have c1:wr.cell? ⟨w.heap.size+1,7,none⟩ = some (.int .i64 0):=cl 7
      have c2:wr.cell? ⟨w.heap.size+1,8,none⟩ = some (.int .i64 0):=cl 8
      have f0:=fz 6
      have f1:=fz 7
      have f2:=fz 8
      clear cl fz
      have NX:=Lib.hid (show (((wr.setCell ⟨w.heap.size+1,6,none⟩ (.int .i64 (-2))).setCell ⟨w.heap.size+1,7,none⟩ (.int .i64 0)).setCell ⟨w.heap.size+1,8,none⟩ (.int .i64 (-1))).heap[w.heap.size+1]? = some (.cells (secCells (secPart x 2)).toArray 59 (0,0)) from (set3 RW.out 6 7 8 (.int .i64 (-2)) (.int .i64 0) (.int .i64 (-1))).trans (congrArg (fun a=>some (Obj.cells a 59 (0,0))) (part_step x 1 (by omega))))
      go_wp2_with fail
      go_roundw
      case rel=>exact ⟨2,by omega,by go_num,NX.out,((hbel.setCell (Nat.le_succ _) _).setCell (Nat.le_succ _) _).setCell (Nat.le_succ _) _⟩
      case measure=>simp [intOf]
     ·have c0:wr.cell? ⟨w.heap.size+1,9,none⟩ = some (.int .i64 0):=cl 9
      have c1:wr.cell? ⟨w.heap.size+1,10,none⟩ = some (.int .i64 0):=cl 10
      have c2:wr.cell? ⟨w.heap.size+1,11,none⟩ = some (.int .i64 0):=cl 11
      have f0:=fz 9
      have f1:=fz 10
      have f2:=fz 11
      clear cl fz
      have NX:=Lib.hid (show (((wr.setCell ⟨w.heap.size+1,9,none⟩ (.int .i64 (-2))).setCell ⟨w.heap.size+1,10,none⟩ (.int .i64 0)).setCell ⟨w.heap.size+1,11,none⟩ (.int .i64 (-1))).heap[w.heap.size+1]? = some (.cells (secCells (secPart x 3)).toArray 59 (0,0)) from (set3 RW.out 9 10 11 (.int .i64 (-2)) (.int .i64 0) (.int .i64 (-1))).trans (congrArg (fun a=>some (Obj.cells a 59 (0,0))) (part_step x 2 (by omega))))
      go_wp2_with fail
      go_roundw
      case rel=>exact ⟨3,by omega,by go_num,NX.out,((hbel.setCell (Nat.le_succ _) _).setCell (Nat.le_succ _) _).setCell (Nat.le_succ _) _⟩
      case measure=>simp [intOf]
     ·have RG:=stay_row HR.out hbel
      obtain ⟨⟨-,-,-,-,S4,-⟩,-,hfz2,hg2⟩:=work_row RG
      have f4:=hfz2 4
      have d0:wr.cell? ⟨w.heap.size+1,0,none⟩ = some (.string (txt x.name)):=cl 0
      have d1:wr.cell? ⟨w.heap.size+1,1,none⟩ = some (.bool true):=by rw[← hp];exact cl 1
      have d2:wr.cell? ⟨w.heap.size+1,2,none⟩ = some (.int .i64 x.n):=cl 2
      have d3:wr.cell? ⟨w.heap.size+1,3,none⟩ = some (.int .i64 (-2)):=cl 3
      have d4:wr.cell? ⟨w.heap.size+1,4,none⟩ = some (.int .i64 0):=cl 4
      have d5:wr.cell? ⟨w.heap.size+1,5,none⟩ = some (.int .i64 (-1)):=cl 5
      have d6:wr.cell? ⟨w.heap.size+1,6,none⟩ = some (.int .i64 (-2)):=cl 6
      have d7:wr.cell? ⟨w.heap.size+1,7,none⟩ = some (.int .i64 0):=cl 7
      have d8:wr.cell? ⟨w.heap.size+1,8,none⟩ = some (.int .i64 (-1)):=cl 8
      have d9:wr.cell? ⟨w.heap.size+1,9,none⟩ = some (.int .i64 (-2)):=cl 9
      have d10:wr.cell? ⟨w.heap.size+1,10,none⟩ = some (.int .i64 0):=cl 10
      have d11:wr.cell? ⟨w.heap.size+1,11,none⟩ = some (.int .i64 (-1)):=cl 11
      have e9:=fz 9
      have hbz:=hbel.size
      have HBW:=Lib.hid hbel
      have OW:=Lib.hid (ownsRow_below HS.out hbel)
      clear cl fz hfz2 hfz k0 k1 k2 k3 k4 k5 k6 K4 s4 hbel RG
      go_wp2_with fail
      have RL:(wr).heap[w.heap.size+1]? = some (.cells (litT x).toArray 59 (0,0)):=by
       have e:(secCells (secPart x 3)).toArray=(litT x).toArray:=by simp [secCells,secPart,litT,hp,Pl.openE]
       rw [← e];exact RW.out
      have HBE:Below w.heap.size w (wr):=HBW.out
      have NE:∀ b,b<w.heap.size→(wr).heap[b]? = w.heap[b]?:=fun b hb=>HBE.block b hb
      clear d0 d1 d2 d3 d4 d5 d6 d7 d8 d9 d10 d11 e9 S4 f4 HBW OW RW hgb hg2 hbz
      generalize wr=WR at RL HBE NE ⊢
      have hbz:=HBE.size
      have RG:=(NE g hg).trans HR.out
      obtain ⟨⟨-,-,-,-,S4,-⟩,-,hfz2,hg2⟩:=work_row RG
      have f4:=hfz2 4
      obtain ⟨cl,-,hgb⟩:=row12 RL
      have d0:WR.cell? ⟨w.heap.size+1,0,none⟩ = some (.string (txt x.name)):=cl 0
      have d1:WR.cell? ⟨w.heap.size+1,1,none⟩ = some (.bool true):=cl 1
      have d2:WR.cell? ⟨w.heap.size+1,2,none⟩ = some (.int .i64 x.n):=cl 2
      have d3:WR.cell? ⟨w.heap.size+1,3,none⟩ = some (.int .i64 (-2)):=cl 3
      have d4:WR.cell? ⟨w.heap.size+1,4,none⟩ = some (.int .i64 0):=cl 4
      have d5:WR.cell? ⟨w.heap.size+1,5,none⟩ = some (.int .i64 (-1)):=cl 5
      have d6:WR.cell? ⟨w.heap.size+1,6,none⟩ = some (.int .i64 (-2)):=cl 6
      have d7:WR.cell? ⟨w.heap.size+1,7,none⟩ = some (.int .i64 0):=cl 7
      have d8:WR.cell? ⟨w.heap.size+1,8,none⟩ = some (.int .i64 (-1)):=cl 8
      have d9:WR.cell? ⟨w.heap.size+1,9,none⟩ = some (.int .i64 (-2)):=cl 9
      have d10:WR.cell? ⟨w.heap.size+1,10,none⟩ = some (.int .i64 0):=cl 10
      have d11:WR.cell? ⟨w.heap.size+1,11,none⟩ = some (.int .i64 (-1)):=cl 11
      have OW:=Lib.hid (ownsRow_below HS.out HBE)
      have NW:=Lib.hid (show ∀ j u,(litT x)[j]? = some u→(WR.drew.alloc (.cells (litT x).toArray 59)).cell? ((⟨WR.heap.size,0,none⟩:Addr).add j)=some u from
       fun j u hu=>World.news_of_block (B:=WR.heap.size) (cs:=(litT x).toArray) (t:=59) (fr:=(0,0)) (heap_alloc_new WR.drew (.cells (litT x).toArray 59)) j u (by simpa using hu))
      have hRG:some g≠(Value.slice A (Pl.wS M).length cp).ownBlock:=fun e=>by have:=(OW.out.lt g e.symm).1;omega
      have HX:=Lib.hid hRG
      have RGh:=Lib.hid RG
      clear cl hfz2 RL NE hRG RG
      go_region_law (refine step_append_lies _ (by rfl) (.tmp 52) (.tmp 54) 22 (by rfl) (g+1) 59 i0 _ 12 104 Tryz.underlying22 hi hz0 hz1 hz2 rfl (by decide) (.slice A (Pl.wS M).length cp) (Pl.wS M).length (LSec.all (Pl.wS M)) (by rfl) (OW.out.drew.alloc _) ⟨WR.heap.size,0,none⟩ 1 1 (litT x) (by rfl) (by rfl) NW.out (litT_one x) (by omega) (by unfold maxLen;omega) (by omega) (by simp;omega) _ rfl ?_;intro g' cap' w2 hown hgr hg' hlt2;have hr2:=(hgr.block g (by simp;omega) HX.out).trans ((heap_alloc_old _ _ (show g<WR.drew.heap.size from hg2)).trans RGh.out);have c2:=(work_row hr2).1.2.2.2.2.1;have f2:=(work_row hr2).2.2.1 4)
      all_goals go_wp2_with fail
      all_goals go_ret
      all_goals (rw[litT_eq hp] at hown;have WS:=WorkAt.sections HR.out HS.out HG.out HA.out (HBE.drew.alloc HBE.size (.cells (litT x).toArray 59)) hgr rfl hown (by rcases hg' with h | h;exact .inl h;exact .inr (by rw[h];simp;omega)) HK.out HE1.out HE2.out;exact ⟨rfl,fun _=>WS.1,WS.2⟩)
 ·rw [hf] at FN
  have hin:x.name∈Pl.nmS M:=Pl.mem_nmS.2 ⟨y,List.mem_of_getElem? hy,hn⟩
  rw [if_pos hin]
  clear hf hy hn hin hR hS hG hap hM hl hcap
  go_enter Tryz.func75,Tryz.ntmps75
  go_wp2_with fail
  go_region_held3 (fun w'=>w'.cell? ⟨g,4,none⟩ = some (.slice A (Pl.wS M).length cp)∧w'.cell? ⟨w.heap.size,1,none⟩ = some (.string (txt x.name)))
   (first | exact ⟨K4,k1⟩ | exact ⟨(hcell _ _ g1).trans K4,(hcell _ _ g2).trans k1⟩)
   (first
    | (go_at_call 79;(with_reducible refine (FN.out _ X0.out.drew).mono ?_);rintro e w' ⟨rfl,rfl⟩))
  all_goals go_wp2_with fail
  all_goals go_ret
  all_goals exact ⟨rfl,fun h=>by simp at h,XG.out.drew⟩
theorem setTo_cells {e:Nat} (he:e<3) (v:Int) (s:Pl.Sec):(secCells s).set (3+e * 3) (.int .i64 v)=secCells (Pl.Sec.setTo e v s):=by
 have:e=0∨e=1∨e=2:=by omega
 rcases this with rfl | rfl | rfl <;> rfl
theorem setAt_cells {e:Nat} (he:e<3) (v:Int) (s:Pl.Sec):(secCells s).set (3+e * 3+1) (.int .i64 v)=secCells (Pl.Sec.setAt e v s):=by
 have:e=0∨e=1∨e=2:=by omega
 rcases this with rfl | rfl | rfl <;> rfl
theorem setSig_cells {e:Nat} (he:e<3) (v:Int) (s:Pl.Sec):(secCells s).set (3+e * 3+2) (.int .i64 v)=secCells (Pl.Sec.setSig e v s):=by
 have:e=0∨e=1∨e=2:=by omega
 rcases this with rfl | rfl | rfl <;> rfl
theorem all_modify (L:List Pl.Sec) (i j:Nat) (F:Pl.Sec→Pl.Sec) (s:Pl.Sec) (hs:L[i]? = some s) (hj:j<12) (u:Value) (hu:(secCells s).set j u=secCells (F s)):(LSec.all L).set (i * 12+j) u=LSec.all (L.modify i F):=by
 have e:L.modify i F=L.set i (F s):=by
  apply List.ext_getElem?
  intro k
  rw [Pl.modify_at,List.getElem?_set]
  obtain ⟨hi,h2⟩:=List.getElem?_eq_some_iff.1 hs
  by_cases hik:i=k
  ·subst hik
   rw [if_pos rfl,if_pos rfl,hs,if_pos hi];rfl
  ·rw[if_neg hik,if_neg hik]
 rw [e]
 exact Lies.set_cell (E:=LSec) L i j s (F s) hs hj u hu
theorem get_put_ne {s:Pl.Sec} {e f:Nat} (he:e<3) (hf:f<3) (h:e≠f) (a:Pl.En):(s.put e a).get f=s.get f:=by
 have:e=0∨e=1∨e=2:=by omega
 have:f=0∨f=1∨f=2:=by omega
 rcases ‹e=0∨e=1∨e=2› with rfl | rfl | rfl <;> rcases ‹f=0∨f=1∨f=2› with rfl | rfl | rfl <;> first | rfl | exact absurd rfl h
theorem get_put {s:Pl.Sec} {e:Nat} (he:e<3) (a:Pl.En):(s.put e a).get e=a:=by
 have:e=0∨e=1∨e=2:=by omega
 rcases this with rfl | rfl | rfl <;> rfl
theorem put_pt (s:Pl.Sec) (e:Nat) (a:Pl.En):(s.put e a).pt=s.pt∧(s.put e a).name=s.name:=by
 unfold Pl.Sec.put
 split
 ·exact ⟨rfl,rfl⟩
 ·split <;> exact ⟨rfl,rfl⟩
theorem join_list {L:List Pl.Sec} {i j e f:Nat} {s t:Pl.Sec} (hs:L[i]? = some s) (ht:L[j]? = some t) (he:e<3) (hf:f<3) (hne:i=j→e≠f) (a b c d p q:Int) (hp:(s.get e).sig=p) (hq:(t.get f).sig=q) :
 ((((L.modify i (Pl.Sec.setTo e (-1))).modify i (Pl.Sec.setTo e a)).modify i (Pl.Sec.setAt e b)).modify j (Pl.Sec.setTo f c)).modify j (Pl.Sec.setAt f d)=(L.modify i (fun s=>s.put e ⟨a,b,p⟩)).modify j (fun s=>s.put f ⟨c,d,q⟩):=by
 subst hp hq
 have he':e=0∨e=1∨e=2:=by omega
 have hf':f=0∨f=1∨f=2:=by omega
 apply List.ext_getElem?
 intro k
 simp only [Pl.modify_at]
 by_cases hi:i=k
 ·subst hi
  simp only [if_true]
  by_cases hj:j=i
  ·subst hj
   have:=hne rfl
   rw [hs] at ht
   cases ht
   simp only [if_true,hs,Option.map_some]
   congr 1
   rcases he' with rfl | rfl | rfl <;> rcases hf' with rfl | rfl | rfl <;> first | rfl | exact absurd rfl this
  ·simp only [if_neg hj,hs,Option.map_some]
   congr 1
   rcases he' with rfl | rfl | rfl <;> rfl
 ·simp only [if_neg hi]
  by_cases hj:j=k
  ·subst hj
   simp only [if_true,ht,Option.map_some]
   congr 1
   rcases hf' with rfl | rfl | rfl <;> rfl
  ·simp only [if_neg hj]
theorem freeIs_err {M:List It.Itm} (hM:Pl.Ok M) {t:It.Tp} {a b c:Int} (h:FreeIs (Pl.wS M) t (a,b,c)):c=Pl.tipErr M (Pl.ments M) t ∧
 (c=0→∃ (i e:Nat) (y:It.Itm),a=i∧b=e∧(Pl.secs M)[i]? = some y∧e<Pl.nEnds (Pl.isPt y)∧t=Pl.tip y e):=by
 have nm:∀ i s,Pl.find (Pl.wS M) t.n=(i:Nat)→(Pl.wS M)[i]? = some s→∃ y,(Pl.secs M)[i]? = some y∧s=Pl.secG (Pl.gW M) y∧y.name=t.n∧t.n∈Pl.nmS M∧Pl.ptOf M t.n=Pl.isPt y:=fun i s hf hs=>by
  rcases Pl.find_wS (M:=M) t.n with ⟨_,h⟩ | ⟨k,y,h,hy,hn⟩
  ·rw[h] at hf;omega
  ·rw [h] at hf
   obtain rfl:k=i:=by omega
   rw [Pl.wS_of hy] at hs
   cases hs
   have hm:=List.mem_of_getElem? hy
   exact ⟨y,hy,rfl,hn,Pl.mem_nmS.2 ⟨y,hm,hn⟩,by rw[← hn];exact Pl.ptOf_eq hM.names hm⟩
 cases h with
 | none hf =>
   refine ⟨?_,fun h=>by cases h⟩
   rcases Pl.find_wS (M:=M) t.n with ⟨hn,_⟩ | ⟨k,y,h,_⟩
   ·unfold Pl.tipErr;rw[if_pos hn]
   ·rw[h] at hf;omega
 | noEnd i s hf hs he =>
   refine ⟨?_,fun h=>by cases h⟩
   obtain ⟨y,hy,rfl,hn,hm,hp⟩:=nm i s hf hs
   unfold Pl.tipErr
   rw [if_neg (fun h=>h hm),hp,if_pos (show Pl.endAt (Pl.isPt y) t.c=none from he)]
 | used i e s hf hs he ht =>
   refine ⟨?_,fun h=>by cases h⟩
   obtain ⟨y,hy,rfl,hn,hm,hp⟩:=nm i s hf hs
   have he':Pl.endAt (Pl.isPt y) t.c=some e:=he
   obtain ⟨hl,hlt⟩:=Pl.letter_endAt he'
   have tt:t=Pl.tip y e:=by cases t;simp at hn hl;simp [Pl.tip,hn,hl]
   rw [Pl.get_secG _ hlt] at ht
   have hin:t∈Pl.ments M:=Pl.partner_ments fun hc=>ht (by rw[tt] at hc;simp [Pl.gW,Pl.enW,hc])
   unfold Pl.tipErr
   rw [if_neg (fun h=>h hm),hp,he',if_neg (by simp),if_pos hin]
 | free i e s hf hs he ht =>
   obtain ⟨y,hy,rfl,hn,hm,hp⟩:=nm i s hf hs
   have he':Pl.endAt (Pl.isPt y) t.c=some e:=he
   obtain ⟨hl,hlt⟩:=Pl.letter_endAt he'
   have tt:t=Pl.tip y e:=by cases t;simp at hn hl;simp [Pl.tip,hn,hl]
   rw [Pl.get_secG _ hlt] at ht
   have hno:t ∉ Pl.ments M:=fun hc=>by
    cases hpt:Pl.partner M (Pl.tip y e) with
    | none=>exact Pl.partner_none.1 hpt (by rw[← tt];exact hc)
    | some v =>
      simp only [Pl.gW,Pl.enW,hpt] at ht
      cases v with
      | none=>cases ht
      | some u =>
        have:0≤Pl.pos (Pl.nmS M) u.n:=by unfold Pl.pos;omega
        simp only at ht
        omega
   refine ⟨?_,fun _=>⟨i,e,y,rfl,rfl,hy,hlt,tt⟩⟩
   exact (Pl.tipErr_zero.2 ⟨hm,by rw[hp,he'];rfl,hno⟩).symm
theorem freeIs_second {M:List It.Itm} {i e:Nat} {y:It.Itm} (hM:Pl.Ok M) (hy:(Pl.secs M)[i]? = some y) (he:e<Pl.nEnds (Pl.isPt y)) (h0:Pl.tip y e ∉ Pl.ments M) {u:It.Tp} {a b c:Int}
 (h:FreeIs ((Pl.wS M).modify i (Pl.Sec.setTo e (-1))) u (a,b,c)):c=Pl.tipErr M (Pl.ments M++[Pl.tip y e]) u ∧
 (c=0→∃ (j f:Nat) (z:It.Itm),a=j∧b=f∧(Pl.secs M)[j]? = some z∧f<Pl.nEnds (Pl.isPt z)∧u=Pl.tip z f∧u≠Pl.tip y e∧u ∉ Pl.ments M):=by
 have he3:e<3:=by unfold Pl.nEnds at he;split at he <;> omega
 have names:∀ k s,((Pl.wS M).modify i (Pl.Sec.setTo e (-1)))[k]? = some s→∃ s0,(Pl.wS M)[k]? = some s0∧s.name=s0.name∧s.pt=s0.pt∧(∀ f,f<3→(k=i→f≠e)→s.get f=s0.get f)∧(k=i→(s.get e).goes = -1):=fun k s hk=>by
  rw [Pl.modify_at] at hk
  by_cases hik:i=k
  ·subst hik
   rw [if_pos rfl,Option.map_eq_some_iff] at hk
   obtain ⟨s0,h1,rfl⟩:=hk
   refine ⟨s0,h1,(put_pt _ _ _).2,(put_pt _ _ _).1,fun f hf hne=>get_put_ne he3 hf (fun h=>hne rfl h.symm) _,fun _=>?_⟩
   unfold Pl.Sec.setTo
   rw [get_put he3]
  ·rw [if_neg hik] at hk
   exact ⟨s,hk,rfl,rfl,fun _ _ _=>rfl,fun h=>absurd h.symm hik⟩
 have findE:Pl.find ((Pl.wS M).modify i (Pl.Sec.setTo e (-1))) u.n=Pl.find (Pl.wS M) u.n:=by
  have : ((Pl.wS M).modify i (Pl.Sec.setTo e (-1))).map Pl.Sec.name=(Pl.wS M).map Pl.Sec.name:=by
   apply List.ext_getElem?
   intro k
   rw [List.getElem?_map,List.getElem?_map,Pl.modify_at]
   by_cases hik:i=k
   ·rw [if_pos hik]
    cases (Pl.wS M)[k]? with
    | none=>rfl
    | some s=>simp only [Option.map_some];rw[show (Pl.Sec.setTo e (-1) s).name=s.name from (put_pt _ _ _).2]
   ·rw[if_neg hik]
  have gen:∀ l:List Pl.Sec,(l.findIdx? fun s=>decide (s.name=u.n))=(l.map Pl.Sec.name).findIdx? fun a=>decide (a=u.n):=fun l=>by
   rw [List.findIdx?_map];rfl
  unfold Pl.find
  rw [gen,gen,this]
 have old:∀ k s,((Pl.wS M).modify i (Pl.Sec.setTo e (-1)))[k]? = some s→Pl.find (Pl.wS M) u.n=(k:Nat)→∃ z,(Pl.secs M)[k]? = some z∧s.pt=Pl.isPt z∧z.name=u.n∧u.n∈Pl.nmS M∧Pl.ptOf M u.n=Pl.isPt z∧(∀ f,f<Pl.nEnds (Pl.isPt z)→(k=i→f≠e)→s.get f=Pl.gW M (Pl.tip z f))∧(k=i→(s.get e).goes = -1):=fun k s hk hf=>by
  obtain ⟨s0,h1,h2,h3,h4,h5⟩:=names k s hk
  obtain ⟨z,hz,rfl⟩:=Pl.wS_at h1
  rcases Pl.find_wS (M:=M) u.n with ⟨_,h⟩ | ⟨k',z',h,hz',hn⟩
  ·rw[h] at hf;omega
  ·rw [h] at hf
   obtain rfl:k'=k:=by omega
   rw [hz] at hz'
   cases hz'
   have hm:=List.mem_of_getElem? hz
   refine ⟨z,hz,h3,hn,Pl.mem_nmS.2 ⟨z,hm,hn⟩,by rw[← hn];exact Pl.ptOf_eq hM.names hm,fun f hf hne=>?_,h5⟩
   have hf3:f<3:=by unfold Pl.nEnds at hf;split at hf <;> omega
   rw [h4 f hf3 hne,Pl.get_secG _ hf]
 cases h with
 | none hf =>
   rw [findE] at hf
   refine ⟨?_,fun h=>by cases h⟩
   rcases Pl.find_wS (M:=M) u.n with ⟨hn,_⟩ | ⟨k,y,h,_⟩
   ·unfold Pl.tipErr;rw[if_pos hn]
   ·rw[h] at hf;omega
 | noEnd k s hf hs hend =>
   rw [findE] at hf
   refine ⟨?_,fun h=>by cases h⟩
   obtain ⟨z,hz,hp0,hn,hm,hp,_⟩:=old k s hs hf
   unfold Pl.tipErr
   rw [if_neg (fun h=>h hm),hp,if_pos (by rw[← hp0];exact hend)]
 | used k f s hf hs hend ht =>
   rw [findE] at hf
   refine ⟨?_,fun h=>by cases h⟩
   obtain ⟨z,hz,hp0,hn,hm,hp,hg,_⟩:=old k s hs hf
   rw [hp0] at hend
   obtain ⟨hl,hlt⟩:=Pl.letter_endAt hend
   have tt:u=Pl.tip z f:=by cases u;simp at hn hl;simp [Pl.tip,hn,hl]
   have hin:u∈Pl.ments M++[Pl.tip y e]:=by
    by_cases hsame:k=i∧f=e
    ·obtain ⟨rfl,rfl⟩:=hsame
     rw [hy] at hz
     cases hz
     rw [tt];simp
    ·have:=hg f hlt fun h1 h2=>hsame ⟨h1,h2⟩
     rw [this] at ht
     exact List.mem_append_left _ (Pl.partner_ments fun hc=>ht (by rw[tt] at hc;simp [Pl.gW,Pl.enW,hc]))
   unfold Pl.tipErr
   rw [if_neg (fun h=>h hm),hp,hend,if_neg (by simp),if_pos hin]
 | free k f s hf hs hend ht =>
   rw [findE] at hf
   obtain ⟨z,hz,hp0,hn,hm,hp,hg,h1⟩:=old k s hs hf
   rw [hp0] at hend
   obtain ⟨hl,hlt⟩:=Pl.letter_endAt hend
   have tt:u=Pl.tip z f:=by cases u;simp at hn hl;simp [Pl.tip,hn,hl]
   have hsame:¬ (k=i∧f=e):=fun ⟨a,b⟩=>by subst b;rw[h1 a] at ht;cases ht
   have hg':=hg f hlt fun h1 h2=>hsame ⟨h1,h2⟩
   rw [hg'] at ht
   have hno:u ∉ Pl.ments M:=fun hc=>by
    cases hpt:Pl.partner M (Pl.tip z f) with
    | none=>exact Pl.partner_none.1 hpt (by rw[← tt];exact hc)
    | some v =>
      simp only [Pl.gW,Pl.enW,hpt] at ht
      cases v with
      | none=>cases ht
      | some u' =>
        have:0≤Pl.pos (Pl.nmS M) u'.n:=by unfold Pl.pos;omega
        simp only at ht
        omega
   have hne:u≠Pl.tip y e:=fun hc=>by
    rw [tt] at hc
    have hnm:z.name=y.name:=congrArg It.Tp.n hc
    have hzy:=Pl.uniq hM.names (List.mem_of_getElem? hz) (List.mem_of_getElem? hy) hnm
    subst hzy
    have hk:(k:Int)=i:=by rw[← Pl.pos_sec hM.names hz,← Pl.pos_sec hM.names hy]
    exact hsame ⟨by omega,Pl.letter_inj hlt he (congrArg It.Tp.c hc)⟩
   refine ⟨?_,fun _=>⟨k,f,z,rfl,rfl,hz,hlt,tt,hne,hno⟩⟩
   exact (Pl.tipErr_zero.2 ⟨hm,by rw[hp,hend];rfl,by simp [hno,hne]⟩).symm
def WorkX (tw tS tG:TypeId) (w:World) (g:Nat) (M:List It.Itm) (vS vG:Value) (LS:List Pl.Sec) (LG:List Pl.Sig):Prop :=
 w.heap[g]? = some (.cells (workCells M vS vG) tw (0,0))∧w.ownsRow (g+1) tS LSec.m vS LS.length (LSec.all LS)∧w.ownsRow (g+1) tG LSig.m vG LG.length (LSig.all LG)∧∀ k,vS.ownBlock=some k→vG.ownBlock≠some k
theorem WorkX.below {tw tS tG:TypeId} {w w':World} {g:Nat} {M:List It.Itm} {vS vG:Value} {LS:List Pl.Sec} {LG:List Pl.Sig} (h:WorkX tw tS tG w g M vS vG LS LG) (hb:Below w.heap.size w w'):WorkX tw tS tG w' g M vS vG LS LG:=by
 obtain ⟨h1,h2,h3,h4⟩:=h
 exact ⟨(hb.block _ (Array.getElem?_eq_some_iff.1 h1).1).trans h1,ownsRow_below h2 hb,ownsRow_below h3 hb,h4⟩
theorem WorkX.drew {tw tS tG:TypeId} {w:World} {g:Nat} {M:List It.Itm} {vS vG:Value} {LS:List Pl.Sec} {LG:List Pl.Sig} (h:WorkX tw tS tG w g M vS vG LS LG):WorkX tw tS tG w.drew g M vS vG LS LG :=
 ⟨h.1,h.2.1.drew,h.2.2.1.drew,h.2.2.2⟩
theorem WorkX.store {tw tS tG:TypeId} {w:World} {g gb n cap:Nat} {M:List It.Itm} {vG:Value} {LS:List Pl.Sec} {LG:List Pl.Sig} (h:WorkX tw tS tG w g M (.slice (some ⟨gb,0,none⟩) n cap) vG LS LG) {i j:Nat} {s:Pl.Sec} (hs:LS[i]? = some s) (hj:j<12) (F:Pl.Sec→Pl.Sec) (u:Value) (hu:(secCells s).set j u=secCells (F s)) :
 WorkX tw tS tG (w.setCell ⟨gb,i * 12+j,none⟩ u) g M (.slice (some ⟨gb,0,none⟩) n cap) vG (LS.modify i F) LG:=by
 obtain ⟨h1,h2,h3,h4⟩:=h
 have hn:n=LS.length:=by
  rcases h2.2 with ⟨h,_⟩ | ⟨g',cap',cur,h,_⟩
  ·cases h
  ·cases h;rfl
 subst hn
 have hgb:=h2.lt gb rfl
 have hne:gb≠g:=by omega
 refine ⟨?_,?_,?_,h4⟩
 ·rw[heap_setCell_other _ ⟨gb,i * 12+j,none⟩ g u (by simpa using fun e=>hne e.symm)];exact h1
 ·have:=(h2.stored (i * 12+j) u).1
  rw [all_modify LS i j F s hs hj u hu] at this
  rw [List.length_modify]
  exact this
 ·refine own_kept h3 fun b hb=>heap_setCell_other _ ⟨gb,i * 12+j,none⟩ b u ?_
  have:=h4 gb rfl
  simpa using fun e=>this (by rw[hb,e])
theorem WorkX.slice {tw tS tG:TypeId} {w:World} {g:Nat} {M:List It.Itm} {vS vG:Value} {LS:List Pl.Sec} {LG:List Pl.Sig} (h:WorkX tw tS tG w g M vS vG LS LG) (hn:0<LS.length):∃ gb cap,vS=.slice (some ⟨gb,0,none⟩) LS.length cap:=by
 obtain ⟨gb,cap,e,_⟩:=h.2.1.form hn
 exact ⟨gb,cap,e⟩
theorem WorkX.reads {tw tS tG:TypeId} {w:World} {g gb n cap:Nat} {M:List It.Itm} {vG:Value} {LS:List Pl.Sec} {LG:List Pl.Sig} (h:WorkX tw tS tG w g M (.slice (some ⟨gb,0,none⟩) n cap) vG LS LG) {i e:Nat} {s:Pl.Sec} (hs:LS[i]? = some s) (he:e<3) :
 w.cell? ⟨g,4,none⟩ = some (.slice (some ⟨gb,0,none⟩) n cap)∧w.cell? ⟨gb,i * 12+3+e * 3,none⟩ = some (.int .i64 (s.get e).goes)∧w.cell? ⟨gb,i * 12+3+e * 3+1,none⟩ = some (.int .i64 (s.get e).at_)∧w.cell? ⟨gb,i * 12+3+e * 3+2,none⟩ = some (.int .i64 (s.get e).sig) ∧
  (∀ o,w.frozen? ⟨gb,o,none⟩ = false)∧g<w.heap.size∧gb<w.heap.size∧g<gb∧n=LS.length:=by
 obtain ⟨h1,h2,h3,h4⟩:=h
 have hn:n=LS.length:=by
  rcases h2.2 with ⟨h,_⟩ | ⟨g',cap',cur,h,_⟩
  ·cases h
  ·cases h;rfl
 subst hn
 have on:=Lies.own_on h2 hs
 have hgb:=h2.lt gb rfl
 exact ⟨(work_row h1).1.2.2.2.2.1,on_to on he,on_at on he,on_sig on he,fun o=>h2.frozenAt o,(work_row h1).2.2.2,hgb.2,by omega,rfl⟩
theorem letter_ne {t:It.Tp} (h:Pl.TipG t):t.c≠0:=fun e=>by
 have:=h.2
 rw [e] at this
 cases this
theorem rpStop_any (g:Nat) (M:List It.Itm) (x:It.Itm) (w:World) (h:WorkAt 99 59 61 w g M) (hM:Pl.Ok M) (hr:It.right x=true) (h8:x.k=8) :
 Calls Tryz.prog 76 #[.pointer (some ⟨g,0,none⟩),itemV x] w (LineGives 99 59 61 g M x (Pl.tipErr M (Pl.ments M) x.e0) w):=by
 have hc0:=letter_ne (Pl.right_stop hr h8).2
 have hl:(Pl.wS M).length≤1000000:=by rw[Pl.wS_len];have:=hM.few;omega
 obtain ⟨vS,vG,hX⟩:∃ vS vG,WorkX 99 59 61 w g M vS vG (Pl.wS M) (Pl.wG M):=h
 have hg:=(Array.getElem?_eq_some_iff.1 hX.1).1
 have X0:=Lib.hid ((Below.refl w.heap.size w).alloc (Nat.le_refl _) (.cells (item7 x) 93))
 obtain ⟨⟨k0,k1,k2,k3,k4,k5,k6⟩,-,g2⟩:=row7 (show (w.alloc (.cells (item7 x) 93)).heap[w.heap.size]? = some (.cells #[.int .i64 x.k,.string (txt x.name),.int .i64 x.n,.string (txt x.e0.n),.int .u8 x.e0.c.toNat,.string (txt x.e1.n),.int .u8 x.e1.c.toNat] 93 (0,0)) from heap_alloc_new _ _)
 have FR:=Lib.hid (rpFree_any g M (Pl.wS M) (Pl.wG M) x.e0 (w.alloc (.cells (item7 x) 93)) ⟨vS,vG,hX.below X0.out⟩ hl hc0)
 have hk8:(x.k == 8)=true:=by rw[beq_iff_eq];exact h8
 have HX:=Lib.hid hX
 have H8:=Lib.hid h8
 clear hX hc0 hl h8
 go_enter Tryz.func76,Tryz.ntmps76
 go_wp2_with fail
 refine FR.out.mono ?_;rintro e w1 ⟨a,b,c,rfl,hfree,hb1⟩
 obtain ⟨hcE,hcs⟩:=freeIs_err hM hfree
 have hb01:=X0.out.trans (hb1.mono X0.out.size)
 have hB:=Lib.hid (hb01.mono (Nat.le_of_lt hg))
 by_cases hc:c=0
 ·obtain ⟨i,e,y,rfl,rfl,hy,he,ht⟩:=hcs hc
  subst hc
  have he3:e<3:=by unfold Pl.nEnds at he;split at he <;> omega
  have hX1:=HX.out.below hb01
  have hi:=(List.getElem?_eq_some_iff.1 (Pl.wS_of hy)).1
  obtain ⟨gb,cap,rfl⟩:=hX1.slice (by omega)
  obtain ⟨s4,t0,-,-,fz,g1,gb1,ggb,-⟩:=hX1.reads (Pl.wS_of hy) he3
  have f0:=fz (i * 12+3+e * 3)
  have hm:x.e0 ∉ Pl.ments M:=(Pl.tipErr_zero.1 hcE.symm).2.2
  obtain ⟨e1,e2⟩:=Pl.w_stop hM H8.out hm hy he ht
  have kk0:=(hb1.cell (show (⟨w.heap.size,0,none⟩:Addr).block<(w.alloc (.cells (item7 x) 93)).heap.size from g2)).trans k0
  have kne:w.heap.size≠gb:=fun e=>by have:=(HX.out.2.1.lt gb rfl).2;omega
  have st:=hX1.store (Pl.wS_of hy) (j:=3+e * 3) (by omega) (Pl.Sec.setTo e (-1)) (.int .i64 (-1)) (setTo_cells he3 (-1) _)
  rw [← Nat.add_assoc] at st
  have ST:=Lib.hid st
  have BF:=Lib.hid (hB.out.setCell (p:=⟨gb,i * 12+3+e * 3,none⟩) (Nat.le_of_lt ggb) (.int .i64 (-1)))
  have hCE:=Lib.hid hcE
  have E1:=Lib.hid e1
  have E2:=Lib.hid e2
  clear st hfree hcs hb1 hb01 hX1 hy ht e1 e2 hm hcE hM fz
  go_wp2_with fail
  go_ret
  refine ⟨by rw[← hCE.out];rfl,fun _=>?_,BF.out⟩
  refine ⟨.slice (some ⟨gb,0,none⟩) (Pl.wS M).length cap,vG,?_,?_,?_,?_⟩
  ·rw[cells_keep (by unfold It.isNum;rw[H8.out];decide)];exact ST.out.1
  ·rw[E1.out];exact ST.out.2.1
  ·rw[E2.out];exact ST.out.2.2.1
  ·exact ST.out.2.2.2
 ·have hcn:(c != 0)=true:=by rw[bne_iff_ne];exact hc
  have hCE:=Lib.hid hcE
  clear hfree hcs hb1 hb01 hcE hM
  go_wp2_with fail
  go_ret
  exact ⟨by rw[← hCE.out];rfl,fun h=>absurd (hCE.out.trans h) hc,hB.out⟩
theorem WorkX.work {tw tS tG:TypeId} {w:World} {g:Nat} {M:List It.Itm} {vS vG:Value} {LS:List Pl.Sec} {LG:List Pl.Sig} (h:WorkX tw tS tG w g M vS vG LS LG):WorkL tw tS tG w g M LS LG:=⟨vS,vG,h⟩
theorem WorkX.next {tw tS tG:TypeId} {w:World} {g:Nat} {M:List It.Itm} {x:It.Itm} {vS vG:Value} {LS:List Pl.Sec} {LG:List Pl.Sig} (h:WorkX tw tS tG w g M vS vG LS LG) (hk:It.isNum x.k=false) (e1:Pl.wS (M++[x])=LS) (e2:Pl.wG (M++[x])=LG):WorkAt tw tS tG w g (M++[x]):=by
 subst e1 e2
 obtain ⟨h1,h2,h3,h4⟩:=h
 exact ⟨vS,vG,by rw[cells_keep hk];exact h1,h2,h3,h4⟩
theorem joinErr_first {M:List It.Itm} {x:It.Itm} (h:Pl.tipErr M (Pl.ments M) x.e0≠0):Pl.joinErr M x=Pl.tipErr M (Pl.ments M) x.e0:=by unfold Pl.joinErr;rw[if_pos h]
theorem joinErr_second {M:List It.Itm} {x:It.Itm} (h:Pl.tipErr M (Pl.ments M) x.e0=0):Pl.joinErr M x=Pl.tipErr M (Pl.ments M++[x.e0]) x.e1:=by unfold Pl.joinErr;rw[if_neg (fun hc=>hc h)]
theorem rpJoin_any (g:Nat) (M:List It.Itm) (x:It.Itm) (w:World) (h:WorkAt 99 59 61 w g M) (hM:Pl.Ok M) (hr:It.right x=true) (h7:x.k=7) :
 Calls Tryz.prog 76 #[.pointer (some ⟨g,0,none⟩),itemV x] w (LineGives 99 59 61 g M x (Pl.joinErr M x) w):=by
 have hc0:=letter_ne (Pl.right_join hr h7).2.1
 have hc1:=letter_ne (Pl.right_join hr h7).2.2
 have hl:(Pl.wS M).length≤1000000:=by rw[Pl.wS_len];have:=hM.few;omega
 obtain ⟨vS,vG,hX⟩:∃ vS vG,WorkX 99 59 61 w g M vS vG (Pl.wS M) (Pl.wG M):=h
 have hg:=(Array.getElem?_eq_some_iff.1 hX.1).1
 have X0:=Lib.hid ((Below.refl w.heap.size w).alloc (Nat.le_refl _) (.cells (item7 x) 93))
 obtain ⟨⟨k0,k1,k2,k3,k4,k5,k6⟩,-,g2⟩:=row7 (show (w.alloc (.cells (item7 x) 93)).heap[w.heap.size]? = some (.cells #[.int .i64 x.k,.string (txt x.name),.int .i64 x.n,.string (txt x.e0.n),.int .u8 x.e0.c.toNat,.string (txt x.e1.n),.int .u8 x.e1.c.toNat] 93 (0,0)) from heap_alloc_new _ _)
 have FR:=Lib.hid (rpFree_any g M (Pl.wS M) (Pl.wG M) x.e0 (w.alloc (.cells (item7 x) 93)) ⟨vS,vG,hX.below X0.out⟩ hl hc0)
 have FR2:=Lib.hid (fun W L (hW:WorkL 99 59 61 W g M L (Pl.wG M)) (hL:L.length=(Pl.wS M).length)=>rpFree_any g M L (Pl.wG M) x.e1 W hW (by omega) hc1)
 have hk8:(x.k == 8)=false:=by rw[beq_eq_false_iff_ne];omega
 have HX:=Lib.hid hX
 have H7:=Lib.hid h7
 clear hX hc0 hc1 hl h7
 go_enter Tryz.func76,Tryz.ntmps76
 go_wp2_with fail
 refine FR.out.mono ?_;rintro e w1 ⟨a,b,c,rfl,hfree,hb1⟩
 obtain ⟨hcE,hcs⟩:=freeIs_err hM hfree
 have hb01:=X0.out.trans (hb1.mono X0.out.size)
 have hB:=Lib.hid (hb01.mono (Nat.le_of_lt hg))
 by_cases hc:c=0
 ·obtain ⟨i,e,y,rfl,rfl,hy,he,ht⟩:=hcs hc
  subst hc
  have he3:e<3:=by unfold Pl.nEnds at he;split at he <;> omega
  have hX1:=HX.out.below hb01
  have hi:=(List.getElem?_eq_some_iff.1 (Pl.wS_of hy)).1
  obtain ⟨gb,cap,rfl⟩:=hX1.slice (by omega)
  obtain ⟨s4,t0,-,-,fz,g1,gb1,ggb,-⟩:=hX1.reads (Pl.wS_of hy) he3
  have f0:=fz (i * 12+3+e * 3)
  have hm:x.e0 ∉ Pl.ments M:=(Pl.tipErr_zero.1 hcE.symm).2.2
  have hbw:w.heap.size<w1.heap.size:=Nat.lt_of_lt_of_le g2 hb1.size
  have keepc:∀ o,w1.cell? ⟨w.heap.size,o,none⟩ = (w.alloc (.cells (item7 x) 93)).cell? ⟨w.heap.size,o,none⟩:=fun o=>hb1.cell (show (⟨w.heap.size,o,none⟩:Addr).block<(w.alloc (.cells (item7 x) 93)).heap.size from g2)
  have q0:=(keepc 0).trans k0
  have q5:=(keepc 5).trans k5
  have q6:=(keepc 6).trans k6
  have kne:w.heap.size≠gb:=fun e=>by have:=(HX.out.2.1.lt gb rfl).2;omega
  have st:=hX1.store (Pl.wS_of hy) (j:=3+e * 3) (by omega) (Pl.Sec.setTo e (-1)) (.int .i64 (-1)) (setTo_cells he3 (-1) _)
  rw [← Nat.add_assoc] at st
  have F2:=Lib.hid (FR2.out _ _ st.work (List.length_modify ..))
  have ST:=Lib.hid st
  have BF:=Lib.hid (hB.out.setCell (p:=⟨gb,i * 12+3+e * 3,none⟩) (Nat.le_of_lt ggb) (.int .i64 (-1)))
  have hCE:=Lib.hid hcE
  have HM:=Lib.hid hM
  have HY:=Lib.hid hy
  have HT:=Lib.hid ht
  have HE:=Lib.hid he
  have HMm:=Lib.hid hm
  clear st hfree hcs hb1 hb01 hX1 hy ht hm hcE hM fz keepc he
  go_wp2_with fail
  refine F2.out.mono ?_;rintro e' w2 ⟨a2,b2,c2,rfl,hfree2,hb2⟩
  obtain ⟨hcE2,hcs2⟩:=freeIs_second HM.out HY.out HE.out (by rw[← HT.out];exact HMm.out) hfree2
  rw [← HT.out] at hcE2
  have BF2:=Lib.hid (BF.out.trans (hb2.mono (by simp;omega)))
  have JE:=Lib.hid (joinErr_second hCE.out.symm)
  by_cases hc2:c2=0
  ·obtain ⟨j,f,z,rfl,rfl,hz,hf,hu,hne,hm1⟩:=hcs2 hc2
   subst hc2
   have hf3:f<3:=by unfold Pl.nEnds at hf;split at hf <;> omega
   have hX2:=ST.out.below hb2
   have hs1:((Pl.wS M).modify i (Pl.Sec.setTo e (-1)))[i]? = some (Pl.Sec.setTo e (-1) (Pl.secG (Pl.gW M) y)):=by rw[Pl.modify_at,if_pos rfl,Pl.wS_of HY.out];rfl
   obtain ⟨S4,T0,T1,-,fz2,G1,GB1,-,-⟩:=hX2.reads hs1 he3
   have fa:=fz2 (i * 12+3+e * 3)
   have fb:=fz2 (i * 12+3+e * 3+1)
   have HX2:=Lib.hid hX2
   have hj:=(List.getElem?_eq_some_iff.1 (Pl.wS_of hz)).1
   have hCE2:=Lib.hid hcE2
   have HZ:=Lib.hid hz
   have HU:=Lib.hid hu
   have HNE:=Lib.hid hne
   have HM1:=Lib.hid hm1
   have HF:=Lib.hid hf
   have HS1:=Lib.hid hs1
   clear s4 t0 f0 hfree2 hcs2 hb2 hX2 fz2 hcE2 hz hu hne hm1 hf hs1
   go_wp2_with fail
   go_region
   have sa:=HX2.out.store HS1.out (j:=3+e * 3) (by omega) (Pl.Sec.setTo e j) (.int .i64 j) (setTo_cells he3 j _)
   have hs2:(((Pl.wS M).modify i (Pl.Sec.setTo e (-1))).modify i (Pl.Sec.setTo e j))[i]? = some (Pl.Sec.setTo e j (Pl.Sec.setTo e (-1) (Pl.secG (Pl.gW M) y))):=by rw[Pl.modify_at,if_pos rfl,HS1.out];rfl
   have sb:=sa.store hs2 (j:=3+e * 3+1) (by omega) (Pl.Sec.setAt e f) (.int .i64 f) (setAt_cells he3 f _)
   rw [← Nat.add_assoc,← Nat.add_assoc,← Nat.add_assoc] at sb
   obtain ⟨t3,ht3⟩:∃ t3,((((Pl.wS M).modify i (Pl.Sec.setTo e (-1))).modify i (Pl.Sec.setTo e j)).modify i (Pl.Sec.setAt e f))[j]? = some t3:=⟨_,List.getElem?_eq_getElem (by simpa using hj)⟩
   obtain ⟨S4b,T0b,T1b,-,fz3,G1b,GB1b,-,-⟩:=sb.reads ht3 hf3
   have fc:=fz3 (j * 12+3+f * 3)
   have fd:=fz3 (j * 12+3+f * 3+1)
   have sc:=sb.store ht3 (j:=3+f * 3) (by omega) (Pl.Sec.setTo f i) (.int .i64 i) (setTo_cells hf3 i _)
   have hs4:(((((Pl.wS M).modify i (Pl.Sec.setTo e (-1))).modify i (Pl.Sec.setTo e j)).modify i (Pl.Sec.setAt e f)).modify j (Pl.Sec.setTo f i))[j]? = some (Pl.Sec.setTo f i t3):=by rw[Pl.modify_at,if_pos rfl,ht3];rfl
   have sd:=sc.store hs4 (j:=3+f * 3+1) (by omega) (Pl.Sec.setAt f e) (.int .i64 e) (setAt_cells hf3 e _)
   rw [← Nat.add_assoc,← Nat.add_assoc,← Nat.add_assoc] at sd
   have SD:=Lib.hid sd
   clear S4 T0 T1 fa fb fz3 sa hs2 sb sc hs4 sd ht3
   have BF3:=(BF2.out.setCell (p:=⟨gb,i * 12+3+e * 3,none⟩) (Nat.le_of_lt ggb) (.int .i64 j)).setCell (p:=⟨gb,i * 12+3+e * 3+1,none⟩) (Nat.le_of_lt ggb) (.int .i64 f)
   generalize (w2.setCell ⟨gb,i * 12+3+e * 3,none⟩ (.int .i64 j)).setCell ⟨gb,i * 12+3+e * 3+1,none⟩ (.int .i64 f)=W3 at S4b T0b T1b fc fd G1b GB1b SD BF3 ⊢
   have BF5:=Lib.hid ((BF3.setCell (p:=⟨gb,j * 12+3+f * 3,none⟩) (Nat.le_of_lt ggb) (.int .i64 i)).setCell (p:=⟨gb,j * 12+3+f * 3+1,none⟩) (Nat.le_of_lt ggb) (.int .i64 e))
   clear BF3
   go_wp2_with fail
   go_region
   go_wp2_with fail
   go_ret
   have hys:=Pl.wS_of HY.out
   have hzs:=Pl.wS_of HZ.out
   have hij:i=j→e≠f:=fun h1 h2=>by
    subst h1 h2
    have:=HZ.out.symm.trans HY.out
    cases this
    exact HNE.out HU.out
   obtain ⟨e1,e2⟩:=Pl.w_join HM.out H7.out HMm.out HM1.out (by rw[HT.out];exact fun h=>HNE.out h.symm) HY.out HZ.out HE.out HF.out HT.out HU.out
   have e3:=join_list hys hzs he3 hf3 hij j f i e _ _ (by rw[Pl.get_secG _ HE.out]) (by rw[Pl.get_secG _ HF.out])
   exact ⟨by rw[JE.out,← hCE2.out];rfl,fun _=>SD.out.drew.drew.next (by unfold It.isNum;rw[H7.out];decide) (e1.trans e3.symm) e2,BF5.out.drew.drew⟩
  ·have hcn:(c2 != 0)=true:=by rw[bne_iff_ne];exact hc2
   have hCE2:=Lib.hid hcE2
   clear hfree2 hcs2 hb2 hcE2
   go_wp2_with fail
   go_ret
   exact ⟨by rw[JE.out,← hCE2.out];rfl,fun h=>absurd (hCE2.out.trans (JE.out.symm.trans h)) hc2,BF2.out⟩
 ·have hcn:(c != 0)=true:=by rw[bne_iff_ne];exact hc
  have hCE:=Lib.hid (hcE.trans (joinErr_first (by rw[← hcE];exact hc)).symm)
  clear hfree hcs hb1 hb01 hcE hM
  go_wp2_with fail
  go_ret
  exact ⟨by rw[← hCE.out];rfl,fun h=>absurd (hCE.out.trans h) hc,hB.out⟩
end Go.Proofs.YtncphjodaklleaaGreat
