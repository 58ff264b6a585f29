/-
 Texts of this claim, merged: PlItB, PlItD, PlItE, PlLawA, PlEq, PlAwake, PlRefM.
-/
import Derived.Test.YtncphjodaklleaaGreatMg02
import Derived.Test.YtncphjodaklleaaGreatMg08
import Derived.ChangeKeysEq
import Derived.Deep.CutRange
import Derived.Laws.AppendOwnNone
set_option maxHeartbeats 8000000
set_option maxRecDepth 100000
namespace Go.Proofs.YtncphjodaklleaaGreat
open Go.RowKit
theorem own_mono {w:World} {base base':Nat} {e:TypeId} {size:Nat} {v:Value} {n:Nat} {xs:List Value} (h:w.ownsRow base e size v n xs) (hb:base'≤base):w.ownsRow base' e size v n xs:=by
 refine ⟨h.1,?_⟩
 rcases h.2 with hn | ⟨g,cap,cur,rfl,hbb,rest⟩
 ·exact .inl hn
 ·exact .inr ⟨g,cap,cur,rfl,Nat.le_trans hb hbb,rest⟩
def ItSt (w wr:World) (O:Obj) (v:Value) (X:List It.Itm):Prop :=
 Below w.heap.size w wr∧wr.heap[w.heap.size]? = some O∧wr.ownsRow (w.heap.size+1) 93 7 v X.length (cellsL X)
theorem ItSt.start {w wr:World} {O:Obj} (h1:Below w.heap.size w wr) (h2:wr.heap[w.heap.size]? = some O):ItSt w wr O (.slice none 0 0) []:=⟨h1,h2,World.ownsRow_nil _ _ _ _⟩
theorem ItSt.lt {w wr:World} {O:Obj} {v:Value} {X:List It.Itm} (h:ItSt w wr O v X):w.heap.size<wr.heap.size:=(Array.getElem?_eq_some_iff.1 h.2.1).1
theorem ItSt.below {w wr w2:World} {O:Obj} {v:Value} {X:List It.Itm} (h:ItSt w wr O v X) (hb:Below wr.heap.size wr w2):ItSt w w2 O v X :=
 ⟨h.1.trans (hb.mono h.1.size),(hb.block _ h.lt).trans h.2.1,ownsRow_below h.2.2 hb⟩
theorem ItSt.grown {w wr w2:World} {O:Obj} {v v':Value} {X Y:List It.Itm} (h:ItSt w wr O v X) (ho:w2.ownsRow (w.heap.size+1) 93 7 v' (X.length+Y.length) (cellsL X++cellsL Y)) (hg:wr.grownBy w2 v.ownBlock):ItSt w w2 O v' (X++Y):=by
 have hl:=h.lt
 refine ⟨h.1.grown hg (Nat.le_of_lt hl) (fun k hk=>by have:=(h.2.2.lt k hk).1;omega),?_,?_⟩
 ·rw[hg.block _ hl (fun e=>by have:=(h.2.2.lt _ e.symm).1;omega)];exact h.2.1
 ·rw[List.length_append,cellsL_append];exact ho
theorem ItSt.snoc {w wr w2:World} {O:Obj} {v v':Value} {X:List It.Itm} {y:It.Itm} (h:ItSt w wr O v X) (ho:w2.ownsRow (w.heap.size+1) 93 7 v' (X.length+1) (cellsL X++cells7 y)) (hg:wr.grownBy w2 v.ownBlock):ItSt w w2 O v' (X++[y]):=by
 refine h.grown (Y:=[y]) ?_ hg
 rw [cellsL_one];exact ho
theorem ItSt.ne {w wr:World} {O:Obj} {v:Value} {X:List It.Itm} (h:ItSt w wr O v X) {g:Nat} {cs:Array Value} {t:TypeId} (hg:wr.heap[g]? = some (.cells cs t (0,0))) (ht:t≠93):some g≠v.ownBlock:=fun he=>by
 rcases h.2.2.2 with ⟨rfl,-⟩ | ⟨b,cap,cur,rfl,-,hb,-⟩
 ·cases he
 ·have:g=b:=by simpa [Value.ownBlock] using he
  subst this
  rw [hg] at hb
  simp only [Option.some.injEq,Obj.cells.injEq] at hb
  exact ht hb.2.1
theorem ItSt.more {w wr w2:World} {O:Obj} {v v':Value} {X Y:List It.Itm} (h:ItSt w wr O v X) (ho:w2.ownsRow (w.heap.size+1) 93 7 v' (X.length+Y.length) (cellsL X++cellsL Y)) (hg:wr.grownBy w2 v.ownBlock):ItSt w w2 O v' (X++Y):=h.grown ho hg
theorem tip_le8 (a:List UInt8):(It.tip a).n.length≤8:=by
 unfold It.tip
 split
 ·rename_i h
  unfold It.tipOk at h
  simp only [Bool.and_eq_true] at h
  exact (fig_len h.2).2
 ·simp [It.Tp.zero]
theorem parseK_le8 {k:Int} {T:List (List UInt8)} {y:It.Itm} (h:It.parseK k T=some y):ItemLe 8 y:=by
 unfold It.parseK at h
 split at h
 ·split at h
  ·split at h
   ·rename_i d hp
    cases h
    have:=parseN_le hp
    have:=most_le k
    exact ⟨by simp,by show Fig.parseN d (It.most k)≤_;omega,by simp [It.Tp.zero],by simp [It.Tp.zero]⟩
   ·cases h
  ·cases h
 ·split at h
  ·split at h
   ·split at h
    ·rename_i m d hp
     cases h
     simp only [Bool.and_eq_true] at hp
     exact ⟨(fig_len hp.1.1).2,parseN_le hp.1.2,by simp [It.Tp.zero],by simp [It.Tp.zero]⟩
    ·cases h
   ·cases h
  ·split at h
   ·split at h
    ·split at h
     ·rename_i a b hp
      cases h
      exact ⟨by simp,by simp,tip_le8 a,tip_le8 b⟩
     ·cases h
    ·cases h
   ·split at h
    ·split at h
     ·split at h
      ·rename_i a hp
       cases h
       exact ⟨by simp,by simp,tip_le8 a,by simp [It.Tp.zero]⟩
      ·cases h
     ·cases h
    ·split at h
     ·split at h
      ·split at h
       ·rename_i m a hp
        cases h
        simp only [Bool.and_eq_true] at hp
        exact ⟨(fig_len hp.1).2,by simp,tip_le8 a,by simp [It.Tp.zero]⟩
       ·cases h
      ·cases h
     ·cases h
theorem parse_le8 {l:List UInt8} {y:It.Itm} (h:It.parse l=some y):ItemLe 8 y:=by
 unfold It.parse at h
 split at h
 ·cases hW:Ln.words l with
  | nil=>rw[hW] at h;cases h
  | cons x T=>rw[hW] at h;exact parseK_le8 h
 ·cases h
theorem right_le8 {y:It.Itm} (h:It.right y=true):ItemLe 8 y∧0≤y.n:=by
 rw [It.right,Bool.and_eq_true,decide_eq_true_iff,decide_eq_true_iff] at h
 exact ⟨parse_le8 h.2,h.1⟩
theorem right_parsed {l:List UInt8} {y:It.Itm} (h:It.parse l=some y):It.right y=true:=by
 obtain ⟨h1,h2⟩:=It.print_parse num_back l y h
 rw [It.right,Bool.and_eq_true,decide_eq_true_iff,decide_eq_true_iff,h1]
 exact ⟨h2,h⟩
theorem ItemLe.fits {y:It.Itm} (h:ItemLe 8 y):FitsR y:=by
 obtain ⟨h1,h2,h3,h4⟩:=h
 exact ⟨by omega,by omega,by omega,by omega⟩
theorem sheet_right (l:List UInt8):∀ y∈(Sh.parse l).1,It.right y=true:=by
 cases hb:Sh.bad (Ln.whole l) (Ln.split l) with
 | some k=>rw[Sh.parse_some hb];intro y hy;cases hy
 | none =>
   rw [Sh.parse_none hb]
   intro y hy
   obtain ⟨x,_,h⟩:=List.mem_filterMap.1 hy
   exact right_parsed h
theorem sheet_few (l:List UInt8):(Sh.parse l).1.length≤l.length+1:=by
 cases hb:Sh.bad (Ln.whole l) (Ln.split l) with
 | some k=>rw[Sh.parse_some hb];simp
 | none =>
   rw [Sh.parse_none hb]
   exact Nat.le_trans (Sh.items_le _) (Sh.split_le l).2
theorem sheet_ways (l:List UInt8):Sh.parse l=((Sh.parse l).1,0)∨∃ k,Sh.parse l=([],k+1):=by
 cases hb:Sh.bad (Ln.whole l) (Ln.split l) with
 | some k=>exact .inr ⟨k,Sh.parse_some hb⟩
 | none=>left;rw[Sh.parse_none hb]
namespace Pl
def builtP (l:List UInt8):Plan × Int × Nat:=if (Sh.parse l).2=0 then build (Sh.parse l).1 else (Plan.zero,2,(Sh.parse l).2)
end Pl
theorem row_same {α:Type} {E:Lies α} {w w':World} {A:Option Addr} {L:List α} (h:E.Row w A L) (hsz:w.heap.size≤w'.heap.size) (hk:L≠[]→∀ b o,A=some ⟨b,o,none⟩→w'.heap[b]? = w.heap[b]?):E.Row w' A L:=by
 by_cases h0:L=[]
 ·exact .inl h0
 rcases h with h | ⟨b,o,hA,hlt,h⟩
 ·exact .inl h
 ·exact .inr ⟨b,o,hA,by omega,fun k y hy j v hv=>by rw[World.cell?_of_block (hk h0 b o hA)];exact h k y hy j v hv⟩
theorem row_not {α:Type} {E:Lies α} (hE:∀ y,∃ s,(E.enc y)[0]? = some (.string s)) {w:World} {A:Option Addr} {L:List α} (h:E.Row w A L) (h0:L≠[]) {b o:Nat} (hA:A=some ⟨b,o,none⟩) {B:Nat} {cs:Array Value} {t:TypeId} (hB:w.heap[B]? = some (.cells cs t (0,0))) (hs:∀ (j:Nat) (s:ByteArray),cs[j]? ≠ some (.string s)):b≠B:=fun he=>by
 subst he
 rcases h with h | ⟨b',o',hA',hlt,h⟩
 ·exact h0 h
 ·rw [hA] at hA'
  cases hA'
  cases L with
  | nil=>exact h0 rfl
  | cons y L =>
    obtain ⟨s,hs'⟩:=hE y
    have:=h 0 y rfl 0 _ hs'
    rw [cell_of_row _ _ _ _ _ _ hB] at this
    exact hs _ s this
theorem sec_text (y:Pl.Sec):∃ s,(LSec.enc y)[0]? = some (.string s):=⟨_,rfl⟩
theorem sig_text (y:Pl.Sig):∃ s,(LSig.enc y)[0]? = some (.string s):=⟨_,rfl⟩
theorem no_text6 {a b c d:Int} {A A':Option Addr} {n n' m m':Nat} (j:Nat) (s:ByteArray):(#[Value.int .i64 a,.int .i64 b,.int .i64 c,.int .i64 d,.slice A n m,.slice A' n' m'])[j]? ≠ some (.string s):=by
 rcases j with _ | _ | _ | _ | _ | _ | j <;> simp
abbrev faultZ:Obj:=.cells #[.int .i64 0,.int .i64 0] 49
def SheetYes (L:List It.Itm) (w:World) (e:Ending) (w':World):Prop :=
 ∃ A c,L.length≤c∧e=.returned (.tuple #[.slice A L.length c,.agg #[.int .i64 0,.int .i64 0]])∧Its w' A L∧Below w.heap.size w w'
theorem sheet_yes {s:ByteArray} {L:List It.Itm} (h:Sh.parse s.data.toList=(L,0)) (hs:s.size≤1000000) (w:World):Calls Tryz.prog 19 #[.string s] w (SheetYes L w) :=
 (rsparse_any s w hs).mono fun e w' g=>by
  rw [h] at g
  exact g
open Go.RowKit
abbrev endV (x:Pl.En):Value:=.agg #[.int .i64 x.goes,.int .i64 x.at_,.int .i64 x.sig]
theorem builtP_fit {l:List UInt8} {p:Pl.Plan} (h:Pl.builtP l=(p,0,0)):Pl.Fit p∧∃ L,Pl.Ok L∧Pl.Shut L∧p=Pl.fin L:=by
 unfold Pl.builtP at h
 split at h
 ·obtain ⟨h1,h2,h3⟩:=Pl.build_zero (L:=(Sh.parse l).1) (by rw[h])
  rw [h3] at h
  obtain rfl:Pl.fin (Sh.parse l).1=p:=congrArg Prod.fst h
  exact ⟨Pl.fit_fin h1 h2,_,h1,h2,rfl⟩
 ·have:=congrArg (fun x=>x.2.1) h
  simp at this
def i64 (n:Int):Value:=.int .i64 n
def rk (N:List Pl.Nm) (i:Nat):List Int:=(Pl.ranks N).take i++List.replicate (N.length - i) 0
theorem rk_len {N:List Pl.Nm} {i:Nat} (h:i≤N.length):(rk N i).length=N.length:=by simp [rk,Pl.ranks_len];omega
theorem rk_zero (N:List Pl.Nm):rk N 0=List.replicate N.length 0:=by simp [rk]
theorem rk_all (N:List Pl.Nm):rk N N.length=Pl.ranks N:=by rw[rk,List.take_of_length_le (by rw[Pl.ranks_len];exact Nat.le_refl _)];simp
theorem rk_set {N:List Pl.Nm} {i:Nat} (h:i<N.length):(rk N i).set i (Pl.rank N N[i])=rk N (i+1):=by
 have e:N.length - i=(N.length - (i+1))+1:=by omega
 have hl:((Pl.ranks N).take i).length=i:=by simp [Pl.ranks_len];omega
 rw [rk,rk,e,List.replicate_succ,List.take_succ_eq_append_getElem (by rw[Pl.ranks_len];exact h)]
 rw [List.set_append_right _ _ (by omega),hl,Nat.sub_self,List.set_cons_zero]
 simp [Pl.ranks]
theorem rk_nought {N:List Pl.Nm} {i:Nat} (h:i<N.length):(rk N i).set i 0=rk N i:=by
 have e:N.length - i=(N.length - (i+1))+1:=by omega
 have hl:((Pl.ranks N).take i).length=i:=by simp [Pl.ranks_len];omega
 rw [rk,e,List.replicate_succ,List.set_append_right _ _ (by omega),hl,Nat.sub_self,List.set_cons_zero]
theorem rank_more {N:List Pl.Nm} {k:Nat} (h:k<N.length) (nm:Pl.Nm):Pl.rank (N.take (k+1)) nm=Pl.rank (N.take k) nm+if N[k]<nm then 1 else 0:=by
 unfold Pl.rank
 rw [List.take_succ_eq_append_getElem h,List.filter_append,List.length_append,List.filter_cons]
 by_cases hc:N[k]<nm
 ·rw[if_pos hc,if_pos (by simpa using hc)];simp
 ·rw[if_neg hc,if_neg (by simpa using hc)];simp
def zeroSec:Pl.Sec:=⟨[],false,0,zeroE,zeroE,zeroE⟩
theorem rank_le (N:List Pl.Nm) (nm:Pl.Nm):0≤Pl.rank N nm∧Pl.rank N nm≤N.length:=by
 unfold Pl.rank
 have:=List.length_filter_le (fun a=>decide (a<nm)) N
 omega
theorem wS_names (M:List It.Itm):(Pl.wS M).map (·.name)=Pl.nmS M:=by simp [Pl.wS,Pl.nmS,Pl.secG]
theorem wG_names (M:List It.Itm):(Pl.wG M).map (·.name)=Pl.nmG M:=by simp [Pl.wG,Pl.nmG,Pl.sigW]
def IntRow (t:TypeId) (w:World) (g:Nat) (X:List Int):Prop:=w.heap[g]? = some (.cells (X.map i64).toArray t (0,0))
theorem IntRow.cell {t:TypeId} {w:World} {g:Nat} {X:List Int} (h:IntRow t w g X) {j:Nat} {v:Int} (hj:X[j]? = some v):w.cell? ⟨g,j,none⟩ = some (.int .i64 v):=by
 rw [cell_of_row w g j _ t _ h];simp [hj,i64]
theorem IntRow.frozen {t:TypeId} {w:World} {g:Nat} {X:List Int} (h:IntRow t w g X) (j:Nat):w.frozen? ⟨g,j,none⟩ = false:=frozen_of_row w g j _ t h
theorem IntRow.set {t:TypeId} {w:World} {g:Nat} {X:List Int} (h:IntRow t w g X) (j:Nat) (v:Int):IntRow t (w.setCell ⟨g,j,none⟩ (.int .i64 v)) g (X.set j v):=by
 have:=heap_setCell_same w g j _ t (.int .i64 v) h
 unfold IntRow
 rw [this]
 simp [i64,List.map_set]
theorem IntRow.far {t:TypeId} {w:World} {g:Nat} {X:List Int} (h:IntRow t w g X) (p:Addr) (v:Value) (hp:g≠p.block):IntRow t (w.setCell p v) g X:=by
 unfold IntRow;rw[heap_setCell_other _ p g v hp];exact h
theorem IntRow.made (t:TypeId) (w:World) (n:Nat):IntRow t (w.alloc (.cells (madeCells #[.int .i64 0] n) t)) w.heap.size (List.replicate n 0):=by
 unfold IntRow
 rw [heap_alloc_new]
 congr 2
 apply Array.toList_inj.1
 rw [toList_madeCells_one]
 simp [i64]
def F3 (w wr:World) (a b c:Obj):Prop:=wr.heap[w.heap.size]? = some a∧wr.heap[w.heap.size+1]? = some b∧wr.heap[w.heap.size+2]? = some c∧Below w.heap.size w wr
theorem F3.set {w wr:World} {a b c:Obj} (h:F3 w wr a b c) (p:Addr) (v:Value) (hp:w.heap.size+2<p.block):F3 w (wr.setCell p v) a b c :=
 ⟨by rw[heap_setCell_other _ p _ v (by omega)];exact h.1,by rw[heap_setCell_other _ p _ v (by omega)];exact h.2.1,by rw[heap_setCell_other _ p _ v (by omega)];exact h.2.2.1,h.2.2.2.setCell (by omega) _⟩
theorem F3.alloc {w wr:World} {a b c:Obj} (h:F3 w wr a b c) (o:Obj):F3 w (wr.alloc o) a b c:=by
 have g:=(Array.getElem?_eq_some_iff.1 h.2.2.1).1
 exact ⟨by rw[heap_alloc_old _ _ (by omega)];exact h.1,by rw[heap_alloc_old _ _ (by omega)];exact h.2.1,by rw[heap_alloc_old _ _ g];exact h.2.2.1,h.2.2.2.alloc (by omega) _⟩
theorem F3.drewN {w wr:World} {a b c:Obj} (h:F3 w wr a b c) (n:Nat):F3 w (wr.drewN n) a b c:=⟨h.1,h.2.1,h.2.2.1,below_drewN h.2.2.2 n⟩
theorem IntRow.drewN {t:TypeId} {w:World} {g:Nat} {X:List Int} (h:IntRow t w g X) (n:Nat):IntRow t (w.drewN n) g X:=h
theorem IntRow.alloc {t:TypeId} {w:World} {g:Nat} {X:List Int} (h:IntRow t w g X) (o:Obj):IntRow t (w.alloc o) g X:=by
 unfold IntRow;rw[heap_alloc_old _ _ (Array.getElem?_eq_some_iff.1 h).1];exact h
def outCells (L:List It.Itm) (vS vG:Value):Array Value:=#[.int .i64 (Pl.num L 1),.int .i64 (Pl.num L 2),.int .i64 (Pl.num L 3),.int .i64 (Pl.num L 4),vS,vG]
def SecLoop (ti tS tP:TypeId) (w wr:World) (oa ob:Obj) (L:List It.Itm) (i:Nat):Prop :=
 F3 w wr oa ob (.cells (outCells L (.slice (some ⟨w.heap.size+5,0,none⟩) (Pl.wS L).length (Pl.wS L).length) (.slice none 0 0)) tP)∧IntRow ti wr (w.heap.size+1+1+1) (Pl.ranks (Pl.nmS L))∧IntRow ti wr (w.heap.size+4) (Pl.ranks (Pl.nmG L)) ∧
  ∃ X:List Pl.Sec,X.length=(Pl.wS L).length∧wr.heap[w.heap.size+5]? = some (.cells (LSec.all X).toArray tS (0,0)) ∧
    ∀ (j:Nat) (s:Pl.Sec),j<i→(Pl.wS L)[j]? = some s→X[(Pl.rank (Pl.nmS L) s.name).toNat]? = some (Pl.renSec (Pl.ranks (Pl.nmS L)) (Pl.ranks (Pl.nmG L)) s)
theorem SecLoop.start {ti tP:TypeId} {w wr:World} {oa ob oc:Obj} {L:List It.Itm} (hF:F3 w wr oa ob oc) (hr:wr.heap[w.heap.size+2]? = some (.cells (outCells L (.slice none 0 0) (.slice none 0 0)) tP (0,0))) (hz:wr.heap.size=w.heap.size+5)
 (h0:IntRow ti wr (w.heap.size+1+1+1) (Pl.ranks (Pl.nmS L))) (h1:IntRow ti wr (w.heap.size+4) (Pl.ranks (Pl.nmG L))) (tS:TypeId) :
 SecLoop ti tS tP w ((wr.setCell ⟨w.heap.size+1+1,4,none⟩ (.slice (some ⟨w.heap.size+5,0,none⟩) (Pl.wS L).length (Pl.wS L).length)).alloc (.cells (LSec.all (List.replicate (Pl.wS L).length zeroSec)).toArray tS)) oa ob L 0:=by
 have hz':(wr.setCell ⟨w.heap.size+1+1,4,none⟩ (.slice (some ⟨w.heap.size+5,0,none⟩) (Pl.wS L).length (Pl.wS L).length)).heap.size=w.heap.size+5:=by simpa using hz
 have hA:F3 w (wr.setCell ⟨w.heap.size+1+1,4,none⟩ (.slice (some ⟨w.heap.size+5,0,none⟩) (Pl.wS L).length (Pl.wS L).length)) oa ob (.cells (outCells L (.slice (some ⟨w.heap.size+5,0,none⟩) (Pl.wS L).length (Pl.wS L).length) (.slice none 0 0)) tP) :=
  ⟨by rw[heap_setCell_other _ _ _ _ (by simp only;omega)];exact hF.1,by rw[heap_setCell_other _ _ _ _ (by simp only;omega)];exact hF.2.1,heap_setCell_same _ _ _ _ _ _ hr,hF.2.2.2.setCell (by simp only;omega) _⟩
 refine ⟨hA.alloc _,(h0.far _ _ (by simp only;omega)).alloc _,(h1.far _ _ (by simp only;omega)).alloc _,List.replicate (Pl.wS L).length zeroSec,by simp,?_,fun j s hj=>absurd hj (Nat.not_lt_zero j)⟩
 have:=heap_alloc_new (wr.setCell ⟨w.heap.size+1+1,4,none⟩ (.slice (some ⟨w.heap.size+5,0,none⟩) (Pl.wS L).length (Pl.wS L).length)) (.cells (LSec.all (List.replicate (Pl.wS L).length zeroSec)).toArray tS)
 rw [hz'] at this;exact this
theorem SecLoop.far {ti tS tP:TypeId} {w wr:World} {oa ob:Obj} {L:List It.Itm} {i:Nat} (h:SecLoop ti tS tP w wr oa ob L i) (p:Addr) (v:Value) (hp:w.heap.size+5<p.block):SecLoop ti tS tP w (wr.setCell p v) oa ob L i:=by
 obtain ⟨h1,h2,h3,X,h4,h5,h6⟩:=h
 exact ⟨h1.set _ _ (by omega),h2.far _ _ (by omega),h3.far _ _ (by omega),X,h4,by rw[heap_setCell_other _ _ _ _ (by omega)];exact h5,h6⟩
theorem SecLoop.alloc {ti tS tP:TypeId} {w wr:World} {oa ob:Obj} {L:List It.Itm} {i:Nat} (h:SecLoop ti tS tP w wr oa ob L i) (o:Obj):SecLoop ti tS tP w (wr.alloc o) oa ob L i:=by
 obtain ⟨h1,h2,h3,X,h4,h5,h6⟩:=h
 exact ⟨h1.alloc _,h2.alloc _,h3.alloc _,X,h4,by rw[heap_alloc_old _ _ (Array.getElem?_eq_some_iff.1 h5).1];exact h5,h6⟩
theorem SecLoop.size {ti tS tP:TypeId} {w wr:World} {oa ob:Obj} {L:List It.Itm} {i:Nat} (h:SecLoop ti tS tP w wr oa ob L i):w.heap.size+5<wr.heap.size:=by
 obtain ⟨h1,h2,h3,X,h4,h5,h6⟩:=h
 exact (Array.getElem?_eq_some_iff.1 h5).1
theorem SecLoop.drew {ti tS tP:TypeId} {w wr:World} {oa ob:Obj} {L:List It.Itm} {i:Nat} (h:SecLoop ti tS tP w wr oa ob L i):SecLoop ti tS tP w wr.drew oa ob L i:=by
 obtain ⟨h1,h2,h3,X,h4,h5,h6⟩:=h
 exact ⟨⟨h1.1,h1.2.1,h1.2.2.1,h1.2.2.2.drew⟩,h2,h3,X,h4,h5,h6⟩
theorem SecLoop.next {ti tS tP:TypeId} {w wr:World} {oa ob:Obj} {L:List It.Itm} {i:Nat} {s t:Pl.Sec} {r:Nat} (hM:Pl.Ok L) (hs:(Pl.wS L)[i]? = some s) (hr:Pl.rank (Pl.nmS L) s.name=r) (h:SecLoop ti tS tP w wr oa ob L i)
 (ht:t=Pl.renSec (Pl.ranks (Pl.nmS L)) (Pl.ranks (Pl.nmG L)) s):SecLoop ti tS tP w (setCells wr (w.heap.size+5) (r * 12) (secCells t)) oa ob L (i+1):=by
 obtain ⟨h1,h2,h3,X,h4,h5,h6⟩:=h
 have hlt:∀ b∈Pl.wS L,(Pl.rank (Pl.nmS L) b.name).toNat<(Pl.wS L).length:=fun b hb=>by
  obtain ⟨j,hj,rfl⟩:=List.getElem_of_mem hb
  have:=Pl.rank_lt (Pl.wS_name_mem (List.getElem?_eq_getElem hj))
  have:=Pl.rank_nonneg (Pl.nmS L) (Pl.wS L)[j].name
  have:=Pl.nmS_len L
  omega
 have hrl:r<X.length:=by
  have:=hlt s (List.mem_of_getElem? hs)
  rw [hr,Int.toNat_natCast] at this
  omega
 have o:=fun (b:Nat) (hb:b≠w.heap.size+5)=>setCells_other (w.heap.size+5) b hb (secCells t) (r * 12) wr
 have hn:((Pl.wS L).map Pl.Sec.name).Nodup:=by rw[wS_names];exact hM.names
 refine ⟨⟨(o _ (by omega)).trans h1.1,(o _ (by omega)).trans h1.2.1,(o _ (by omega)).trans h1.2.2.1,setCells_below (by omega) _ _ _ h1.2.2.2⟩,(o _ (by omega)).trans h2,(o _ (by omega)).trans h3,X.set r t,by rw[List.length_set];exact h4,setCells_elem LSec h5 hrl t,?_⟩
 have:=Pl.told_more (L:=Pl.wS L) (n:=(Pl.wS L).length) (fun b=>(Pl.rank (Pl.nmS L) b.name).toNat) (Pl.renSec (Pl.ranks (Pl.nmS L)) (Pl.ranks (Pl.nmG L))) (X:=X) hs hlt h4 (fun j b hj hb=>?_) h6
 ·simp only [hr,Int.toNat_natCast] at this
  rw [ht];exact this
 ·have:=Pl.names_apart Pl.Sec.name hn hs hb hj
  rw [wS_names] at this
  have:=Pl.rank_nonneg (Pl.nmS L) s.name
  have:=Pl.rank_nonneg (Pl.nmS L) b.name
  omega
def zeroSig:Pl.Sig:=⟨[],0,0⟩
def SigLoop (ti tS tG tP:TypeId) (w wr:World) (oa ob:Obj) (g:Nat) (L:List It.Itm) (i:Nat):Prop :=
 w.heap.size+5<g∧F3 w wr oa ob (.cells (outCells L (.slice (some ⟨w.heap.size+5,0,none⟩) (Pl.wS L).length (Pl.wS L).length) (.slice (some ⟨g,0,none⟩) (Pl.wG L).length (Pl.wG L).length)) tP)∧IntRow ti wr (w.heap.size+1+1+1) (Pl.ranks (Pl.nmS L))∧IntRow ti wr (w.heap.size+4) (Pl.ranks (Pl.nmG L)) ∧
  wr.heap[w.heap.size+5]? = some (.cells (LSec.all (Pl.fin L).secs).toArray tS (0,0)) ∧
  ∃ X:List Pl.Sig,X.length=(Pl.wG L).length∧wr.heap[g]? = some (.cells (LSig.all X).toArray tG (0,0)) ∧
    ∀ (j:Nat) (s:Pl.Sig),j<i→(Pl.wG L)[j]? = some s→X[(Pl.rank (Pl.nmG L) s.name).toNat]? = some (Pl.renSig (Pl.ranks (Pl.nmS L)) s)
theorem SigLoop.start {ti tS tP:TypeId} {w wr:World} {oa ob:Obj} {L:List It.Itm} (hF:F3 w wr oa ob (.cells (outCells L (.slice (some ⟨w.heap.size+5,0,none⟩) (Pl.wS L).length (Pl.wS L).length) (.slice none 0 0)) tP))
 (h0:IntRow ti wr (w.heap.size+1+1+1) (Pl.ranks (Pl.nmS L))) (h1:IntRow ti wr (w.heap.size+4) (Pl.ranks (Pl.nmG L))) (hS:wr.heap[w.heap.size+5]? = some (.cells (LSec.all (Pl.fin L).secs).toArray tS (0,0))) (tG:TypeId) :
 SigLoop ti tS tG tP w ((wr.setCell ⟨w.heap.size+1+1,5,none⟩ (.slice (some ⟨wr.heap.size,0,none⟩) (Pl.wG L).length (Pl.wG L).length)).alloc (.cells (LSig.all (List.replicate (Pl.wG L).length zeroSig)).toArray tG)) oa ob wr.heap.size L 0:=by
 have hz':(wr.setCell ⟨w.heap.size+1+1,5,none⟩ (.slice (some ⟨wr.heap.size,0,none⟩) (Pl.wG L).length (Pl.wG L).length)).heap.size=wr.heap.size:=by simp
 have hg5:=(Array.getElem?_eq_some_iff.1 hS).1
 have hA:F3 w (wr.setCell ⟨w.heap.size+1+1,5,none⟩ (.slice (some ⟨wr.heap.size,0,none⟩) (Pl.wG L).length (Pl.wG L).length)) oa ob (.cells (outCells L (.slice (some ⟨w.heap.size+5,0,none⟩) (Pl.wS L).length (Pl.wS L).length) (.slice (some ⟨wr.heap.size,0,none⟩) (Pl.wG L).length (Pl.wG L).length)) tP) :=
  ⟨by rw[heap_setCell_other _ _ _ _ (by simp only;omega)];exact hF.1,by rw[heap_setCell_other _ _ _ _ (by simp only;omega)];exact hF.2.1,heap_setCell_same _ _ _ _ _ _ hF.2.2.1,hF.2.2.2.setCell (by simp only;omega) _⟩
 refine ⟨hg5,hA.alloc _,(h0.far _ _ (by simp only;omega)).alloc _,(h1.far _ _ (by simp only;omega)).alloc _,?_,List.replicate (Pl.wG L).length zeroSig,by simp,?_,fun j s hj=>absurd hj (Nat.not_lt_zero j)⟩
 ·rw[heap_alloc_old _ _ (by simpa using hg5),heap_setCell_other _ _ _ _ (by simp only;omega)];exact hS
 ·have:=heap_alloc_new (wr.setCell ⟨w.heap.size+1+1,5,none⟩ (.slice (some ⟨wr.heap.size,0,none⟩) (Pl.wG L).length (Pl.wG L).length)) (.cells (LSig.all (List.replicate (Pl.wG L).length zeroSig)).toArray tG)
  rw [hz'] at this;exact this
theorem SigLoop.far {ti tS tG tP:TypeId} {w wr:World} {oa ob:Obj} {g:Nat} {L:List It.Itm} {i:Nat} (h:SigLoop ti tS tG tP w wr oa ob g L i) (p:Addr) (v:Value) (hp:g<p.block):SigLoop ti tS tG tP w (wr.setCell p v) oa ob g L i:=by
 obtain ⟨h0,h1,h2,h3,hS,X,h4,h5,h6⟩:=h
 exact ⟨h0,h1.set _ _ (by omega),h2.far _ _ (by omega),h3.far _ _ (by omega),by rw[heap_setCell_other _ _ _ _ (by omega)];exact hS,X,h4,by rw[heap_setCell_other _ _ _ _ (by omega)];exact h5,h6⟩
theorem SigLoop.alloc {ti tS tG tP:TypeId} {w wr:World} {oa ob:Obj} {g:Nat} {L:List It.Itm} {i:Nat} (h:SigLoop ti tS tG tP w wr oa ob g L i) (o:Obj):SigLoop ti tS tG tP w (wr.alloc o) oa ob g L i:=by
 obtain ⟨h0,h1,h2,h3,hS,X,h4,h5,h6⟩:=h
 exact ⟨h0,h1.alloc _,h2.alloc _,h3.alloc _,by rw[heap_alloc_old _ _ (Array.getElem?_eq_some_iff.1 hS).1];exact hS,X,h4,by rw[heap_alloc_old _ _ (Array.getElem?_eq_some_iff.1 h5).1];exact h5,h6⟩
theorem SigLoop.drew {ti tS tG tP:TypeId} {w wr:World} {oa ob:Obj} {g:Nat} {L:List It.Itm} {i:Nat} (h:SigLoop ti tS tG tP w wr oa ob g L i):SigLoop ti tS tG tP w wr.drew oa ob g L i:=by
 obtain ⟨h0,h1,h2,h3,hS,X,h4,h5,h6⟩:=h
 exact ⟨h0,⟨h1.1,h1.2.1,h1.2.2.1,h1.2.2.2.drew⟩,h2,h3,hS,X,h4,h5,h6⟩
theorem SigLoop.next {ti tS tG tP:TypeId} {w wr:World} {oa ob:Obj} {g:Nat} {L:List It.Itm} {i:Nat} {s t:Pl.Sig} {r:Nat} (hM:Pl.Ok L) (hs:(Pl.wG L)[i]? = some s) (hr:Pl.rank (Pl.nmG L) s.name=r) (h:SigLoop ti tS tG tP w wr oa ob g L i)
 (ht:t=Pl.renSig (Pl.ranks (Pl.nmS L)) s):SigLoop ti tS tG tP w (setCells wr g (r * 3) (sigCells t)) oa ob g L (i+1):=by
 obtain ⟨h0,h1,h2,h3,hS,X,h4,h5,h6⟩:=h
 have hlt:∀ b∈Pl.wG L,(Pl.rank (Pl.nmG L) b.name).toNat<(Pl.wG L).length:=fun b hb=>by
  obtain ⟨j,hj,rfl⟩:=List.getElem_of_mem hb
  have:=Pl.rank_lt (Pl.wG_name_mem (List.getElem?_eq_getElem hj))
  have:=Pl.rank_nonneg (Pl.nmG L) (Pl.wG L)[j].name
  have:=Pl.nmG_len L
  omega
 have hrl:r<X.length:=by
  have:=hlt s (List.mem_of_getElem? hs)
  rw [hr,Int.toNat_natCast] at this
  omega
 have o:=fun (b:Nat) (hb:b≠g)=>setCells_other g b hb (sigCells t) (r * 3) wr
 have hn:((Pl.wG L).map Pl.Sig.name).Nodup:=by rw[wG_names];exact hM.gnames
 refine ⟨h0,⟨(o _ (by omega)).trans h1.1,(o _ (by omega)).trans h1.2.1,(o _ (by omega)).trans h1.2.2.1,setCells_below (by omega) _ _ _ h1.2.2.2⟩,(o _ (by omega)).trans h2,(o _ (by omega)).trans h3,(o _ (by omega)).trans hS,X.set r t,by rw[List.length_set];exact h4,setCells_elem LSig h5 hrl t,?_⟩
 have:=Pl.told_more (L:=Pl.wG L) (n:=(Pl.wG L).length) (fun b=>(Pl.rank (Pl.nmG L) b.name).toNat) (Pl.renSig (Pl.ranks (Pl.nmS L))) (X:=X) hs hlt h4 (fun j b hj hb=>?_) h6
 ·simp only [hr,Int.toNat_natCast] at this
  rw [ht];exact this
 ·have:=Pl.names_apart Pl.Sig.name hn hs hb hj
  rw [wG_names] at this
  have:=Pl.rank_nonneg (Pl.nmG L) s.name
  have:=Pl.rank_nonneg (Pl.nmG L) b.name
  omega
theorem PlanAgg.of {L:List It.Itm} {w w':World} {e:Ending} {g g2:Nat} {tS tG:TypeId} (h1:w'.heap[g]? = some (.cells (LSec.all (Pl.fin L).secs).toArray tS (0,0))) (h2:w'.heap[g2]? = some (.cells (LSig.all (Pl.fin L).sigs).toArray tG (0,0))) (hg:w.heap.size≤g) (hg2:w.heap.size≤g2) (hb:Below w.heap.size w w')
 (he:e=.returned (.agg #[.int .i64 (Pl.num L 1),.int .i64 (Pl.num L 2),.int .i64 (Pl.num L 3),.int .i64 (Pl.num L 4),.slice (some ⟨g,0,none⟩) (Pl.wS L).length (Pl.wS L).length,.slice (some ⟨g2,0,none⟩) (Pl.wG L).length (Pl.wG L).length])):PlanAgg (Pl.fin L) w e w' :=
 ⟨some ⟨g,0,none⟩,(Pl.wS L).length,some ⟨g2,0,none⟩,(Pl.wG L).length,by rw[Pl.fin_secs_len];exact Nat.le_refl _,by rw[Pl.fin_sigs_len];exact Nat.le_refl _,by rw[he,Pl.fin_secs_len,Pl.fin_sigs_len];rfl,row_made h1,row_made h2,fun a ha=>by cases ha;exact hg,fun a ha=>by cases ha;exact hg2,hb⟩
theorem rpSorted_any : SortedOk:=by
 intro L w A A' c c' hO hS hG
 have HO:=Lib.hid hO
 have HS:=Lib.hid hS
 have HG:=Lib.hid hG
 have lS:(Pl.wS L).length≤24:=by rw[Pl.wS_len];exact hO.few
 have lG:(Pl.wG L).length≤12:=by rw[Pl.wG_len];exact hO.gfew
 have NL:=Lib.hid (show (Pl.nmS L).length=(Pl.wS L).length by rw[← wS_names,List.length_map])
 have hmk:=run_make_row' (P:=Tryz.prog) 64 3 (.int .i64 0) 8 Tryz.underlying64 (by kernel_rfl) rfl .i64 .i64 (Pl.wS L).length (by omega) (by omega)
 clear hO hS hG
 generalize hoa:(Obj.cells #[.int .i64 (Pl.num L 1),.int .i64 (Pl.num L 2),.int .i64 (Pl.num L 3),.int .i64 (Pl.num L 4),.slice A (Pl.wS L).length c,.slice A' (Pl.wG L).length c'] 25)=oa
 generalize hob:(Obj.cells #[.int .i64 0,.int .i64 0,.int .i64 0,.int .i64 0,.slice none 0 0,.slice none 0 0] 25)=ob
 generalize hoc:(Obj.cells #[.int .i64 (Pl.num L 1),.int .i64 (Pl.num L 2),.int .i64 (Pl.num L 3),.int .i64 (Pl.num L 4),.slice none 0 0,.slice none 0 0] 25)=oc
 have HA:=Lib.hid hoa
 have HB:=Lib.hid hob
 have HC:=Lib.hid hoc
 clear hoa hob hoc
 go_enter Tryz.func46,Tryz.ntmps46
 go_wp2_with fail
 clear hmk
 go_loopw [5] (fun v wr=>∃ i:Nat,i≤(Pl.wS L).length∧v=.int .i64 i∧F3 w wr oa ob oc∧wr.heap.size=w.heap.size+4∧IntRow 3 wr (w.heap.size+1+1+1) (rk (Pl.nmS L) i)) (fun v _=>(Pl.wS L).length - (intOf v).toNat)
 case atStart =>
  refine ⟨0,Nat.zero_le _,rfl,?_,by simp,?_⟩
  ·rw [← HA.out,← HB.out,← HC.out]
   have T:=three_allocs w (Obj.cells #[.int .i64 (Pl.num L 1),.int .i64 (Pl.num L 2),.int .i64 (Pl.num L 3),.int .i64 (Pl.num L 4),.slice A (Pl.wS L).length c,.slice A' (Pl.wG L).length c'] 25) (Obj.cells #[.int .i64 0,.int .i64 0,.int .i64 0,.int .i64 0,.slice none 0 0,.slice none 0 0] 25) (Obj.cells #[.int .i64 (Pl.num L 1),.int .i64 (Pl.num L 2),.int .i64 (Pl.num L 3),.int .i64 (Pl.num L 4),.slice none 0 0,.slice none 0 0] 25)
   exact F3.alloc ⟨T.1,T.2.1,T.2.2.1,T.2.2.2⟩ _
  ·rw [rk_zero,NL.out]
   have:=IntRow.made 3 (((w.alloc (Obj.cells #[.int .i64 (Pl.num L 1),.int .i64 (Pl.num L 2),.int .i64 (Pl.num L 3),.int .i64 (Pl.num L 4),.slice A (Pl.wS L).length c,.slice A' (Pl.wG L).length c'] 25)).alloc (Obj.cells #[.int .i64 0,.int .i64 0,.int .i64 0,.int .i64 0,.slice none 0 0,.slice none 0 0] 25)).alloc (Obj.cells #[.int .i64 (Pl.num L 1),.int .i64 (Pl.num L 2),.int .i64 (Pl.num L 3),.int .i64 (Pl.num L 4),.slice none 0 0,.slice none 0 0] 25)) (Pl.wS L).length
   have e:∀ a b c:Obj,(((w.alloc a).alloc b).alloc c).heap.size=w.heap.size+1+1+1:=fun a b c=>by simp
   rwa [e] at this
 case round =>
  obtain ⟨i,hi,rfl,hF,hsz,hX⟩:=hrel
  by_cases hlt:i<(Pl.wS L).length
  ·have HF:=Lib.hid hF
   have HX:=Lib.hid hX
   clear hF hX
   have HN:=Lib.hid (show (Pl.nmS L)[i]? = some (Pl.wS L)[i].name by rw[← wS_names];simp [hlt])
   go_wp2_with fail
   go_loopw [6] (fun v wr=>∃ k:Nat,k≤(Pl.wS L).length∧v=.int .i64 k∧F3 w wr oa ob oc∧wr.heap.size=w.heap.size+4∧IntRow 3 wr (w.heap.size+1+1+1) ((rk (Pl.nmS L) i).set i (Pl.rank ((Pl.nmS L).take k) (Pl.wS L)[i].name))) (fun v _=>(Pl.wS L).length - (intOf v).toNat)
   case atStart =>
    refine ⟨0,Nat.zero_le _,rfl,HF.out,hsz,?_⟩
    have e:Pl.rank ((Pl.nmS L).take 0) (Pl.wS L)[i].name=0:=by simp [Pl.rank]
    rw [e,rk_nought (by rw[NL.out];exact hlt)];exact HX.out
   case round =>
    clear HF HX hsz
    obtain ⟨k,hk,rfl,hF,hsz,hX⟩:=hrel
    by_cases hlk:k<(Pl.wS L).length
    ·obtain ⟨b,o,rfl,hb,on⟩:=(HS.out.below rfl hF.2.2.2).at hlk
     obtain ⟨b',o',hAe,hb',on'⟩:=(HS.out.below rfl hF.2.2.2).at hlt
     obtain ⟨rfl,rfl⟩:b'=b∧o'=o:=by cases hAe;exact ⟨rfl,rfl⟩
     clear hAe hb'
     have a0:=(sec_on on).1
     have a1:=(sec_on on').1
     clear on on'
     rw [show k * LSec.m=k * 12 from rfl] at a0
     rw [show i * LSec.m=i * 12 from rfl] at a1
     have hpr:=hF.1
     rw [← HA.out] at hpr
     obtain ⟨⟨-,-,-,-,p4,-⟩,-,-⟩:=row6 hpr
     have hNk:(Pl.nmS L)[k]'(by rw[NL.out];exact hlk)=(Pl.wS L)[k].name:=by
      have:(Pl.nmS L)[k]? = some (Pl.wS L)[k].name:=by rw[← wS_names];simp [hlk]
      exact Option.some.inj ((List.getElem?_eq_getElem _).symm.trans this)
     have hmore:=rank_more (N:=Pl.nmS L) (k:=k) (by rw[NL.out];exact hlk) (Pl.wS L)[i].name
     rw [hNk] at hmore
     have hle:=rank_le ((Pl.nmS L).take k) (Pl.wS L)[i].name
     have htl:((Pl.nmS L).take k).length≤24:=by rw[List.length_take,NL.out];omega
     have hl':i<(rk (Pl.nmS L) i).length:=by rw[rk_len (by rw[NL.out];exact hi),NL.out];exact hlt
     generalize Pl.rank ((Pl.nmS L).take k) (Pl.wS L)[i].name=v at hX hmore hle
     have x0:=hX.cell (j:=i) (v:=v) (by simp [hl'])
     have f0:=hX.frozen i
     have hc0:=str_lt (Pl.wS L)[k].name (Pl.wS L)[i].name
     by_cases hc:(Pl.wS L)[k].name<(Pl.wS L)[i].name
     ·rw [decide_eq_true hc] at hc0
      rw [if_pos hc] at hmore
      have HF:=Lib.hid hF
      have HX:=Lib.hid hX
      have HM:=Lib.hid hmore
      have hadd:v+1≤25:=by omega
      clear hF hX hpr hmore hNk hl' hc
      go_wp2_with fail
      go_quiet (fail)
      go_wp2_with fail
      go_roundw
      case rel=>exact ⟨k+1,by omega,by go_num,F3.set (HF.out.drewN _) _ _ (by simp only;omega),by simpa using hsz,by rw[HM.out];have:=(HX.out.drewN nq).set i (v+1);rw[List.set_set] at this;exact this⟩
      case measure=>simp [intOf];omega
     ·rw [decide_eq_false hc] at hc0
      rw [if_neg hc,Int.add_zero] at hmore
      have HF:=Lib.hid hF
      have HX:=Lib.hid hX
      have HM:=Lib.hid hmore
      clear hF hX hpr hmore hNk hl' hc
      go_wp2_with fail
      go_quiet (fail)
      go_wp2_with fail
      go_roundw
      case rel=>exact ⟨k+1,by omega,by go_num,HF.out.drewN _,by simpa using hsz,by rw[HM.out];exact HX.out⟩
      case measure=>simp [intOf];omega
    ·obtain rfl:k=(Pl.wS L).length:=by omega
     have HF:=Lib.hid hF
     have HX':=Lib.hid (show IntRow 3 _ (w.heap.size+1+1+1) (rk (Pl.nmS L) (i+1)) from by
      have hN:(Pl.nmS L)[i]'(by rw[NL.out];exact hlt)=(Pl.wS L)[i].name:=Option.some.inj ((List.getElem?_eq_getElem _).symm.trans HN.out)
      rw [← NL.out,List.take_of_length_le (Nat.le_refl _),← hN,rk_set] at hX
      exact hX)
     clear hF hX
     go_wp2_with fail
     go_roundw
     case rel=>exact ⟨i+1,by omega,by go_num,HF.out,hsz,HX'.out⟩
     case measure=>simp [intOf];omega
  ·obtain rfl : i = (Pl.wS L).length:=by omega
   have HX:=Lib.hid (show IntRow 3 _ (w.heap.size+1+1+1) (Pl.ranks (Pl.nmS L)) from by
    rw [← NL.out,rk_all] at hX;exact hX)
   have HF:=Lib.hid hF
   have hmk:=run_make_row' (P:=Tryz.prog) 64 3 (.int .i64 0) 8 Tryz.underlying64 (by kernel_rfl) rfl .i64 .i64 (Pl.wG L).length (by omega) (by omega)
   have hpr:=hF.1
   rw [← HA.out] at hpr
   obtain ⟨⟨-,-,-,-,-,p5⟩,-,-⟩:=row6 hpr
   clear hF hX hpr
   go_wp2_with fail
   clear hmk
   have NG:=Lib.hid (show (Pl.nmG L).length=(Pl.wG L).length by rw[← wG_names,List.length_map])
   go_loopw [8] (fun v wr=>∃ i:Nat,i≤(Pl.wG L).length∧v=.int .i64 i∧F3 w wr oa ob oc∧wr.heap.size=w.heap.size+5∧IntRow 3 wr (w.heap.size+1+1+1) (Pl.ranks (Pl.nmS L))∧IntRow 3 wr (w.heap.size+4) (rk (Pl.nmG L) i)) (fun v _=>(Pl.wG L).length - (intOf v).toNat)
   case atStart =>
    refine ⟨0,Nat.zero_le _,rfl,HF.out.alloc _,by simp [hsz],HX.out.alloc _,?_⟩
    rw [rk_zero,NG.out,← hsz]
    exact IntRow.made _ _ _
   case round =>
    clear HF HX hsz p5
    obtain ⟨i,hi,rfl,hF,hsz,hX0,hX⟩:=hrel
    by_cases hlt:i<(Pl.wG L).length
    ·have HF:=Lib.hid hF
     have HX:=Lib.hid hX
     have HX0:=Lib.hid hX0
     clear hF hX hX0
     have HN:=Lib.hid (show (Pl.nmG L)[i]? = some (Pl.wG L)[i].name by rw[← wG_names];simp [hlt])
     go_wp2_with fail
     go_loopw [9] (fun v wr=>∃ k:Nat,k≤(Pl.wG L).length∧v=.int .i64 k∧F3 w wr oa ob oc∧wr.heap.size=w.heap.size+5∧IntRow 3 wr (w.heap.size+1+1+1) (Pl.ranks (Pl.nmS L))∧IntRow 3 wr (w.heap.size+4) ((rk (Pl.nmG L) i).set i (Pl.rank ((Pl.nmG L).take k) (Pl.wG L)[i].name))) (fun v _=>(Pl.wG L).length - (intOf v).toNat)
     case atStart =>
      refine ⟨0,Nat.zero_le _,rfl,HF.out,hsz,HX0.out,?_⟩
      have e:Pl.rank ((Pl.nmG L).take 0) (Pl.wG L)[i].name=0:=by simp [Pl.rank]
      rw [e,rk_nought (by rw[NG.out];exact hlt)];exact HX.out
     case round =>
      clear HF HX HX0 hsz
      obtain ⟨k,hk,rfl,hF,hsz,hX0,hX⟩:=hrel
      by_cases hlk:k<(Pl.wG L).length
      ·obtain ⟨b,o,rfl,hb,on⟩:=(HG.out.below rfl hF.2.2.2).at hlk
       obtain ⟨b',o',hAe,hb',on'⟩:=(HG.out.below rfl hF.2.2.2).at hlt
       obtain ⟨rfl,rfl⟩:b'=b∧o'=o:=by cases hAe;exact ⟨rfl,rfl⟩
       clear hAe hb'
       have a0:=(sig_on on).1
       have a1:=(sig_on on').1
       clear on on'
       rw [show k * LSig.m=k * 3 from rfl] at a0
       rw [show i * LSig.m=i * 3 from rfl] at a1
       have hpr:=hF.1
       rw [← HA.out] at hpr
       obtain ⟨⟨-,-,-,-,-,p5⟩,-,-⟩:=row6 hpr
       have hNk:(Pl.nmG L)[k]'(by rw[NG.out];exact hlk)=(Pl.wG L)[k].name:=by
        have:(Pl.nmG L)[k]? = some (Pl.wG L)[k].name:=by rw[← wG_names];simp [hlk]
        exact Option.some.inj ((List.getElem?_eq_getElem _).symm.trans this)
       have hmore:=rank_more (N:=Pl.nmG L) (k:=k) (by rw[NG.out];exact hlk) (Pl.wG L)[i].name
       rw [hNk] at hmore
       have hle:=rank_le ((Pl.nmG L).take k) (Pl.wG L)[i].name
       have htl:((Pl.nmG L).take k).length≤24:=by rw[List.length_take,NG.out];omega
       have hl':i<(rk (Pl.nmG L) i).length:=by rw[rk_len (by rw[NG.out];exact hi),NG.out];exact hlt
       generalize Pl.rank ((Pl.nmG L).take k) (Pl.wG L)[i].name=v at hX hmore hle
       have x0:=hX.cell (j:=i) (v:=v) (by simp [hl'])
       have f0:=hX.frozen i
       have hc0:=str_lt (Pl.wG L)[k].name (Pl.wG L)[i].name
       have HX0:=Lib.hid hX0
       clear hX0
       by_cases hc:(Pl.wG L)[k].name<(Pl.wG L)[i].name
       ·rw [decide_eq_true hc] at hc0
        rw [if_pos hc] at hmore
        have HF:=Lib.hid hF
        have HX:=Lib.hid hX
        have HM:=Lib.hid hmore
        have hadd:v+1≤25:=by omega
        clear hF hX hpr hmore hNk hl' hc
        go_wp2_with fail
        go_quiet (fail)
        go_wp2_with fail
        go_roundw
        case rel=>exact ⟨k+1,by omega,by go_num,F3.set (HF.out.drewN _) _ _ (by simp only;omega),by simpa using hsz,IntRow.far (HX0.out.drewN nq) _ _ (by simp only;omega),by rw[HM.out];have:=(HX.out.drewN nq).set i (v+1);rw[List.set_set] at this;exact this⟩
        case measure=>simp [intOf];omega
       ·rw [decide_eq_false hc] at hc0
        rw [if_neg hc,Int.add_zero] at hmore
        have HF:=Lib.hid hF
        have HX:=Lib.hid hX
        have HM:=Lib.hid hmore
        clear hF hX hpr hmore hNk hl' hc
        go_wp2_with fail
        go_quiet (fail)
        go_wp2_with fail
        go_roundw
        case rel=>exact ⟨k+1,by omega,by go_num,HF.out.drewN _,by simpa using hsz,HX0.out,by rw[HM.out];exact HX.out⟩
        case measure=>simp [intOf];omega
      ·obtain rfl:k=(Pl.wG L).length:=by omega
       have HF:=Lib.hid hF
       have HX0:=Lib.hid hX0
       have HX':=Lib.hid (show IntRow 3 _ (w.heap.size+4) (rk (Pl.nmG L) (i+1)) from by
        have hN:(Pl.nmG L)[i]'(by rw[NG.out];exact hlt)=(Pl.wG L)[i].name:=Option.some.inj ((List.getElem?_eq_getElem _).symm.trans HN.out)
        rw [← NG.out,List.take_of_length_le (Nat.le_refl _),← hN,rk_set] at hX
        exact hX)
       clear hF hX hX0
       go_wp2_with fail
       go_roundw
       case rel=>exact ⟨i+1,by omega,by go_num,HF.out,hsz,HX0.out,HX'.out⟩
       case measure=>simp [intOf];omega
    ·obtain rfl : i=(Pl.wG L).length:=by omega
     have HX:=Lib.hid (show IntRow 3 _ (w.heap.size+4) (Pl.ranks (Pl.nmG L)) from by
      rw [← NG.out,rk_all] at hX;exact hX)
     have HX0:=Lib.hid hX0
     have HF:=Lib.hid hF
     have hmk:=run_make_k LSec zeroSec (P:=Tryz.prog) 22 59 _ 104 Tryz.underlying22 infoSec rfl .i64 .i64 (Pl.wS L).length (by omega) (by omega)
     have hoc:=hF.2.2.1
     rw [← HC.out] at hoc
     have c4:wr.cell? ⟨w.heap.size+1+1,4,none⟩ = some (.slice none 0 0):=(row6 hoc).1.2.2.2.2.1
     have f4:wr.frozen? ⟨w.heap.size+1+1,4,none⟩ = false:=(row6 hoc).2.1.2.2.2.2.1
     have go2:w.heap.size+1+1<wr.heap.size:=(row6 hoc).2.2
     have FR:=Lib.hid hoc
     clear hF hX hX0 hoc
     go_wp2_with fail
     clear hmk
     have SL0:=Lib.hid (SecLoop.start HF.out FR.out hsz HX0.out HX.out 59)
     go_loopw [10] (fun v wr=>∃ i:Nat,i≤(Pl.wS L).length∧v=.int .i64 i∧SecLoop 3 59 25 w wr oa ob L i) (fun v _=>(Pl.wS L).length - (intOf v).toNat)
     case atStart=>exact ⟨0,Nat.zero_le _,rfl,SL0.out⟩
     case round =>
      clear HF HX HX0 hsz c4 f4 go2 FR SL0
      obtain ⟨i,hi,rfl,hSL⟩:=hrel
      by_cases hlt:i<(Pl.wS L).length
      ·obtain ⟨b,o,rfl,hb,on⟩:=(HS.out.below rfl hSL.1.2.2.2).at hlt
       obtain ⟨a0,a1,a2,a3,a4,a5,a6,a7,a8,a9,a10,a11⟩:=sec_on on
       rw [show i * LSec.m=i * 12 from rfl] at a0 a1 a2 a3 a4 a5 a6 a7 a8 a9 a10 a11
       have hpr:=hSL.1.1
       rw [← HA.out] at hpr
       obtain ⟨⟨-,-,-,-,p4,-⟩,-,-⟩:=row6 hpr
       have HSL:=Lib.hid hSL
       have HU:=Lib.hid (Pl.Upto.zero (Pl.ranks (Pl.nmS L)) (Pl.ranks (Pl.nmG L)) (Pl.wS L)[i])
       have HSI:=Lib.hid (List.getElem?_eq_getElem hlt)
       generalize hsi:(Pl.wS L)[i]=si at a0 a1 a2 a3 a4 a5 a6 a7 a8 a9 a10 a11 HU HSI
       clear on hSL hpr hsi
       go_wp2_with fail
       clear a0 a1 a2 a3 a4 a5 a6 a7 a8 a9 a10 a11
       have HG0:=Lib.hid (show (wr.alloc (.cells (secCells si).toArray 59)).heap[wr.heap.size]? = some (.cells (secCells si).toArray 59 (0,0)) from heap_alloc_new _ _)
       have HS0:=Lib.hid (HSL.out.alloc (.cells (secCells si).toArray 59))
       have hgz:=HSL.out.size
       generalize wr.heap.size=g at HG0 hgz ⊢
       go_loopw [12] (fun v wr=>∃ e:Nat,e≤3∧v=.int .i64 e∧SecLoop 3 59 25 w wr oa ob L i∧∃ t,Pl.Upto (Pl.ranks (Pl.nmS L)) (Pl.ranks (Pl.nmG L)) e si t∧wr.heap[g]? = some (.cells (secCells t).toArray 59 (0,0))) (fun v _=>3 - (intOf v).toNat)
       case atStart=>exact ⟨0,by omega,rfl,HS0.out,si,HU.out,HG0.out⟩
       case round =>
        clear HSL HU HG0 HS0 p4
        obtain ⟨e,he,rfl,hSL,t,hU,hG0⟩:=hrel
        have f:=fun j=>frozen_of_row _ g j _ _ hG0
        have ggw:=(Array.getElem?_eq_some_iff.1 hG0).1
        by_cases he3:e<3
        ·have d3:decide ((e:Int)<3)=true:=dec_t (by omega)
         have t0:=on_to (heap_sec hG0) he3
         have t2:=on_sig (heap_sec hG0) he3
         rw [Nat.zero_add] at t0 t2
         have f0:=f (3+e * 3)
         have f2:=f (3+e * 3+2)
         have hge:=hU.2.2.2.2 e he3 (Nat.le_refl e)
         obtain ⟨b0,b2⟩:=Pl.wS_ends HO.out HSI.out e
         rw [← hge] at b0 b2
         have HSL:=Lib.hid hSL
         have HU:=Lib.hid hU
         have HG0:=Lib.hid hG0
         have HN:=Lib.hid (hU.next he3)
         have HP:=Lib.hid (Pl.put_ren hU he3)
         have I0:=Lib.hid hSL.2.1
         have I1:=Lib.hid hSL.2.2.1
         clear hSL hU hG0 f hge
         by_cases q0:(t.get e).goes<0
         ·have D0:decide (0≤(t.get e).goes)=false:=dec_f (by omega)
          by_cases q2:(t.get e).sig<0
          ·have D2:decide (0≤(t.get e).sig)=false:=dec_f (by omega)
           go_wp2_with fail
           go_roundw
           case rel=>exact ⟨e+1,by omega,by go_num,HSL.out,t,by have:=HN.out;rw[HP.out,Pl.setTo_same he3 q0,Pl.setSig_same he3 q2] at this;exact this,HG0.out⟩
           case measure=>simp [intOf];omega
          ·obtain ⟨m,hm⟩:∃ m:Nat,(t.get e).sig=m:=⟨(t.get e).sig.toNat,by omega⟩
           rw [hm] at t2 b2
           have hml:m<(Pl.nmG L).length:=by rw[NG.out];omega
           have r2:=I1.out.cell (Pl.ren1_at hml)
           have HM:=Lib.hid hm
           have hml':m<(Pl.wG L).length:=by omega
           clear b2 hm hml
           go_wp2_with fail
           go_roundw
           case rel=>exact ⟨e+1,by omega,by go_num,HSL.out.far _ _ hgz,_,by have:=HN.out;rw[HP.out,Pl.setTo_same he3 q0,HM.out] at this;exact this,set_sec HG0.out (setSig_cells he3 _ _)⟩
           case measure=>simp [intOf];omega
         ·obtain ⟨n,hn⟩:∃ n:Nat,(t.get e).goes=n:=⟨(t.get e).goes.toNat,by omega⟩
          rw [hn] at t0 b0
          have hnl:n<(Pl.nmS L).length:=by rw[NL.out];omega
          have r0:=I0.out.cell (Pl.ren1_at hnl)
          have HM0:=Lib.hid hn
          have hnl':n<(Pl.wS L).length:=by omega
          clear b0 hn hnl
          by_cases q2:(t.get e).sig<0
          ·have D2:decide (0≤(t.get e).sig)=false:=dec_f (by omega)
           go_wp2_with fail
           go_roundw
           case rel=>exact ⟨e+1,by omega,by go_num,HSL.out.far _ _ hgz,_,by have:=HN.out;rw[HP.out,← Pl.setTo_get_sig (Pl.ren1 (Pl.ranks (Pl.nmS L)) (t.get e).goes) he3,Pl.setSig_same he3 (by rw[Pl.setTo_get_sig _ he3];exact q2),HM0.out] at this;exact this,set_sec HG0.out (setTo_cells he3 _ _)⟩
           case measure=>simp [intOf];omega
          ·obtain ⟨m,hm⟩:∃ m:Nat,(t.get e).sig=m:=⟨(t.get e).sig.toNat,by omega⟩
           rw [hm] at t2 b2
           have hml:m<(Pl.nmG L).length:=by rw[NG.out];omega
           have r2:=I1.out.cell (Pl.ren1_at hml)
           have HM:=Lib.hid hm
           have hml':m<(Pl.wG L).length:=by omega
           have hgne:w.heap.size+4≠g:=by omega
           clear b2 hm hml
           go_wp2_with fail
           go_roundw
           case rel=>exact ⟨e+1,by omega,by go_num,(HSL.out.far _ _ hgz).far _ _ hgz,_,by have:=HN.out;rw[HP.out,HM0.out,HM.out] at this;exact this,set_sec (set_sec HG0.out (setTo_cells he3 _ _)) (setSig_cells he3 _ _)⟩
           case measure=>simp [intOf];omega
        ·obtain rfl:e=3:=by omega
         have ht:=hU.done
         obtain ⟨hF,hX0,hX1,Y,hY,hYb,hT⟩:=hSL
         obtain ⟨⟨-,-,-,-,v4,-⟩,-,-⟩:=row6 hF.2.2.1
         have hrl:(Pl.rank (Pl.nmS L) si.name).toNat<Y.length:=by
          have:=Pl.rank_lt (Pl.wS_name_mem HSI.out)
          have:=Pl.rank_nonneg (Pl.nmS L) si.name
          have:=NL.out
          omega
         have ri:=hX0.cell (Pl.ranks_at (i:=i) (nm:=si.name) (by rw[← wS_names,List.getElem?_map,HSI.out];rfl))
         obtain ⟨r,hr⟩:∃ r:Nat,Pl.rank (Pl.nmS L) si.name=r:=⟨(Pl.rank (Pl.nmS L) si.name).toNat,by have:=Pl.rank_nonneg (Pl.nmS L) si.name;omega⟩
         rw [hr] at ri hrl
         rw [Int.toNat_natCast] at hrl
         obtain ⟨y,hy⟩:∃ y,Y[r]? = some y:=⟨_,List.getElem?_eq_getElem hrl⟩
         have oy:=sec_on (row_on hYb hy)
         simp only [show r * LSec.m=r * 12 from rfl] at oy
         obtain ⟨y0,y1,y2,y3,y4,y5,y6,y7,y8,y9,y10,y11⟩:=oy
         have yf:=fun o=>frozen_of_row _ (w.heap.size+5) o _ _ hYb
         have z0:=yf (r * 12)
         have z1:=yf (r * 12+1)
         have z2:=yf (r * 12+2)
         have z3:=yf (r * 12+3)
         have z4:=yf (r * 12+4)
         have z5:=yf (r * 12+5)
         have z6:=yf (r * 12+6)
         have z7:=yf (r * 12+7)
         have z8:=yf (r * 12+8)
         have z9:=yf (r * 12+9)
         have z10:=yf (r * 12+10)
         have z11:=yf (r * 12+11)
         have on:=sec_on (heap_sec hG0)
         simp only [Nat.zero_add] at on
         obtain ⟨a0,a1,a2,a3,a4,a5,a6,a7,a8,a9,a10,a11⟩:=on
         have hrl':r<(Pl.wS L).length:=by omega
         have HNX:=Lib.hid (SecLoop.next HO.out HSI.out hr (show SecLoop 3 59 25 w wr oa ob L i from ⟨hF,hX0,hX1,Y,hY,hYb,hT⟩) ht)
         clear hF hX0 hX1 hYb hT hr ht hU hG0 f hY hrl yf hy
         go_wp2_with fail
         go_region
         go_wp2_with fail
         go_roundw
         case rel=>exact ⟨i+1,by omega,by go_num,HNX.out.drew⟩
         case measure=>simp [intOf];omega
      ·obtain rfl:i=(Pl.wS L).length:=by omega
       obtain ⟨hF,hX0,hX1,Y,hY,hYb,hT⟩:=hSL
       have hYe:=Pl.secs_whole HO.out hY fun j s hj=>hT j s (List.getElem?_eq_some_iff.1 hj).1 hj
       subst hYe
       have hmk:=run_make_k LSig zeroSig (P:=Tryz.prog) 23 61 _ 32 Tryz.underlying23 infoSig rfl .i64 .i64 (Pl.wG L).length (by omega) (by omega)
       have c5:wr.cell? ⟨w.heap.size+1+1,5,none⟩ = some (.slice none 0 0):=(row6 hF.2.2.1).1.2.2.2.2.2
       have f5:wr.frozen? ⟨w.heap.size+1+1,5,none⟩ = false:=(row6 hF.2.2.1).2.1.2.2.2.2.2
       have go2:w.heap.size+1+1<wr.heap.size:=(row6 hF.2.2.1).2.2
       have hg5:=(Array.getElem?_eq_some_iff.1 hYb).1
       have SG:=Lib.hid (fun o=>SigLoop.start hF hX0 hX1 hYb o)
       clear hF hX0 hX1 hYb hT hY
       go_wp2_with fail
       have SG0:=Lib.hid (SG.out 61)
       clear hmk SG c5 f5 go2 hg5
       generalize wr.heap.size=g2 at SG0 ⊢
       go_loopw [13] (fun v wr=>∃ i:Nat,i≤(Pl.wG L).length∧v=.int .i64 i∧SigLoop 3 59 61 25 w wr oa ob g2 L i) (fun v _=>(Pl.wG L).length - (intOf v).toNat)
       case atStart=>exact ⟨0,Nat.zero_le _,rfl,SG0.out⟩
       case round =>
        clear SG0
        obtain ⟨i,hi,rfl,hSL⟩:=hrel
        by_cases hlt:i<(Pl.wG L).length
        ·obtain ⟨b,o,rfl,hb,on⟩:=(HG.out.below rfl hSL.2.1.2.2.2).at hlt
         obtain ⟨a0,a1,a2⟩:=sig_on on
         rw [show i * LSig.m=i * 3 from rfl] at a0 a1 a2
         have hpr:=hSL.2.1.1
         rw [← HA.out] at hpr
         obtain ⟨⟨-,-,-,-,-,p5⟩,-,-⟩:=row6 hpr
         have hSI:=List.getElem?_eq_getElem hlt
         generalize hsi:(Pl.wG L)[i]=si at a0 a1 a2 hSI
         obtain ⟨s0,s1⟩:=Pl.wG_sec HO.out hSI
         obtain ⟨n,hn⟩:∃ n:Nat,si.sec=n:=⟨si.sec.toNat,by omega⟩
         rw [hn] at a1 s1
         have hnl:n<(Pl.nmS L).length:=by rw[NL.out];omega
         have r0:=hSL.2.2.1.cell (Pl.ren1_at hnl)
         have hnl':n<(Pl.wS L).length:=by omega
         have ri:=hSL.2.2.2.1.cell (Pl.ranks_at (i:=i) (nm:=si.name) (by rw[← wG_names,List.getElem?_map,hSI];rfl))
         obtain ⟨r,hr⟩:∃ r:Nat,Pl.rank (Pl.nmG L) si.name=r:=⟨(Pl.rank (Pl.nmG L) si.name).toNat,by have:=Pl.rank_nonneg (Pl.nmG L) si.name;omega⟩
         have hrl:r<(Pl.wG L).length:=by
          have:=Pl.rank_lt (Pl.wG_name_mem hSI)
          have:=NG.out
          omega
         rw [hr] at ri
         have HNX:=Lib.hid (SigLoop.next HO.out hSI hr hSL rfl)
         have er:Pl.renSig (Pl.ranks (Pl.nmS L)) si=⟨si.name,Pl.ren1 (Pl.ranks (Pl.nmS L)) n,si.en⟩:=by unfold Pl.renSig;rw[hn]
         rw [er] at HNX
         obtain ⟨hg5,hF,hX0,hX1,hYb,Z,hZ,hZb,hT⟩:=hSL
         obtain ⟨⟨-,-,-,-,-,v5⟩,-,go2⟩:=row6 hF.2.2.1
         have go3:=(Array.getElem?_eq_some_iff.1 hX0).1
         have go4:=(Array.getElem?_eq_some_iff.1 hX1).1
         have gog:=(Array.getElem?_eq_some_iff.1 hZb).1
         obtain ⟨y,hy⟩:∃ y,Z[r]? = some y:=⟨_,List.getElem?_eq_getElem (by omega)⟩
         have oy:=sig_on (row_on hZb hy)
         simp only [show r * LSig.m=r * 3 from rfl] at oy
         obtain ⟨y0,y1,y2⟩:=oy
         have yf:=fun o=>frozen_of_row _ g2 o _ _ hZb
         have z0:=yf (r * 3)
         have z1:=yf (r * 3+1)
         have z2:=yf (r * 3+2)
         have hgo2:w.heap.size+1+1<wr.heap.size:=go2
         clear hF hX0 hX1 hYb hT hr yf hy hZ hZb on hpr hsi hSI s0 hn hnl er s1 go2
         go_wp2_with fail
         go_region
         go_wp2_with fail
         go_roundw
         case rel=>exact ⟨i+1,by omega,by go_num,(HNX.out.alloc _).drew⟩
         case measure=>simp [intOf];omega
        ·obtain rfl:i=(Pl.wG L).length:=by omega
         obtain ⟨hg5,hF,hX0,hX1,hYb,Z,hZ,hZb,hT⟩:=hSL
         have hZe:=Pl.sigs_whole HO.out hZ fun j s hj=>hT j s (List.getElem?_eq_some_iff.1 hj).1 hj
         subst hZe
         obtain ⟨⟨v0,v1,v2,v3,v4,v5⟩,-,-⟩:=row6 hF.2.2.1
         have hob:=hF.2.1
         rw [← HB.out] at hob
         obtain ⟨⟨q0,q1,q2,q3,q4,q5⟩,⟨e0,e1,e2,e3,e4,e5⟩,gq⟩:=row6 hob
         have HF:=Lib.hid hF
         have HYb:=Lib.hid hYb
         have HZb:=Lib.hid hZb
         clear hF hX0 hX1 hYb hT hZ hZb hob
         go_wp2_with fail
         refine bodyPost_ret ?_ rfl (PlanAgg.of (w':=_) (g:=w.heap.size+5) (g2:=g2) (tS:=59) (tG:=61) ?_ ?_ (by omega) (by omega) ?_ rfl)
         ·simp [results,Tryz.results46,go_sem, *]
         ·repeat (with_reducible rw[heap_setCell_other _ _ _ _ (by simp only;omega)])
          exact HYb.out
         ·repeat (with_reducible rw[heap_setCell_other _ _ _ _ (by simp only;omega)])
          exact HZb.out
         ·(repeat (with_reducible refine Below.setCell ?_ (by exact Nat.le_succ _) _));exact HF.out.2.2.2
end Go.Proofs.YtncphjodaklleaaGreat
