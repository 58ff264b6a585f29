/-
 Texts of this claim, merged: NrMem, NrRefB, NrRefC.
-/
import Derived.Test.YtncphjodaklleaaGreatMg08
import Derived.Test.YtncphjodaklleaaGreatMg12
import Derived.Test.YtncphjodaklleaaGreatMg13
import Derived.Test.YtncphjodaklleaaGreatMg19
import Derived.BigQuiet
import Derived.Deep.CutRange
import Derived.Deep.LoopGhost
import Derived.Deep.RegionWith
namespace Go.Proofs.YtncphjodaklleaaGreat
open Go.RowKit
def tabV (T:List Int):List Value:=T.map fun x=>.int .i64 x
theorem tabV_len (T:List Int):(tabV T).length=T.length:=List.length_map ..
abbrev tabO (T:List Int):Obj:=.cells (tabV T).toArray 166
def TabAt (w:World) (b:Nat) (T:List Int):Prop:=w.heap[b]? = some (.cells (tabV T).toArray 166 (0,0))
theorem TabAt.lt {w:World} {b:Nat} {T:List Int} (h:TabAt w b T):b<w.heap.size:=(Array.getElem?_eq_some_iff.1 h).1
theorem TabAt.cell {w:World} {b:Nat} {T:List Int} (h:TabAt w b T) {s e:Nat} (hs:Nr.slot (s,e)<T.length):w.cell? ⟨b,s * 3+e,none⟩ = some (.int .i64 (Nr.at_ T (s,e))):=by
 rw [cell_of_row w b _ _ _ _ h,List.getElem?_toArray]
 unfold tabV
 have:=Nr.at_get hs
 rw [List.getElem?_map,show s * 3+e=Nr.slot (s,e) by unfold Nr.slot;show s * 3+e=3 * s+e;omega,this]
 rfl
theorem TabAt.frozen {w:World} {b:Nat} {T:List Int} (h:TabAt w b T) (j:Nat):w.frozen? ⟨b,j,none⟩ = false:=frozen_of_row w b j _ _ h
theorem TabAt.kept {w w':World} {b B:Nat} {T:List Int} (h:TabAt w b T) (hlt:b<B) (hb:Below B w w'):TabAt w' b T:=(hb.block _ hlt).trans h
theorem TabAt.set {w:World} {b:Nat} {T:List Int} (h:TabAt w b T) (s e:Nat) (n:Int):TabAt (w.setCell ⟨b,s * 3+e,none⟩ (.int .i64 n)) b (Nr.bet T (s,e) n):=by
 have:=heap_setCell_same w b (s * 3+e) _ _ (.int .i64 n) h
 rw [show (tabV T).toArray.setIfInBounds (s * 3+e) (.int .i64 n)=(tabV (Nr.bet T (s,e) n)).toArray by
  unfold tabV Nr.bet
  rw [show s * 3+e=Nr.slot (s,e) by unfold Nr.slot;show s * 3+e=3 * s+e;omega,List.map_set]
  simp] at this
 exact this
structure Nr.Went (p:Pl.Plan) (ap:Int) (st:Nat × Nat) (T T':List Int) (more:Bool) (Q:Prop):Prop where
 sound:Nr.Sound p ap st T'
 le:Nr.weight ap T'≤Nr.weight ap T
 less:more=true→Nr.weight ap T'<Nr.weight ap T
 same:more=false→T'=T∧Q
theorem Nr.Went.next {p:Pl.Plan} {ap:Int} {st:Nat × Nat} {T T':List Int} {more:Bool} {Q R:Prop} (h:Nr.Went p ap st T T' more Q) (hq:more=false→T'=T→Q→R):Nr.Went p ap st T T' more R :=
 ⟨h.sound,h.le,h.less,fun e=>⟨(h.same e).1,hq e (h.same e).1 (h.same e).2⟩⟩
structure NrW (W0 w w':World) (b:Nat) (T':List Int):Prop where
 tab:TabAt w' b T'
 below:Below W0.heap.size W0 w'
 size:w.heap.size≤w'.heap.size
theorem NrW.behind {W0 w w1 w2:World} {b:Nat} {T:List Int} (h:NrW W0 w w1 b T) (hb:Below w1.heap.size w1 w2):NrW W0 w w2 b T :=
 ⟨h.tab.kept h.tab.lt hb,h.below.trans (hb.mono h.below.size),Nat.le_trans h.size hb.size⟩
theorem NrW.set {W0 w w1:World} {b:Nat} {T:List Int} (h:NrW W0 w w1 b T) (hb:W0.heap.size≤b) (s e:Nat) (n:Int):NrW W0 w (w1.setCell ⟨b,s * 3+e,none⟩ (.int .i64 n)) b (Nr.bet T (s,e) n) :=
 ⟨h.tab.set s e n,h.below.setCell (p:=⟨b,s * 3+e,none⟩) hb _,by rw[World.size_setCell];exact h.size⟩
def Nr.Seen (p:Pl.Plan) (ap:Int) (T:List Int) (a:Nat × Nat) (n:Int) (k j:Nat):Prop:=Nr.ClosedTo p ap T a n k∧((∃ x∈(Wk.outs p a.1 k).take j,x.t=(a.2:Int))→∀ b:Nat × Nat,Wk.next p a.1 k=((b.1:Int),(b.2:Int),true)→n<ap→0≤Nr.at_ T b∧Nr.at_ T b≤n)
theorem Nr.Seen.start {p:Pl.Plan} {ap:Int} {T:List Int} {a:Nat × Nat} {n:Int} {k:Nat} (h:Nr.ClosedTo p ap T a n k):Nr.Seen p ap T a n k 0:=⟨h,fun ⟨_,hx,_⟩=>by rw[List.take_zero] at hx;cases hx⟩
theorem Nr.Seen.end_ {p:Pl.Plan} {ap:Int} {T:List Int} {a:Nat × Nat} {n:Int} {k:Nat} (h:Nr.Seen p ap T a n k (Wk.outs p a.1 k).length):Nr.ClosedTo p ap T a n (k+1):=by
 intro f hf hx b hn hlt
 by_cases e:f=k
 ·subst e
  rw [Nr.Seen,List.take_length] at h
  exact h.2 hx b hn hlt
 ·exact h.1 f (by omega) hx b hn hlt
theorem Nr.Seen.skip {p:Pl.Plan} {ap:Int} {T:List Int} {a:Nat × Nat} {n:Int} {k j:Nat} {x:Wk.Stp} (h:Nr.Seen p ap T a n k j) (hx:(Wk.outs p a.1 k)[j]? = some x) (hno:x.t=(a.2:Int)→∀ b:Nat × Nat,Wk.next p a.1 k=((b.1:Int),(b.2:Int),true)→n<ap→0≤Nr.at_ T b∧Nr.at_ T b≤n):Nr.Seen p ap T a n k (j+1):=by
 refine ⟨h.1,fun ⟨y,hy,ht⟩ b hn hlt=>?_⟩
 rw [List.take_add_one,hx] at hy
 rcases List.mem_append.1 hy with hy | hy
 ·exact h.2 ⟨y,hy,ht⟩ b hn hlt
 ·obtain rfl:y=x:=by simpa using hy
  exact hno ht b hn hlt
theorem next_nat {p:Pl.Plan} (hf:Pl.Fit p) {s k:Nat} {q f:Int} (h:Wk.next p s k=(q,f,true)):0≤q∧0≤f:=by
 unfold Wk.next at h
 split at h
 ·exact absurd (congrArg (fun x=>x.2.2) h) (by simp)
 ·rename_i x hx
  split at h
  ·exact absurd (congrArg (fun x=>x.2.2) h) (by simp)
  ·rename_i hg
   obtain ⟨i,e,y,h1,h2,h3,h4,h5⟩:=Lp.endOf_some hx
   simp only [Prod.mk.injEq] at h
   obtain ⟨e1,e2,-⟩:=h
   have:=(hf.ends i y h4 e h3).2.2 (by rw[← h5];omega)
   rw [← h5] at this
   omega
section
variable (p : Pl.Plan) (hf : Pl.Fit p) (hm : Lp.Meas p) (hap : 0 < p.ap ∧ p.ap ≤ 1125899906842624)
include hf hm hap
end
open Go.RowKit
theorem Nr.Went.trans {p:Pl.Plan} {ap:Int} {st:Nat × Nat} {T T' T2:List Int} {m m2:Bool} {Q R S:Prop} (h:Nr.Went p ap st T T' m Q) (g:Nr.Went p ap st T' T2 m2 R) (hq:T'=T→Q→R→S):Nr.Went p ap st T T2 (m || m2) S:=by
 obtain ⟨h1,h2,h3,h4⟩:=h
 obtain ⟨g1,g2,g3,g4⟩:=g
 refine ⟨g1,Nat.le_trans g2 h2,fun e=>?_,fun e=>?_⟩
 ·rcases Bool.or_eq_true_iff.1 e with e | e
  ·exact Nat.lt_of_le_of_lt g2 (h3 e)
  ·exact Nat.lt_of_lt_of_le (g3 e) h2
 ·obtain ⟨e1,e2⟩:=Bool.or_eq_false_iff.1 e
  obtain ⟨a,b⟩:=h4 e1
  obtain ⟨c,d⟩:=g4 e2
  exact ⟨c.trans a,hq a b d⟩
def NearIs (x:List Nat × Int) (w:World) (e:Ending) (w':World):Prop:=∃ B d,e=.returned (.tuple #[.slice B x.1.length d,.int .i64 x.2])∧LNum.Row w' B (ints x.1)∧Below w.heap.size w w'∧∀ a,B=some a→w.heap.size≤a.block
def LTri:Lies Unit:=⟨3,by decide,fun _=>[.int .i64 0,.int .i64 0,.int .i64 0],fun _=>rfl,fun y u hu=>by
 simp at hu
 subst hu;rfl⟩
theorem tri_all:∀ n:Nat,LTri.all (List.replicate n ())=tabV (List.replicate (3 * n) 0)
 | 0=>rfl
 | n+1=>by
   rw [List.replicate_succ,Lies.all_cons,tri_all n,show 3 * (n+1)=3 * n+1+1+1 by omega,List.replicate_succ,List.replicate_succ,List.replicate_succ]
   rfl
theorem infoTri:(Tryz.prog.info? 166).map (fun i=>(i.zero,i.size,i.bytes))=some (some (.agg #[.int .i64 0,.int .i64 0,.int .i64 0]),3,24):=by kernel_rfl
section
variable (p : Pl.Plan) (hf : Pl.Fit p) (hm : Lp.Meas p) (hap : 0 ≤ p.ap ∧ p.ap ≤ 1125899906842624)
include hf hm hap
end
end Go.Proofs.YtncphjodaklleaaGreat
