/-
 Texts of this claim, merged: CrMem, CrRef, AppRow, NumMem, DmMem.
-/
import Derived.Test.YtncphjodaklleaaGreatMg03
import Derived.Test.YtncphjodaklleaaGreatMg06
import Derived.Test.YtncphjodaklleaaGreatMg10
import Derived.Test.YtncphjodaklleaaGreatMg11
import Derived.Test.YtncphjodaklleaaGreatMg12
import Derived.BigQuiet
import Derived.Deep.AppendLies
import Derived.Deep.CutRange
import Derived.Deep.RegionLaw
import Derived.Laws.OwnMore
namespace Go.Proofs.YtncphjodaklleaaGreat
open Go.RowKit
structure WayM where
 A:Option Addr
 c:Nat
 way:Cr.Way
def LWay:Lies WayM:=⟨2,by decide,fun m=>[.slice m.A m.way.steps.length m.c,.int .i64 m.way.exit],fun _=>rfl,fun y u hu=>by
 simp at hu
 rcases hu with rfl | rfl <;> rfl⟩
theorem way_on {w:World} {b o:Nat} {m:WayM} (h:LWay.On w b o m):w.cell? ⟨b,o,none⟩ = some (.slice m.A m.way.steps.length m.c)∧w.cell? ⟨b,o+1,none⟩ = some (.int .i64 m.way.exit) :=
 ⟨h 0 _ rfl,h 1 _ rfl⟩
def WaysIn (w:World) (A:Option Addr) (L:List Cr.Way):Prop:=∃ M:List WayM,M.map WayM.way=L∧LWay.Row w A M∧∀ m∈M,LStp.Row w m.A m.way.steps∧m.way.steps.length≤m.c
theorem WaysIn.nil (w:World) (A:Option Addr):WaysIn w A []:=⟨[],rfl,.inl rfl,fun _ h=>(by cases h)⟩
theorem WaysIn.below {w w':World} {A:Option Addr} {L:List Cr.Way} (h:WaysIn w A L) (hb:Below w.heap.size w w'):WaysIn w' A L:=by
 obtain ⟨M,h1,h2,h3⟩:=h
 exact ⟨M,h1,h2.below rfl hb,fun m hm=>⟨(h3 m hm).1.below rfl hb,(h3 m hm).2⟩⟩
theorem WaysIn.at {w:World} {A:Option Addr} {L:List Cr.Way} (h:WaysIn w A L) {k:Nat} {y:Cr.Way} (hk:L[k]? = some y):∃ b o S d,A=some ⟨b,o,none⟩∧b<w.heap.size∧w.cell? ⟨b,o+k * 2,none⟩ = some (.slice S y.steps.length d)∧w.cell? ⟨b,o+k * 2+1,none⟩ = some (.int .i64 y.exit)∧LStp.Row w S y.steps∧y.steps.length≤d:=by
 obtain ⟨M,rfl,h2,h3⟩:=h
 rw [List.getElem?_map] at hk
 cases hm:M[k]? with
 | none=>rw[hm] at hk;cases hk
 | some m =>
   rw [hm] at hk
   obtain rfl:m.way=y:=Option.some.inj hk
   obtain ⟨hlt,hmk⟩:=List.getElem?_eq_some_iff.1 hm
   obtain ⟨b,o,hA,hb,on⟩:=h2.at hlt
   rw [hmk] at on
   obtain ⟨c0,c1⟩:=way_on on
   exact ⟨b,o,m.A,m.c,hA,hb,c0,c1,h3 m (List.mem_of_getElem? hm)⟩
def OwnS (base:Nat) (w:World) (A:Option Addr) (c:Nat) (L:List Wk.Stp):Prop:=w.ownsRow base 123 3 (.slice A L.length c) L.length (LStp.all L)
theorem OwnS.row {base:Nat} {w:World} {A:Option Addr} {c:Nat} {L:List Wk.Stp} (h:OwnS base w A c L):LStp.Row w A L:=by
 obtain ⟨-,B,d,hv,-,hR⟩:=Lies.Row.of_own (E:=LStp) h
 cases hv
 exact hR
theorem OwnS.cap {base:Nat} {w:World} {A:Option Addr} {c:Nat} {L:List Wk.Stp} (h:OwnS base w A c L):L.length≤c:=by
 obtain ⟨-,B,d,hv,hc,-⟩:=Lies.Row.of_own (E:=LStp) h
 cases hv
 exact hc
structure Tame (tH tW:TypeId) (w w':World):Prop where
 os:w'.os=w.os
 tape:w'.tape=w.tape
 output:w'.output=w.output
 size:w.heap.size≤w'.heap.size
 block:∀ (b:Nat) (cs:Array Value) (t:TypeId) (fr:Nat × Nat),w.heap[b]? = some (Obj.cells cs t fr)→t≠tH→t≠tW→w'.heap[b]? = some (Obj.cells cs t fr)
theorem Tame.refl (tH tW:TypeId) (w:World):Tame tH tW w w:=⟨rfl,rfl,rfl,Nat.le_refl _,fun _ _ _ _ h _ _=>h⟩
theorem Tame.trans {tH tW:TypeId} {a b c:World} (h:Tame tH tW a b) (h':Tame tH tW b c):Tame tH tW a c :=
 ⟨h'.os.trans h.os,h'.tape.trans h.tape,h'.output.trans h.output,Nat.le_trans h.size h'.size,fun k cs t fr hk h1 h2=>h'.block k cs t fr (h.block k cs t fr hk h1 h2) h1 h2⟩
theorem Below.tame {w w':World} (h:Below w.heap.size w w') (tH tW:TypeId):Tame tH tW w w' :=
 ⟨h.os,h.tape,h.output,h.size,fun b cs t fr hb _ _=>by rw[h.block b (Array.getElem?_eq_some_iff.1 hb).1];exact hb⟩
theorem own_tame {tH tW:TypeId} {w w':World} {base:Nat} {e:TypeId} {size:Nat} {v:Value} {n:Nat} {xs:List Value} (h:w.ownsRow base e size v n xs) (ht:Tame tH tW w w') (h1:e≠tH) (h2:e≠tW):w'.ownsRow base e size v n xs:=by
 refine ⟨h.1,?_⟩
 rcases h.2 with hn | ⟨g,cap,cur,rfl,hb,hg,rest⟩
 ·exact .inl hn
 ·exact .inr ⟨g,cap,cur,rfl,hb,ht.block g cur e (0,0) hg h1 h2,rest⟩
theorem own_types {w:World} {base base':Nat} {e e':TypeId} {size size':Nat} {v v':Value} {n n':Nat} {xs xs':List Value} (h:w.ownsRow base e size v n xs) (h':w.ownsRow base' e' size' v' n' xs') (he:e≠e') (b:Nat) (hb:v.ownBlock=some b):v'.ownBlock≠some b:=fun hb'=>by
 rcases h.2 with ⟨rfl,-⟩ | ⟨g,cap,cur,rfl,-,hg,-⟩
 ·cases hb
 ·rcases h'.2 with ⟨rfl,-⟩ | ⟨g',cap',cur',rfl,-,hg',-⟩
  ·cases hb'
  ·obtain rfl:g=b:=Option.some.inj hb
   obtain rfl:g'=g:=Option.some.inj hb'
   rw [hg] at hg'
   cases hg'
   exact he rfl
theorem own_block {w:World} {base:Nat} {e t:TypeId} {size:Nat} {v:Value} {n:Nat} {xs:List Value} {g:Nat} {cs:Array Value} (h:w.ownsRow base e size v n xs) (hg:w.heap[g]? = some (.cells cs t (0,0))) (he:e≠t):v.ownBlock≠some g:=fun hb=>by
 rcases h.2 with ⟨rfl,-⟩ | ⟨g',cap,cur,rfl,-,hg',-⟩
 ·cases hb
 ·obtain rfl:g'=g:=Option.some.inj hb
  rw [hg] at hg'
  cases hg'
  exact he rfl
def StepsOwn (L:List Wk.Stp) (w:World) (e:Ending) (w':World):Prop:=∃ A c,e=.returned (.slice A L.length c)∧OwnS w.heap.size w' A c L∧Below w.heap.size w w'
theorem own_fresh (w:World) (base:Nat) (L:List Wk.Stp) (hb:base≤w.heap.size) (hl:L.length≤1000):OwnS base (w.alloc (.cells (LStp.all L).toArray 123)) (some ⟨w.heap.size,0,none⟩) L.length L:=by
 refine ⟨LStp.all_len L,.inr ⟨w.heap.size,L.length,(LStp.all L).toArray,rfl,hb,heap_alloc_new _ _,Nat.le_refl _,by unfold maxLen;omega,?_,?_⟩⟩
 ·rw[List.size_toArray];exact LStp.all_len L
 ·exact List.take_of_length_le (by rw[show L.length * 3=(LStp.all L).length from (LStp.all_len L).symm];exact Nat.le_refl _)
theorem own_one (w:World) (y:Wk.Stp) {g base:Nat} (hg:w.heap.size=g) (hb:base≤g:=by simp):OwnS base (w.alloc (.cells #[.int .i64 y.s,.int .i64 y.f,.int .i64 y.t] 123)) (some ⟨g,0,none⟩) 1 [y]:=hg ▸ own_fresh w base [y] (hg ▸ hb) (by simp)
theorem run_append_owned_zero {P:Program} {w:World} (base:Nat) (t ty e:TypeId) (i:TypeInfo) (size:Nat) (ht:P.underlying t=some (.slice e)) (hi:P.info? e=some i)
 (v:Value) (n:Nat) (xs:List Value) (hown:w.ownsRow base e size v n xs) (A:Option Addr) (c:Nat) :
 (Builtin.append_ #[t,t] ty #[v,.slice A 0 c]).run P w=.ok v w:=by
 rcases hown.2 with ⟨rfl,rfl⟩ | ⟨g,cap,cur,rfl,_,_,hnc,_⟩
 ·cases A <;> simp [Builtin.append_,run_underlying ht,Go.sizeOf,typeInfo,hi,Builtin.lenOf,Builtin.firstCells,loadCells,loadCellsFrom]
 ·cases A <;> simp [Builtin.append_,run_underlying ht,Go.sizeOf,typeInfo,hi,Builtin.lenOf,Builtin.firstCells,hnc,storeCells,loadCells,loadCellsFrom]
theorem step_append_at {α:Type} (E:Lies α) {P:Program} {w:World} {ops:Array Oper} {o:Oper} {a:Act} {K:Act→World→Prop} {Q:Exit→Act→World→Prop} {Z:Prop} (hgd:o.guard=none) (s x:Operand) (t:TypeId)
 (ho:o.op=.call { callee:=.builtin .append,args:=#[s,x],argTypes:=#[t,t] })
 (base:Nat) (e:TypeId) (i:TypeInfo) (z:Value) (bytes:Nat) (ht:P.underlying t=some (.slice e)) (hi:P.info? e=some i) (hz:i.zero=some z)
 (hsize:i.size=E.m) (hby:i.bytes=bytes) (hzs:z.cells.size=E.m)
 (v:Value) (n:Nat) (xs:List Value) (hs:a.eval s=v) (hown:w.ownsRow base e E.m v n xs)
 (A:Option Addr) (m c:Nat) (L:List α) (hx:a.eval x=.slice A m c) (hL:L.length=m) (hI:E.Row w A L) (hn:n+m≤maxLen) (hbytes:(n+m) * bytes≤140737488355328) (hbase:base≤w.heap.size)
 (h:∀ v' w',w'.ownsRow base e E.m v' (n+m) (xs++E.all L)→w.grownBy w' v.ownBlock→K (a.put o.dst v') w') :
 if Region.wanted o (yielded ops a.tmps)=true then Oper.wp P o a w K Q else Z:=by
 subst hL
 rcases Nat.eq_zero_or_pos L.length with h0 | h0
 ·have hw:Region.wanted o (yielded ops a.tmps)=true:=by simp [Region.wanted,hgd]
  rw [if_pos hw]
  obtain rfl:L=[]:=List.eq_nil_of_length_eq_zero h0
  have hrun:=run_append_owned_zero (P:=P) (w:=w) base t o.type e i E.m ht hi v n xs hown A c
  unfold Oper.wp
  simp [execOp,ho,resolve,invoke,builtin,hs,hx,hrun,Result.andThen]
  exact h v w (by rw[show E.all []=[] from rfl,List.append_nil];exact hown) (World.grownBy.refl w _)
 ·rcases hI with hI | ⟨b,off,rfl,_,hI⟩
  ·subst hI;simp at h0
  ·exact step_append_lies w hgd s x t ho base e i z E.m bytes ht hi hz hsize hby hzs E.pos v n xs hs hown ⟨b,off,none⟩ L.length c (E.all L) hx (E.all_len L) (Lies.news hI) (E.all_single L) h0 hn hbytes hbase _ rfl fun g' cap' w' h1 h2 _ _=>h _ w' h1 h2
theorem wpList_append_at {α:Type} (E:Lies α) {P:Program} {w:World} {ops:Array Oper} {rest:List Oper} {o:Oper} {a:Act} {Q:Exit→Act→World→Prop} (hw:Region.wanted o (yielded ops a.tmps)=true) (s x:Operand) (t:TypeId)
 (ho:o.op=.call { callee:=.builtin .append,args:=#[s,x],argTypes:=#[t,t] })
 (base:Nat) (e:TypeId) (i:TypeInfo) (z:Value) (bytes:Nat) (ht:P.underlying t=some (.slice e)) (hi:P.info? e=some i) (hz:i.zero=some z)
 (hsize:i.size=E.m) (hby:i.bytes=bytes) (hzs:z.cells.size=E.m)
 (v:Value) (n:Nat) (xs:List Value) (hs:a.eval s=v) (hown:w.ownsRow base e E.m v n xs)
 (A:Option Addr) (m c:Nat) (L:List α) (hx:a.eval x=.slice A m c) (hL:L.length=m) (hI:E.Row w A L) (hn2:n+m≤1000000000) (hbytes:(n+m) * bytes≤140737488355328) (hbase:base≤w.heap.size)
 (h:∀ v' w',w'.ownsRow base e E.m v' (n+m) (xs++E.all L)→w.grownBy w' v.ownBlock→wpList P ops Q rest (a.put o.dst v') w'):wpList P ops Q (o :: rest) a w:=by
 subst hL
 rcases Nat.eq_zero_or_pos L.length with h0 | h0
 ·obtain rfl:L=[]:=List.eq_nil_of_length_eq_zero h0
  have hrun:=run_append_owned_zero (P:=P) (w:=w) base t o.type e i E.m ht hi v n xs hown A c
  refine BigFrame.wpList_want hw fun _ hK=>?_
  unfold Oper.wp
  simp [execOp,ho,resolve,invoke,builtin,hs,hx,hrun,Result.andThen]
  exact hK _ _ (h v w (by rw[show E.all []=[] from rfl,List.append_nil];exact hown) (World.grownBy.refl w _))
 ·exact wpList_append_row E w hw s x t ho base e i z bytes ht hi hz hsize hby hzs v n xs hs hown A c L.length L rfl h0 hx hI hn2 hbytes hbase fun g' cap' w' h1 h2 _=>h _ w' h1 h2
def LNum:Lies Int:=⟨1,by decide,fun x=>[.int .i64 x],fun _=>rfl,fun y u hu=>by
 simp at hu
 subst hu;rfl⟩
theorem num_on {w:World} {b o:Nat} {x:Int} (h:LNum.On w b o x):w.cell? ⟨b,o,none⟩ = some (.int .i64 x):=h 0 _ rfl
def ints (l:List Nat):List Int:=l.map fun (s:Nat)=>(s:Int)
theorem ints_len (l:List Nat):(ints l).length=l.length:=List.length_map ..
theorem ints_snoc (l:List Nat) (s:Nat):ints (l++[s])=ints l++[(s:Int)]:=by unfold ints;rw[List.map_append];rfl
theorem infoNum:(Tryz.prog.info? 3).map (fun i=>(i.zero,i.size,i.bytes))=some (some (.int .i64 0),1,8):=by kernel_rfl
def NumsOr (A:Option Addr) (L0 L:List Int) (w:World) (e:Ending) (w':World):Prop:=∃ B d,e=.returned (.slice B L.length d)∧LNum.Row w' B L∧L.length≤d∧Below w.heap.size w w'∧((B=A∧L=L0)∨∀ a,B=some a→w.heap.size≤a.block)
def LDem:Lies Dm.Dem:=⟨2,by decide,fun x=>[.int .i64 x.pt,.int .i64 x.pos],fun _=>rfl,fun y u hu=>by
 simp at hu
 rcases hu with rfl | rfl <;> rfl⟩
theorem dem_on {w:World} {b o:Nat} {x:Dm.Dem} (h:LDem.On w b o x):w.cell? ⟨b,o,none⟩ = some (.int .i64 x.pt)∧w.cell? ⟨b,o+1,none⟩ = some (.int .i64 x.pos) :=
 ⟨h 0 _ rfl,h 1 _ rfl⟩
abbrev demV (x:Dm.Dem):Value:=.agg #[.int .i64 x.pt,.int .i64 x.pos]
abbrev demO (x:Dm.Dem):Obj:=.cells #[.int .i64 x.pt,.int .i64 x.pos] 125
def OwnDm (base:Nat) (w:World) (A:Option Addr) (c:Nat) (L:List Dm.Dem):Prop:=w.ownsRow base 125 2 (.slice A L.length c) L.length (LDem.all L)
theorem OwnDm.row {base:Nat} {w:World} {A:Option Addr} {c:Nat} {L:List Dm.Dem} (h:OwnDm base w A c L):LDem.Row w A L:=by
 obtain ⟨-,B,d,hv,-,hR⟩:=Lies.Row.of_own (E:=LDem) h
 cases hv
 exact hR
theorem owndm_fresh (w:World) (base:Nat) (L:List Dm.Dem) (hb:base≤w.heap.size) (hl:L.length≤1000):OwnDm base (w.alloc (.cells (LDem.all L).toArray 125)) (some ⟨w.heap.size,0,none⟩) L.length L:=by
 refine ⟨LDem.all_len L,.inr ⟨w.heap.size,L.length,(LDem.all L).toArray,rfl,hb,heap_alloc_new _ _,Nat.le_refl _,by unfold maxLen;omega,?_,?_⟩⟩
 ·rw[List.size_toArray];exact LDem.all_len L
 ·show List.take _ (LDem.all L)=_
  exact List.take_of_length_le (Nat.le_of_eq (LDem.all_len L))
theorem owndm_one (w:World) (y:Dm.Dem) {g base:Nat} (hg:w.heap.size=g) (hb:base≤g:=by simp):OwnDm base (w.alloc (demO y)) (some ⟨g,0,none⟩) 1 [y]:=hg ▸ owndm_fresh w base [y] (hg ▸ hb) (by simp)
theorem owndm_empty (w:World) {g base:Nat} (hg:w.heap.size=g) (hb:base≤g:=by simp):(w.alloc (.cells #[] 125)).ownsRow base 125 2 (.slice (some ⟨g,0,none⟩) 0 0) 0 []:=by
 subst hg
 exact ⟨rfl,.inr ⟨w.heap.size,0,#[],rfl,hb,heap_alloc_new _ _,Nat.le_refl _,by unfold maxLen;omega,rfl,rfl⟩⟩
def DemsYes (L:List Dm.Dem) (w:World) (e:Ending) (w':World):Prop:=∃ B d,e=.returned (.slice B L.length d)∧LDem.Row w' B L∧L.length≤d∧Below w.heap.size w w'
theorem DemsYes.of_own {L:List Dm.Dem} {w w':World} {base n:Nat} {v:Value} (h:w'.ownsRow base 125 LDem.m v n (LDem.all L)) (hn:n=L.length) (hb:Below w.heap.size w w'):DemsYes L w (.returned v) w':=by
 subst hn
 obtain ⟨-,B,d,rfl,hc,hR⟩:=Lies.Row.of_own (E:=LDem) h
 exact ⟨B,d,rfl,hR,hc,hb⟩
theorem infoDem:(Tryz.prog.info? 125).map (fun i=>(i.zero,i.size,i.bytes))=some (some (.agg #[.int .i64 0,.int .i64 0]),2,16):=by kernel_rfl
namespace Lies
variable {α : Type} (E : Lies α)
theorem Row.take {w:World} {A:Option Addr} {L:List α} (h:E.Row w A L) (k:Nat):E.Row w A (L.take k):=by
 rcases h with rfl | ⟨b,o,hA,hb,h⟩
 ·exact .inl List.take_nil
 ·refine .inr ⟨b,o,hA,hb,fun j y hj=>h j y ?_⟩
  rw [List.getElem?_take] at hj
  split at hj
  ·exact hj
  ·cases hj
theorem Row.drop {w:World} {b o:Nat} {L:List α} (h:E.Row w (some ⟨b,o,none⟩) L) (k:Nat):E.Row w (some ⟨b,o+k * E.m,none⟩) (L.drop k):=by
 rcases h with rfl | ⟨b',o',hA,hb,h⟩
 ·exact .inl List.drop_nil
 ·cases hA
  refine .inr ⟨b,o+k * E.m,rfl,hb,fun j y hj=>?_⟩
  rw [List.getElem?_drop] at hj
  have:=h (k+j) y hj
  rwa [Nat.add_mul,← Nat.add_assoc] at this
end Lies
end Go.Proofs.YtncphjodaklleaaGreat
