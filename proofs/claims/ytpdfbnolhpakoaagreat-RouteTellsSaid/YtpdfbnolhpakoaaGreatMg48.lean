/-
  Texts of this claim, merged: RtWay.
-/
import Derived.Test.YtpdfbnolhpakoaaGreatMg34
import Derived.Deep.CutRange
import Derived.Deep.RegionHeld3
namespace Go.Proofs.YtpdfbnolhpakoaaGreat
open Go.RowKit
def wayP (p:Pl.Plan) (x y:Int):Option (Nat × Cr.Way) :=
  if p.sigs.length=0 then none else ((Cr.of p (x.toNat % p.sigs.length:Nat)).1[y.toNat % (Cr.of p (x.toNat % p.sigs.length:Nat)).1.length]?).map fun v=>(x.toNat % p.sigs.length,v)
theorem wayP_some {p:Pl.Plan} {x y:Int} {i:Nat} {v:Cr.Way} (h:wayP p x y=some (i,v)):i<p.sigs.length∧v∈(Cr.of p i).1:=by
  unfold wayP at h
  split at h
  · cases h
  · rename_i h0
    rw [Option.map_eq_some_iff] at h
    obtain ⟨u,hu,h⟩:=h
    cases h
    exact ⟨Nat.mod_lt _ (by omega),List.mem_of_getElem? hu⟩
def WayNo (w:World) (e:Ending) (w':World):Prop:=e=.returned (.tuple #[.int .i64 0,.agg #[.slice none 0 0,.int .i64 0],.bool false])∧Below w.heap.size w w'
def WayYes (i:Nat) (v:Cr.Way) (w:World) (e:Ending) (w':World):Prop:=∃ A c,e=.returned (.tuple #[.int .i64 i,wayV A c v,.bool true])∧TRow 59 LStp w' A v.steps∧v.steps.length≤c∧Below w.heap.size w w'
abbrev by2O (a b:Int):Obj:=.cells #[.int .u8 a,.int .u8 b] 22
abbrev wayZ:Obj:=.cells #[.slice none 0 0,.int .i64 0] 37
theorem rest_len {i:Int} {n:Nat} (h0:0≤i) (hn:n≠0):i.tmod (n:Int)=((i.toNat % n:Nat):Int)∧i.toNat % n<n:=by
  refine ⟨?_,Nat.mod_lt _ (by omega)⟩
  rw [Int.tmod_eq_emod_of_nonneg h0]
  have:i=(i.toNat:Int):=by omega
  rw [this,Int.toNat_natCast]
  rfl
theorem three_put (w:World) (a b c:Obj):(((w.alloc a).alloc b).alloc c).heap[w.heap.size]? = some a∧(((w.alloc a).alloc b).alloc c).heap[w.heap.size+1]? = some b∧(((w.alloc a).alloc b).alloc c).heap[w.heap.size+1+1]? = some c∧Below w.heap.size w (((w.alloc a).alloc b).alloc c):=by
  have s1:(w.alloc a).heap.size=w.heap.size+1:=by simp
  have s2:((w.alloc a).alloc b).heap.size=w.heap.size+1+1:=by simp
  refine ⟨?_,?_,?_,(((Below.refl _ _).alloc (Nat.le_refl _) _).alloc (by omega) _).alloc (by omega) _⟩
  · rw[heap_alloc_old _ _ (by omega),heap_alloc_old _ _ (by omega)];exact heap_alloc_new _ _
  · rw[heap_alloc_old _ _ (by omega),← s1];exact heap_alloc_new _ _
  · rw[← s2];exact heap_alloc_new _ _
set_option maxHeartbeats 8000000 in
set_option maxRecDepth 100000 in
theorem way_any (p:Pl.Plan) (A:Option Addr) (c:Nat) (A':Option Addr) (c':Nat) (x y:Int) (w:World) (h:PlanIn w p A A') (hfew:p.sigs.length≤12) (bx:0≤x∧x≤255) (bz:0≤y∧y≤255) :
    Calls Tryz.prog 12 #[planV p A c A' c',.agg #[.int .u8 x,.int .u8 y]] w fun e w'=>(wayP p x y=none→WayNo w e w')∧∀ i v,wayP p x y=some (i,v)→WayYes i v w e w':=by
  obtain ⟨hP,hY,hZ,hB⟩:=three_put w (planO p A c A' c') (by2O x y) wayZ
  have HP:=Lib.hid hP
  have HY:=Lib.hid hY
  have HZ:=Lib.hid hZ
  have B0:=Lib.hid hB
  have HI:=Lib.hid (h.below hB)
  obtain ⟨⟨p0,p1,p2,p3,p4,p5⟩,-,gp⟩:=row6 hP
  obtain ⟨⟨y0,y1⟩,-,gy⟩:=rowY hY
  obtain ⟨⟨z0,z1⟩,⟨e0,e1⟩,gz⟩:=rowY hZ
  clear hP hY hZ hB h
  by_cases hz:p.sigs.length=0
  · have DZ:((p.sigs.length:Int) == 0)=true:=by rw[beq_iff_eq];omega
    have hw:wayP p x y=none:=by unfold wayP;rw[if_pos hz]
    clear hz
    go_enter Tryz.func12,Tryz.ntmps12
    go_wp2_with fail
    refine bodyPost_ret (v:=.tuple #[.int .i64 0,.agg #[.slice none 0 0,.int .i64 0],.bool false]) ?_ rfl ⟨fun _=>⟨rfl,B0.out⟩,fun i v h=>by rw[hw] at h;cases h⟩
    simp [results,Tryz.results12,go_sem, *]
  have DZ:((p.sigs.length:Int) == 0)=false:=by rw[beq_eq_false_iff_ne];omega
  obtain ⟨q1,hj⟩:=rest_len bx.1 hz
  have q0:IntKind.i64.wrap x=x:=IntWalk.i64_in _ (by omega)
  have q2:IntKind.i64.wrap ((x.toNat % p.sigs.length:Nat):Int)=((x.toNat % p.sigs.length:Nat):Int):=IntWalk.i64_in _ (by omega)
  have hwp:wayP p x y=((Cr.of p (x.toNat % p.sigs.length:Nat)).1[y.toNat % (Cr.of p (x.toNat % p.sigs.length:Nat)).1.length]?).map fun v=>(x.toNat % p.sigs.length,v):=by unfold wayP;rw[if_neg hz]
  generalize x.toNat % p.sigs.length=j at q1 q2 hj hwp
  have hlen:=Cr.of_len p j
  have HER:=Lib.hid (show ((Cr.of p j).2=10∧(Cr.of p j).1=[])∨(Cr.of p j).2=0 from by
    rw [Cr.of_some (show Cr.sigAt p j=some p.sigs[j] from by unfold Cr.sigAt;rw[if_neg (by omega),Int.toNat_natCast,List.getElem?_eq_getElem hj])]
    rcases Cr.ofSig_ways p p.sigs[j] with ⟨h1,h2⟩ | ⟨h1,-,-⟩
    · exact .inl ⟨h1,h2⟩
    · exact .inr h1)
  have CO:=Lib.hid (fun W hW=>rcOf_t p A c A' c' j W (HI.out.below hW))
  have T0:=Lib.hid (Below.refl (((w.alloc (planO p A c A' c')).alloc (by2O x y)).alloc wayZ).heap.size (((w.alloc (planO p A c A' c')).alloc (by2O x y)).alloc wayZ))
  have HWP:=Lib.hid hwp
  generalize Cr.of p j=u at HWP hlen HER CO
  obtain ⟨L,er⟩:=u
  have hlen':L.length≤65536:=hlen
  have QP:=Lib.hid hwp
  clear hlen hwp QP
  go_enter Tryz.func12,Tryz.ntmps12
  go_wp2_with fail
  refine (CO.out _ T0.out).mono ?_;rintro e w5 ⟨B,d,rfl,hW5,hb5⟩
  have HW5:=Lib.hid hW5
  have B5:=Lib.hid (B0.out.trans (hb5.mono B0.out.size))
  have HY5:=Lib.hid ((hb5.block _ gy).trans HY.out)
  have HZ5:=Lib.hid ((hb5.block _ gz).trans HZ.out)
  clear p0 p1 p2 p3 p4 p5 gp y0 y1 gy z0 z1 e0 e1 gz hW5 hb5 CO q0 q1 q2
  obtain ⟨⟨y0,y1⟩,-,gy⟩:=rowY HY5.out
  obtain ⟨⟨z0,z1⟩,⟨e0,e1⟩,gz⟩:=rowY HZ5.out
  by_cases hL:L.length=0
  · obtain rfl:L=[]:=List.eq_nil_of_length_eq_zero hL
    have hno:wayP p x y=none:=by rw[HWP.out];rfl
    have HZW:=Lib.hid (B5.out.setCell (p:=⟨w.heap.size+1+1,0,none⟩) (by simp only;omega) (.slice none 0 0))
    have he:er=10∨er=0:=by
      rcases HER.out with ⟨h,-⟩ | h
      · exact .inl h
      · exact .inr h
    clear HER
    rcases he with rfl | rfl
    all_goals (go_wp2_with fail)
    all_goals (refine bodyPost_ret (v:=.tuple #[.int .i64 0,.agg #[.slice none 0 0,.int .i64 0],.bool false]) ?_ rfl ⟨fun _=>⟨rfl,?_⟩,fun i v h=>by rw[hno] at h;cases h⟩)
    all_goals first
      | (simp [results,Tryz.results12,go_sem, *];done)
      | ((repeat (with_reducible refine Below.setCell ?_ (by simp only;omega) _));exact B5.out)
  obtain rfl:er=0:=by
    rcases HER.out with ⟨-,h⟩ | h
    · have h':L=[]:=h
      rw [h'] at hL
      exact absurd rfl hL
    · exact h
  have DL:((L.length:Int) == 0)=false:=by rw[beq_eq_false_iff_ne];omega
  obtain ⟨q4,hl⟩:=rest_len bz.1 hL
  have q3:IntKind.i64.wrap y=y:=IntWalk.i64_in _ (by omega)
  have q5:IntKind.i64.wrap ((y.toNat % L.length:Nat):Int)=((y.toNat % L.length:Nat):Int):=IntWalk.i64_in _ (by omega)
  have hyes:wayP p x y=(L[y.toNat % L.length]?).map fun v=>(j,v):=HWP.out
  rw [List.getElem?_eq_getElem hl] at hyes
  have HYES:=Lib.hid hyes
  clear hyes HWP HER
  generalize y.toNat % L.length=l at q4 q5 hl HYES
  obtain ⟨bW,oW,S1,u1,rfl,gW,c0,c1,R1,hcap⟩:=HW5.out.at (List.getElem?_eq_getElem hl)
  generalize L[l]=va at HYES c0 c1 R1 hcap
  have HR:=Lib.hid R1
  have HCAP:=Lib.hid hcap
  clear R1 hcap
  have FIN:=Lib.hid (show WayYes j va w (.returned (.tuple #[.int .i64 j,.agg #[.slice S1 va.steps.length u1,.int .i64 va.exit],.bool true])) ((w5.setCell ⟨w.heap.size+1+1,0,none⟩ (.slice S1 va.steps.length u1)).setCell ⟨w.heap.size+1+1,1,none⟩ (.int .i64 va.exit)).drew from
    ⟨S1,u1,rfl,((HR.out.set HZ5.out (by decide)).set (i:=1) (heap_setCell_same _ _ _ _ _ _ HZ5.out) (by decide)),HCAP.out,((B5.out.setCell (p:=⟨w.heap.size+1+1,0,none⟩) (by simp only;omega) _).setCell (p:=⟨w.heap.size+1+1,1,none⟩) (by simp only;omega) _).drew⟩)
  go_wp2_with fail
  go_region
  go_wp2_with fail
  refine bodyPost_ret ?_ rfl ⟨(fun h=>by rw[HYES.out] at h;cases h),(fun i v h=>by rw[HYES.out] at h;cases h;exact FIN.out)⟩
  simp [results,Tryz.results12,go_sem, *]
end Go.Proofs.YtpdfbnolhpakoaaGreat
