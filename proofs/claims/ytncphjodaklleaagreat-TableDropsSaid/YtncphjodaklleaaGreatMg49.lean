/-
 Texts of this claim, merged: TableDropsWalk.
-/
import Derived.Test.YtncphjodaklleaaGreatMg04
import Derived.Test.YtncphjodaklleaaGreatMg26
import Derived.Test.YtncphjodaklleaaGreatMg27
import Derived.Test.YtncphjodaklleaaGreatMg46
import Derived.Test.YtncphjodaklleaaGreatMg47
set_option maxHeartbeats 16000000
set_option maxRecDepth 100000
namespace Go.Proofs.YtncphjodaklleaaGreat
open Lib (hid)
open Go.RowKit
namespace Tb
theorem ups_routes {t:Table}:ups (routeOk t) 0 t.routes.length=true ↔ (∀ r∈t.routes,fits t r=true)∧t.routes.Pairwise fun a b=>a.entry≤b.entry:=by
 rw [ups_iff]
 simp only [routeOk,Bool.and_eq_true,Bool.or_eq_true,decide_eq_true_iff]
 constructor
 ·intro h
  refine ⟨(all_at Rt.zero).2 fun i hi=>(h i (Nat.zero_le _) hi).1,List.pairwise_iff_getElem.2 fun i j hi hj hij=>?_⟩
  have go:∀ d i,i+d+1<t.routes.length→(t.routes.getD i Rt.zero).entry≤(t.routes.getD (i+d+1) Rt.zero).entry:=fun d=>by
   induction d with
   | zero =>
     intro i hi
     exact (h (i+0+1) (Nat.zero_le _) hi).2.elim (fun e=>by omega) id
   | succ d ih =>
     intro i hi
     refine Int.le_trans (ih i (by omega)) ?_
     have:=(h (i+(d+1)+1) (Nat.zero_le _) hi).2.elim (fun e=>by omega) id
     exact this
  have:=go (j - i - 1) i (by omega)
  rw [show i+(j - i - 1)+1=j from by omega,getD_at (List.getElem?_eq_getElem hi),getD_at (List.getElem?_eq_getElem hj)] at this
  exact this
 ·rintro ⟨h1,h2⟩ i - hi
  exact ⟨(all_at Rt.zero).1 h1 i hi,(Nat.eq_zero_or_pos i).imp id fun h0=>pair_at h2 Rt.zero i h0 hi⟩
theorem right_drop {t:Table} (h:right t=true) (k:Nat):right { t with routes:=t.routes.take k++t.routes.drop (k+1),bars:=Cl.rows (t.routes.take k++t.routes.drop (k+1)) } = true:=by
 rw [← List.eraseIdx_eq_take_drop_succ]
 have hs:=List.eraseIdx_sublist t.routes k
 have hl:=hs.length_le
 unfold right sizesOk at h ⊢
 rw [Bool.and_eq_true,Bool.and_eq_true,ups_routes] at h
 obtain ⟨⟨h1,h2,h3⟩,-⟩:=h
 rw [Bool.and_eq_true,Bool.and_eq_true,ups_routes]
 simp only [Bool.and_eq_true,decide_eq_true_iff,beq_iff_eq] at h1 ⊢
 obtain ⟨⟨⟨⟨⟨⟨⟨s1,s2⟩,s3⟩,s4⟩,n1⟩,n2⟩,e1⟩,e2⟩:=h1
 exact ⟨⟨⟨⟨⟨⟨⟨⟨⟨s1,s2⟩,s3⟩,by omega⟩,n1⟩,n2⟩,e1⟩,e2⟩,fun r hr=>h2 r (hs.mem hr),h3.sublist hs⟩,trivial⟩
theorem right_bars {t:Table} (h:right t=true):t.bars=Cl.rows t.routes:=by
 unfold right at h
 rw [Bool.and_eq_true,decide_eq_true_iff] at h
 exact h.2
theorem right_less {t:Table} (h:right t=true) {R:List Rt.Route} (hl:R.length≠t.routes.length):right { t with routes:=R } = false:=Bool.eq_false_iff.2 fun h'=>by
 have e:t.bars=Cl.rows R:=right_bars h'
 rw [right_bars h] at e
 have:=congrArg List.length e
 rw [Cl.rows_len,Cl.rows_len] at this
 omega
end Tb
theorem own_void (w:World) (t:TypeId) (size:Nat) {g base:Nat} (hg:w.heap.size=g) (hb:base≤g):(w.alloc (.cells #[] t)).ownsRow base t size (.slice (some ⟨g,0,none⟩) 0 0) 0 []:=by
 subst hg
 exact ⟨by simp,.inr ⟨w.heap.size,0,#[],rfl,hb,heap_alloc_new _ _,Nat.le_refl _,by unfold maxLen;omega,by simp,by simp⟩⟩
theorem tableDrops_walk (m:TableM) (a1:Int) (W:World) (h:TableIn W m) (hc:m.t.routes.length≤m.c4) (w1:(Lit.int .u8 a1).wf=true) :
 Calls Tryz.prog 6 #[tbV m,.int .u8 a1] W fun e w'=>e=.returned (.bool true)∧Below W.heap.size W w':=by
 --[
 have ha:=wf_u8 w1
 obtain ⟨A0,c0,A1,c1,A2,c2,A4,c4,A5,c5,t⟩:=m
 have XX:=(Below.refl W.heap.size W).alloc (Nat.le_refl _) (.cells #[.slice A0 t.names.length c0,.slice A1 t.points.length c1,.slice A2 t.sigs.length c2,.int .i64 t.settle,.slice A4 t.routes.length c4,.slice A5 t.bars.length c5] 34)
 have X:=hid XX
 have HI:=hid (h.below XX)
 have RP:=hid (heap_alloc_new W (.cells #[.slice A0 t.names.length c0,.slice A1 t.points.length c1,.slice A2 t.sigs.length c2,.int .i64 t.settle,.slice A4 t.routes.length c4,.slice A5 t.bars.length c5] 34))
 have CF:=hid (show Calls Tryz.prog 12 #[.agg #[.slice A0 t.names.length c0,.slice A1 t.points.length c1,.slice A2 t.sigs.length c2,.int .i64 t.settle,.slice A4 t.routes.length c4,.slice A5 t.bars.length c5]] (W.alloc (.cells #[.slice A0 t.names.length c0,.slice A1 t.points.length c1,.slice A2 t.sigs.length c2,.int .i64 t.settle,.slice A4 t.routes.length c4,.slice A5 t.bars.length c5] 34)) (FewIs t (W.alloc (.cells #[.slice A0 t.names.length c0,.slice A1 t.points.length c1,.slice A2 t.sigs.length c2,.int .i64 t.settle,.slice A4 t.routes.length c4,.slice A5 t.bars.length c5] 34))) from tbFew_any ⟨A0,c0,A1,c1,A2,c2,A4,c4,A5,c5,t⟩ _ HI.out)
 have AW:=hid tbAwake_any
 have HC:=hid (show t.routes.length≤c4 from hc)
 show Calls Tryz.prog 6 #[.agg #[.slice A0 t.names.length c0,.slice A1 t.points.length c1,.slice A2 t.sigs.length c2,.int .i64 t.settle,.slice A4 t.routes.length c4,.slice A5 t.bars.length c5],.int .u8 a1] W fun e w'=>e=.returned (.bool true)∧Below W.heap.size W w'
 clear h XX hc w1
 go_enter Tryz.func6,Tryz.ntmps6
 go_upto_region 1 with fail
 generalize W.alloc (.cells #[.slice A0 t.names.length c0,.slice A1 t.points.length c1,.slice A2 t.sigs.length c2,.int .i64 t.settle,.slice A4 t.routes.length c4,.slice A5 t.bars.length c5] 34)=w1 at X HI RP CF ⊢
 generalize W.heap.size=g at RP ⊢
 have gl:=(Array.getElem?_eq_some_iff.1 RP.out).1
 obtain ⟨⟨p0,p1,p2,p3,p4,p5⟩,-,gx⟩:=row6 RP.out
 go_wp2_with fail
 refine CF.out.mono ?_;rintro e w2 ⟨⟨z,rfl,hz⟩,hb2⟩
 have B2:=hid (X.out.trans (hb2.mono X.out.size))
 have R2:=hid ((hb2.block _ gl).trans RP.out)
 have I2:=hid (HI.out.below hb2)
 have HZ:=hid hz
 clear p0 p1 p2 p3 p4 p5 gx hb2 gl hz RP HI CF
 cases z with
 | false =>
   go_wp2_with fail
   refine (AW.out _).mono ?_;rintro e w8 ⟨rfl,hb8⟩
   go_wp2
   go_ret
   exact ⟨rfl,B2.out.trans (hb8.mono B2.out.size)⟩
 | true =>
   have HB:=hid (HZ.out rfl)
   obtain ⟨⟨p0,p1,p2,p3,p4,p5⟩,-,gx⟩:=row6 R2.out
   have C2:=hid (show Calls Tryz.prog 13 #[.agg #[.slice A0 t.names.length c0,.slice A1 t.points.length c1,.slice A2 t.sigs.length c2,.int .i64 t.settle,.slice A4 t.routes.length c4,.slice A5 t.bars.length c5]] w2 (OneIs (.bool (Tb.right t)) w2) from ptbRight_any ⟨A0,c0,A1,c1,A2,c2,A4,c4,A5,c5,t⟩ w2 I2.out HB.out)
   obtain ⟨z,hz⟩:∃ z,Tb.right t=z:=⟨_,rfl⟩
   rw [hz] at C2
   go_wp2_with fail
   refine C2.out.mono ?_;rintro e w3 ⟨rfl,hb3⟩
   have B3:=hid (B2.out.trans (hb3.mono B2.out.size))
   have R3:=hid ((hb3.block _ gx).trans R2.out)
   have I3:=hid (I2.out.below hb3)
   have HZ3:=hid hz
   clear p0 p1 p2 p3 p4 p5 gx hb3 hz R2 I2 C2 B2 HZ
   cases z with
   | false =>
     go_wp2_with fail
     refine (AW.out _).mono ?_;rintro e w8 ⟨rfl,hb8⟩
     go_wp2
     go_ret
     exact ⟨rfl,B3.out.trans (hb8.mono B3.out.size)⟩
   | true =>
     obtain ⟨⟨p0,p1,p2,p3,p4,p5⟩,-,gx⟩:=row6 R3.out
     by_cases hn:t.routes.length=0
     ·have E0:(((t.routes.length:Nat):Int) == 0)=true:=by rw[beq_iff_eq];omega
      clear hn ha
      go_wp2_with fail
      refine (AW.out _).mono ?_;rintro e w8 ⟨rfl,hb8⟩
      go_wp2
      go_ret
      exact ⟨rfl,B3.out.trans (hb8.mono B3.out.size)⟩
     ·have E0:(((t.routes.length:Nat):Int) == 0)=false:=by rw[beq_eq_false_iff_ne];omega
      have q0:IntKind.i64.wrap a1=a1:=IntWalk.i64_in _ (by omega)
      obtain ⟨k,hk,hkn⟩:∃ k:Nat,a1 % (t.routes.length:Int)=(k:Int)∧k<t.routes.length:=by
       have h1:=Int.emod_nonneg a1 (show (t.routes.length:Int)≠0 by omega)
       have h2:=Int.emod_lt_of_pos a1 (show (0:Int)<(t.routes.length:Int) by omega)
       exact ⟨(a1 % (t.routes.length:Int)).toNat,by omega,by omega⟩
      have HI3:=I3.out.p4
      obtain ⟨M,hM,hMR,hMP⟩:=HI3
      have hMl:M.length=t.routes.length:=by rw[← hM,List.length_map]
      obtain ⟨b,o,rfl,hbb,-⟩:=hMR.at (k:=k) (by omega)
      have HM:=hid (And.intro hM (And.intro hMl (And.intro hMR hMP)))
      go_upto_region 5 with fail
      rw [hk]
      have X4:=(Below.refl w3.heap.size w3).alloc (Nat.le_refl _) (.cells #[.slice A0 t.names.length c0,.slice A1 t.points.length c1,.slice A2 t.sigs.length c2,.int .i64 t.settle,.slice (some ⟨b,o,none⟩) t.routes.length c4,.slice A5 t.bars.length c5] 34)
      have R4:=hid (heap_alloc_new w3 (.cells #[.slice A0 t.names.length c0,.slice A1 t.points.length c1,.slice A2 t.sigs.length c2,.int .i64 t.settle,.slice (some ⟨b,o,none⟩) t.routes.length c4,.slice A5 t.bars.length c5] 34))
      have G4:=hid ((X4.block _ gx).trans R3.out)
      have Z4:=hid X4
      have hne:g≠w3.heap.size:=by omega
      clear p0 p1 p2 p3 p4 p5 X4 hMR hMP hM q0 ha hk hn E0
      generalize w3.alloc (.cells #[.slice A0 t.names.length c0,.slice A1 t.points.length c1,.slice A2 t.sigs.length c2,.int .i64 t.settle,.slice (some ⟨b,o,none⟩) t.routes.length c4,.slice A5 t.bars.length c5] 34)=w4 at R4 G4 Z4 ⊢
      obtain ⟨⟨p0,p1,p2,p3,p4,p5⟩,-,gx4⟩:=row6 G4.out
      have HG:=hid (And.intro gx hne)
      obtain ⟨g6,hg6⟩:∃ n,w3.heap.size=n:=⟨_,rfl⟩
      have E6:=hid hg6
      rw [hg6] at R4 hne ⊢
      have HS:=hid (show w4.cell? ⟨g,4,none⟩ = some (.slice (some ⟨b,o,none⟩) t.routes.length c4) from p4)
      have KS:=hid (fun W (hW:Below w4.heap.size w4 W)=>show W.cell? ⟨g,4,none⟩ = some (.slice (some ⟨b,o,none⟩) t.routes.length c4) from (hW.cell gx4).trans HS.out)
      have hc4:=HC.out
      have k0:(0:Int)≤(k:Int):=Int.natCast_nonneg k
      have k1:(k:Int)≤(c4:Int):=by omega
      have k2:(0:Int)≤(k:Int)+1:=by omega
      have k3:(k:Int)+1≤(t.routes.length:Int):=by omega
      have q1:IntKind.i64.wrap ((k:Int)+1)=(k:Int)+1:=IntWalk.i64_in _ (by have:=HB.out.routes;omega)
      have z4:¬ c4=0:=by omega
      clear p0 p1 p2 p3 p4 p5 gx4 gx hne hg6
      refine goesOn.region (S:=fun _ W=>W.cell? ⟨g,4,none⟩ = some (.slice (some ⟨b,o,none⟩) t.routes.length c4)) (by kernel_rfl) ?_
      (refine goesOn.take (i:=1) (v:=?_) [] rfl (by kernel_rfl) (by kernel_rfl) (by kernel_rfl) (fun _ _ _ h=>h) (by kernel_rfl) (by kernel_rfl) (fun _ _ h=>h) (Or.inl ⟨by rfl,?_⟩) (KS.out _ (Below.refl w4.heap.size w4).drew) ?_;rotate_left;(focus (intro W hW;have k4:W.cell? ⟨g,4,none⟩ = some (.slice (some ⟨b,o,none⟩) t.routes.length c4):=hW.elim fun _ h=>h.2;(try simp only [List.getElem_toArray,List.getElem_cons_succ,List.getElem_cons_zero]);go_simp;try with_reducible rfl));(try simp only [Act.put,List.getElem_toArray,List.getElem_cons_succ,List.getElem_cons_zero,List.setIfInBounds_toArray,List.set_cons_zero,List.set_cons_succ]))
      (refine goesOn.take (i:=2) (v:=?_) [] rfl (by kernel_rfl) (by kernel_rfl) (by kernel_rfl) (fun _ _ _ h=>h) (by kernel_rfl) (by kernel_rfl) (fun _ _ h=>h) (Or.inl ⟨by rfl,?_⟩) (KS.out _ (Below.refl w4.heap.size w4).drew) ?_;rotate_left;(focus (intro W hW;have k4:W.cell? ⟨g,4,none⟩ = some (.slice (some ⟨b,o,none⟩) t.routes.length c4):=hW.elim fun _ h=>h.2;(try simp only [List.getElem_toArray,List.getElem_cons_succ,List.getElem_cons_zero]);go_simp;try with_reducible rfl));(try simp only [Act.put,List.getElem_toArray,List.getElem_cons_succ,List.getElem_cons_zero,List.setIfInBounds_toArray,List.set_cons_zero,List.set_cons_succ]))
      (refine goesOn.take (i:=3) (v:=?_) [] rfl (by kernel_rfl) (by kernel_rfl) (by kernel_rfl) (fun _ _ _ h=>h) (by kernel_rfl) (by kernel_rfl) (fun _ _ h=>h) (Or.inl ⟨by rfl,?_⟩) (KS.out _ (Below.refl w4.heap.size w4).drew) ?_;rotate_left;(focus (intro W hW;have k4:W.cell? ⟨g,4,none⟩ = some (.slice (some ⟨b,o,none⟩) t.routes.length c4):=hW.elim fun _ h=>h.2;(try simp only [List.getElem_toArray,List.getElem_cons_succ,List.getElem_cons_zero]);go_simp;try with_reducible rfl));(try simp only [Act.put,List.getElem_toArray,List.getElem_cons_succ,List.getElem_cons_zero,List.setIfInBounds_toArray,List.set_cons_zero,List.set_cons_succ]))
      (refine goesOn.take (i:=4) (v:=?_) [] rfl (by kernel_rfl) (by kernel_rfl) (by kernel_rfl) (fun _ _ _ h=>h) (by kernel_rfl) (by kernel_rfl) (fun _ _ h=>h) (Or.inl ⟨by rfl,?_⟩) (KS.out _ (Below.refl w4.heap.size w4).drew) ?_;rotate_left;(focus (intro W hW;have k4:W.cell? ⟨g,4,none⟩ = some (.slice (some ⟨b,o,none⟩) t.routes.length c4):=hW.elim fun _ h=>h.2;(try simp only [List.getElem_toArray,List.getElem_cons_succ,List.getElem_cons_zero]);go_simp;try with_reducible rfl));(try simp only [Act.put,List.getElem_toArray,List.getElem_cons_succ,List.getElem_cons_zero,List.setIfInBounds_toArray,List.set_cons_zero,List.set_cons_succ]))
      (refine goesOn.take (i:=6) (v:=?_) [] rfl (by kernel_rfl) (by kernel_rfl) (by kernel_rfl) (fun _ _ _ h=>h) (by kernel_rfl) (by kernel_rfl) (fun _ _ h=>h) (Or.inl ⟨by rfl,?_⟩) (KS.out _ (Below.refl w4.heap.size w4).drew) ?_;rotate_left;(focus (intro W hW;have k4:W.cell? ⟨g,4,none⟩ = some (.slice (some ⟨b,o,none⟩) t.routes.length c4):=hW.elim fun _ h=>h.2;(try simp only [List.getElem_toArray,List.getElem_cons_succ,List.getElem_cons_zero]);go_simp;try with_reducible rfl));(try simp only [Act.put,List.getElem_toArray,List.getElem_cons_succ,List.getElem_cons_zero,List.setIfInBounds_toArray,List.set_cons_zero,List.set_cons_succ]))
      (refine goesOn.take (i:=7) (v:=?_) [] rfl (by kernel_rfl) (by kernel_rfl) (by kernel_rfl) (fun _ _ _ h=>h) (by kernel_rfl) (by kernel_rfl) (fun _ _ h=>h) (Or.inl ⟨by rfl,?_⟩) (KS.out _ (Below.refl w4.heap.size w4).drew) ?_;rotate_left;(focus (intro W hW;have k4:W.cell? ⟨g,4,none⟩ = some (.slice (some ⟨b,o,none⟩) t.routes.length c4):=hW.elim fun _ h=>h.2;(try simp only [List.getElem_toArray,List.getElem_cons_succ,List.getElem_cons_zero]);go_simp;try with_reducible rfl));(try simp only [Act.put,List.getElem_toArray,List.getElem_cons_succ,List.getElem_cons_zero,List.setIfInBounds_toArray,List.set_cons_zero,List.set_cons_succ]))
      (refine goesOn.take (i:=8) (v:=?_) [] rfl (by kernel_rfl) (by kernel_rfl) (by kernel_rfl) (fun _ _ _ h=>h) (by kernel_rfl) (by kernel_rfl) (fun _ _ h=>h) (Or.inl ⟨by rfl,?_⟩) (KS.out _ (Below.refl w4.heap.size w4).drew) ?_;rotate_left;(focus (intro W hW;have k4:W.cell? ⟨g,4,none⟩ = some (.slice (some ⟨b,o,none⟩) t.routes.length c4):=hW.elim fun _ h=>h.2;(try simp only [List.getElem_toArray,List.getElem_cons_succ,List.getElem_cons_zero]);go_simp;try with_reducible rfl));(try simp only [Act.put,List.getElem_toArray,List.getElem_cons_succ,List.getElem_cons_zero,List.setIfInBounds_toArray,List.set_cons_zero,List.set_cons_succ]))
      (refine goesOn.take (i:=9) (v:=?_) [] rfl (by kernel_rfl) (by kernel_rfl) (by kernel_rfl) (fun _ _ _ h=>h) (by kernel_rfl) (by kernel_rfl) (fun _ _ h=>h) (Or.inl ⟨by rfl,?_⟩) (KS.out _ (Below.refl w4.heap.size w4).drew) ?_;rotate_left;(focus (intro W hW;have k4:W.cell? ⟨g,4,none⟩ = some (.slice (some ⟨b,o,none⟩) t.routes.length c4):=hW.elim fun _ h=>h.2;(try simp only [List.getElem_toArray,List.getElem_cons_succ,List.getElem_cons_zero]);go_simp;try with_reducible rfl));(try simp only [Act.put,List.getElem_toArray,List.getElem_cons_succ,List.getElem_cons_zero,List.setIfInBounds_toArray,List.set_cons_zero,List.set_cons_succ]))
      (refine goesOn.take (i:=10) (v:=?_) [] rfl (by kernel_rfl) (by kernel_rfl) (by kernel_rfl) (fun _ _ _ h=>h) (by kernel_rfl) (by kernel_rfl) (fun _ _ h=>h) (Or.inl ⟨by rfl,?_⟩) (KS.out _ (Below.refl w4.heap.size w4).drew) ?_;rotate_left;(focus (intro W hW;have k4:W.cell? ⟨g,4,none⟩ = some (.slice (some ⟨b,o,none⟩) t.routes.length c4):=hW.elim fun _ h=>h.2;(try simp only [List.getElem_toArray,List.getElem_cons_succ,List.getElem_cons_zero]);go_simp;try with_reducible rfl));(try simp only [Act.put,List.getElem_toArray,List.getElem_cons_succ,List.getElem_cons_zero,List.setIfInBounds_toArray,List.set_cons_zero,List.set_cons_succ]))
      obtain ⟨i0',hi,hz0,hz1,hz2⟩:=info_parts infoRt3
      have OV:=hid (own_void w4.drew 66 9 rfl (Nat.le_refl w4.heap.size))
      have XV:=hid ((Below.refl w4.heap.size w4).drew.alloc (Nat.le_refl w4.heap.size) (.cells #[] 66))
      obtain ⟨A9,hA9,HR9⟩:∃ A9,(if c4=k+1 then (some ⟨b,o,none⟩:Option Addr) else some ⟨b,o+(k+1) * 9,none⟩)=A9∧Hid (∀ W,Below w4.heap.size w4 W→LRt.Row W A9 (M.drop (k+1))):=by
       have h:=HM.out.2.2.1.below rfl Z4.out
       by_cases e:c4=k+1
       ·exact ⟨_,rfl,hid fun W _=>.inl (List.drop_eq_nil_of_le (by omega))⟩
       ·rw[if_neg e];exact ⟨_,rfl,hid fun W hW=>Lies.Row.drop LRt (h.below rfl hW) (k+1)⟩
      have HR8:=hid (fun W (hW:Below w4.heap.size w4 W)=>Lies.Row.take LRt ((HM.out.2.2.1.below rfl Z4.out).below rfl hW) k)
      rw [hA9]
      clear hA9 k0 k1 k2 k3 q1 z4
      refine goesOn.each (rs:=[0]) (by kernel_rfl) (by simp) ?_
      refine EachOn.cons rfl (fun K hK=>?_) EachOn.nil
      ((try simp only [List.getElem_toArray,List.getElem_cons_zero]);go_simp)
      refine hK.out _ _ (KS.out _ XV.out) ?_
      clear hK K
      (try simp only [Act.put,List.getElem_toArray,List.getElem_cons_succ,List.getElem_cons_zero,List.setIfInBounds_toArray,List.set_cons_zero,List.set_cons_succ])
      refine goesOn.each (rs:=[5]) (by kernel_rfl) (by simp) ?_
      refine EachOn.cons rfl (fun K hK=>?_) EachOn.nil
      refine step_append_at LRt (by rfl) (.tmp 30) (.tmp 34) 31 (by rfl) w4.heap.size 66 i0' _ 152 Tryz.underlying31 hi hz0 hz1 hz2 rfl (.slice (some ⟨w4.heap.size,0,none⟩) 0 0) 0 [] (by rfl) (OV.out) (some ⟨b,o,none⟩) k c4 (M.take k) (by rfl) (by rw[List.length_take];omega) (HR8.out _ XV.out) (by have:=HB.out.routes;unfold maxLen;omega) (by have:=HB.out.routes;omega) XV.out.size ?_
      intro v5 w5 ho5 hg5
      have X5:=hid (XV.out.grown hg5 XV.out.size fun j hj=>(OV.out.lt j hj).1)
      have O5:=hid ho5
      clear ho5 hg5
      refine hK.out _ _ (KS.out _ X5.out) ?_
      clear hK K
      (try simp only [Act.put,List.getElem_toArray,List.getElem_cons_succ,List.getElem_cons_zero,List.setIfInBounds_toArray,List.set_cons_zero,List.set_cons_succ])
      refine goesOn.each (rs:=[11]) (by kernel_rfl) (by simp) ?_
      refine EachOn.cons rfl (fun K hK=>?_) EachOn.nil
      refine step_append_at LRt (by rfl) (.tmp 35) (.tmp 40) 31 (by rfl) w4.heap.size 66 i0' _ 152 Tryz.underlying31 hi hz0 hz1 hz2 rfl v5 (0+k) ([]++LRt.all (M.take k)) (by rfl) (O5.out) A9 (t.routes.length - (k+1)) (c4 - (k+1)) (M.drop (k+1)) (by rfl) (by rw[List.length_drop,hMl]) (HR9.out _ X5.out) (by have:=HB.out.routes;unfold maxLen;omega) (by have:=HB.out.routes;omega) X5.out.size ?_
      intro v6 w6 ho6 hg6
      have X6:=hid (X5.out.grown hg6 X5.out.size fun j hj=>(O5.out.lt j hj).1)
      have O6:=hid ho6
      clear ho6 hg6
      refine hK.out _ _ (KS.out _ X6.out) ?_
      clear hK K
      (try simp only [Act.put,List.getElem_toArray,List.getElem_cons_succ,List.getElem_cons_zero,List.setIfInBounds_toArray,List.set_cons_zero,List.set_cons_succ])
      obtain ⟨R',hR'⟩:∃ R',t.routes.take k++t.routes.drop (k+1)=R':=⟨_,rfl⟩
      obtain ⟨A8,c8,rfl,HO⟩:∃ A8 c8,v6=.slice A8 R'.length c8∧Hid (w6.ownsRow w4.heap.size 66 LRt.m (.slice A8 R'.length c8) R'.length (LRt.all (M.take k++M.drop (k+1)))):=by
       have hn:0+k+(t.routes.length - (k+1))=R'.length:=by rw[← hR',List.length_append,List.length_take,List.length_drop];omega
       have ho:=O6.out
       rw [hn,List.nil_append,← LRt.all_append] at ho
       obtain ⟨-,A8,c8,rfl,-,-⟩:=Lies.Row.of_own ho
       exact ⟨A8,c8,rfl,hid ho⟩
      have hR6:=(X6.out.block g6 (Array.getElem?_eq_some_iff.1 R4.out).1).trans R4.out
      obtain ⟨⟨p0,p1,p2,p3,p4,p5⟩,⟨f0,f1,f2,f3,f4,f5⟩,gx6⟩:=row6 hR6
      (refine goesOn.take (i:=12) (v:=?_) [] rfl (by kernel_rfl) (by kernel_rfl) (by kernel_rfl) (fun _ _ _ h=>h) (by kernel_rfl) (by kernel_rfl) (fun _ _ h=>h) (Or.inl ⟨by rfl,?_⟩) (KS.out _ X6.out) ?_;rotate_left;(focus (intro W hW;(try simp only [List.getElem_toArray,List.getElem_cons_succ,List.getElem_cons_zero]);go_simp;try with_reducible rfl));(try simp only [Act.put,List.getElem_toArray,List.getElem_cons_succ,List.getElem_cons_zero,List.setIfInBounds_toArray,List.set_cons_zero,List.set_cons_succ]))
      refine goesOn.each (rs:=[13]) (by kernel_rfl) (by simp) ?_
      refine EachOn.cons rfl (fun K hK=>?_) EachOn.nil
      ((try simp only [List.getElem_toArray,List.getElem_cons_succ,List.getElem_cons_zero]);go_simp)
      have S4:=Z4.out.size
      have gg6:g6<w4.heap.size:=(Array.getElem?_eq_some_iff.1 R4.out).1
      have R7:=hid (show (w6.setCell ⟨g6,4,none⟩ (.slice A8 R'.length c8)).heap[g6]? = some (.cells #[.slice A0 t.names.length c0,.slice A1 t.points.length c1,.slice A2 t.sigs.length c2,.int .i64 t.settle,.slice A8 R'.length c8,.slice A5 t.bars.length c5] 34) from heap_setCell_same w6 g6 4 _ _ _ hR6)
      have X7:=hid ((Z4.out.trans (X6.out.mono Z4.out.size)).setCell (p:=⟨g6,4,none⟩) (Nat.le_of_eq E6.out) (.slice A8 R'.length c8))
      have I7:Hid (RoutesIn (w6.setCell ⟨g6,4,none⟩ (.slice A8 R'.length c8)) A8 R'):=by
       have ho:=own_kept HO.out (w':=w6.setCell ⟨g6,4,none⟩ (.slice A8 R'.length c8)) fun b hb=>heap_setCell_other _ _ _ _ fun e=>by
        have:=(HO.out.lt b hb).1
        simp only at e
        omega
       obtain ⟨-,A,c,e,-,hrow⟩:=Lies.Row.of_own ho
       cases e
       refine hid ⟨M.take k++M.drop (k+1),by rw[List.map_append,List.map_take,List.map_drop,HM.out.1,hR'],hrow,fun m hm=>?_⟩
       have hmM:m∈M:=(List.mem_append.1 hm).elim List.mem_of_mem_take List.mem_of_mem_drop
       exact (HM.out.2.2.2 m hmM).below X7.out
      have KS7:=hid (show (w6.setCell ⟨g6,4,none⟩ (.slice A8 R'.length c8)).cell? ⟨g,4,none⟩ = some (.slice (some ⟨b,o,none⟩) t.routes.length c4) from (World.cell?_of_block (heap_setCell_other _ _ _ _ (by have:=HG.out.2;rw[E6.out] at this;exact this))).trans (KS.out _ X6.out))
      refine hK.out _ _ KS7.out ?_
      clear hK K p0 p1 p2 p3 p4 p5 f0 f1 f2 f3 f4 f5 gx6 hR6 KS KS7 O6 O5 OV HO X5 XV HR8 HR9 X6 hi hz0 hz1 hz2 S4 gg6
      (try simp only [Act.put,List.getElem_toArray,List.getElem_cons_succ,List.getElem_cons_zero,List.setIfInBounds_toArray,List.set_cons_zero,List.set_cons_succ])
      refine goesOn.done (by kernel_rfl) ?_ _
      generalize w6.setCell ⟨g6,4,none⟩ (.slice A8 R'.length c8)=w7 at R7 X7 I7 ⊢
      have B7:=hid (B3.out.trans (X7.out.mono B3.out.size))
      have HI7:=hid (show TableIn w7 ⟨A0,c0,A1,c1,A2,c2,A8,c8,A5,c5,⟨t.names,t.points,t.sigs,t.settle,R',t.bars⟩⟩ from ⟨I3.out.p0.below rfl X7.out,I3.out.p1.below rfl X7.out,I3.out.p2.below rfl X7.out,I7.out,I3.out.p5.below X7.out⟩)
      obtain ⟨⟨p0,p1,p2,p3,p4,p5⟩,-,gx7⟩:=row6 R7.out
      have X8:=(Below.refl w7.heap.size w7).alloc (Nat.le_refl _) (.cells #[.slice A0 t.names.length c0,.slice A1 t.points.length c1,.slice A2 t.sigs.length c2,.int .i64 t.settle,.slice A8 R'.length c8,.slice A5 t.bars.length c5] 34)
      have R8:=hid (heap_alloc_new w7 (.cells #[.slice A0 t.names.length c0,.slice A1 t.points.length c1,.slice A2 t.sigs.length c2,.int .i64 t.settle,.slice A8 R'.length c8,.slice A5 t.bars.length c5] 34))
      have U8:=hid ((X8.block _ gx7).trans R7.out)
      have Z8:=hid X8
      clear X8 R7 I3
      go_upto_region 7 with fail
      generalize w7.alloc (.cells #[.slice A0 t.names.length c0,.slice A1 t.points.length c1,.slice A2 t.sigs.length c2,.int .i64 t.settle,.slice A8 R'.length c8,.slice A5 t.bars.length c5] 34)=w8 at R8 U8 Z8 ⊢
      obtain ⟨g7,hg7⟩:∃ n,w7.heap.size=n:=⟨_,rfl⟩
      have E7:=hid hg7
      rw [hg7] at R8 ⊢
      have hlen:R'.length≤1000000∧R'.length≠t.routes.length:=by
       have:=HB.out.routes
       have e:=congrArg List.length hR'
       rw [List.length_append,List.length_take,List.length_drop] at e
       omega
      have hfew:∀ r∈R',Tb.Few r:=fun r hr=>by
       rw [← hR'] at hr
       exact HB.out.route r ((List.mem_append.1 hr).elim List.mem_of_mem_take List.mem_of_mem_drop)
      have CM:=hid (rxMatrix_new A8 c8 R' w8 (I7.out.below Z8.out) (fun r hr=>(hfew r hr).tiny) hlen.1)
      obtain ⟨⟨p0,p1,p2,p3,p4,p5⟩,-,gu8⟩:=row6 U8.out
      have GU:=hid gu8
      have G8:=hid (row6 R8.out).2.2
      have hne:g6≠g7:=by omega
      clear I7 gx7 hg7 gu8
      go_wp2_with fail
      refine CM.out.mono ?_;rintro e w9 ⟨BM,dM,rfl,hS,hb9⟩
      have R9:=(hb9.block g7 G8.out).trans R8.out
      have U9:=(hb9.block g6 GU.out).trans U8.out
      have R10:=hid (show (w9.setCell ⟨g7,5,none⟩ (.slice BM (Cl.rows R').length dM)).heap[g7]? = some (.cells #[.slice A0 t.names.length c0,.slice A1 t.points.length c1,.slice A2 t.sigs.length c2,.int .i64 t.settle,.slice A8 R'.length c8,.slice BM (Cl.rows R').length dM] 34) from heap_setCell_same w9 g7 5 _ _ _ R9)
      have U10:=hid (show (w9.setCell ⟨g7,5,none⟩ (.slice BM (Cl.rows R').length dM)).heap[g6]? = some (.cells #[.slice A0 t.names.length c0,.slice A1 t.points.length c1,.slice A2 t.sigs.length c2,.int .i64 t.settle,.slice A8 R'.length c8,.slice A5 t.bars.length c5] 34) from (heap_setCell_other _ _ _ _ hne).trans U9)
      have X10:=hid ((Z8.out.trans (hb9.mono Z8.out.size)).setCell (p:=⟨g7,5,none⟩) (Nat.le_of_eq E7.out) (.slice BM (Cl.rows R').length dM))
      have S10:=hid (((TbBut.refl g7 w9).setCell 5 (.slice BM (Cl.rows R').length dM)).sets (hS.apart (k:=some g7) fun j hj=>by cases hj;exact G8.out)).in_
      obtain ⟨⟨p0,p1,p2,p3,p4,p5⟩,⟨f0,f1,f2,f3,f4,f5⟩,gx9⟩:=row6 R9
      clear hS hb9 U9 R9 CM GU G8 U8 R8 Z8 hne
      go_upto_region 8 with fail
      generalize w9.setCell ⟨g7,5,none⟩ (.slice BM (Cl.rows R').length dM)=wA at R10 U10 X10 S10 ⊢
      have hb:Tb.right { t with routes:=R' } = false:=Tb.right_less HZ3.out hlen.2
      have hv:Tb.right { t with routes:=R',bars:=Cl.rows R' } = true:=by rw[← hR'];exact Tb.right_drop HZ3.out k
      have C1:=hid (OneIs.keep (w0:=wA) fun W hW=>show Calls Tryz.prog 8 #[] W (OneIs (.bool true) W) from AW.out W)
      have C2:=hid (OneIs.keep (w0:=wA) fun W hW=>show Calls Tryz.prog 13 #[.agg #[.slice A0 t.names.length c0,.slice A1 t.points.length c1,.slice A2 t.sigs.length c2,.int .i64 t.settle,.slice A8 R'.length c8,.slice A5 t.bars.length c5]] W (OneIs (.bool false) W) from by
       have:=ptbRight_any ⟨A0,c0,A1,c1,A2,c2,A8,c8,A5,c5,{ t with routes:=R' }⟩ W ((HI7.out.below X10.out).below hW) ⟨HB.out.1,HB.out.2,HB.out.3,hlen.1,HB.out.5,HB.out.6,hfew,HB.out.8,HB.out.9⟩
       rw [hb] at this
       exact this)
      have C3:=hid (OneIs.keep (w0:=wA) fun W hW=>show Calls Tryz.prog 13 #[.agg #[.slice A0 t.names.length c0,.slice A1 t.points.length c1,.slice A2 t.sigs.length c2,.int .i64 t.settle,.slice A8 R'.length c8,.slice BM (Cl.rows R').length dM]] W (OneIs (.bool true) W) from by
       have:=ptbRight_any ⟨A0,c0,A1,c1,A2,c2,A8,c8,BM,dM,{ t with routes:=R',bars:=Cl.rows R' }⟩ W (TableIn.below ⟨(HI7.out.p0.below rfl X10.out),(HI7.out.p1.below rfl X10.out),(HI7.out.p2.below rfl X10.out),(HI7.out.p4.below X10.out),S10.out⟩ hW) ⟨HB.out.1,HB.out.2,HB.out.3,hlen.1,HB.out.5,HB.out.6,hfew,(fun x hx=>Nat.le_trans (Tb.bar_len x hx) hlen.1),by rw[Cl.rows_len];exact hlen.1⟩
       rw [hv] at this
       exact this)
      have KB:=hid (fun W (hW:Below wA.heap.size wA W)=>And.intro (row6 ((hW.block _ (row6 U10.out).2.2).trans U10.out)).1 (row6 ((hW.block _ (row6 R10.out).2.2).trans R10.out)).1)
      have BX:=hid (B7.out.trans (X10.out.mono B7.out.size))
      clear hb hv p0 p1 p2 p3 p4 p5 hlen hfew S10 R10 U10 X10 HI7 AW HB HZ3
      refine region_straight (fun W=>Below wA.heap.size wA W) (Below.refl _ _) ?_
      repeat (first
       | (refine InText.dead ?_ ?_;(focus rfl);(try simp only [Act.put,List.setIfInBounds_toArray,List.set_cons_zero,List.set_cons_succ]))
       | (refine InText.val (v:=?_) ?_ ?_ ?_;rotate_left;(focus rfl);(focus (intro W hW;first | (go_simp;(try with_reducible rfl);done) | (obtain ⟨⟨p0,p1,p2,p3,p4,p5⟩,q0,q1,q2,q3,q4,q5⟩:=KB.out W hW;go_simp;(try with_reducible rfl);done)));(try simp only [Act.put,List.setIfInBounds_toArray,List.set_cons_zero,List.set_cons_succ]))
       | (refine InText.call (v:=?_) (f:=?_) (args:=?_) ?_ ?_ ?_ ?_;rotate_left 3;(focus rfl);(focus (intro W hW;go_simp;constructor;with_reducible rfl;with_reducible rfl));(focus (first | with_reducible exact C1.out | with_reducible exact C2.out | with_reducible exact C3.out));(try simp only [Act.put,List.setIfInBounds_toArray,List.set_cons_zero,List.set_cons_succ])))
      refine InText.end_ fun w4 hb4=>?_
      have F8:=hid (BX.out.trans (hb4.mono BX.out.size))
      clear hb4
      go_wp2_with fail
      go_ret
      exact ⟨rfl,F8.out⟩
 --]
end Go.Proofs.YtncphjodaklleaaGreat
