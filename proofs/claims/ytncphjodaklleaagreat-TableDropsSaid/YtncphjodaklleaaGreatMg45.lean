/-
 Texts of this claim, merged: TbLaw.
-/
import Derived.Test.YtncphjodaklleaaGreatMg27
import Derived.Test.YtncphjodaklleaaGreatMg44
namespace Go.Proofs.YtncphjodaklleaaGreat
open Go.RowKit
theorem madeP_named {l:List UInt8} {p:Pl.Plan} (h:madeP l=some p):Tb.Named p:=by
 obtain ⟨-,L,hL,-,e⟩:=madeP_some h
 rw [e]
 exact Tb.named_fin hL
namespace Tb
theorem name_len {x:Pl.Nm} (h:Fig.nameB x=true):x.length≤1000000:=by
 rw [Fig.nameB,Bool.and_eq_true,decide_eq_true_iff] at h
 omega
theorem few_small {r:Rt.Route} (h:Rt.Small r):Few r:=by
 obtain ⟨h1,h2,h3,h4,h5⟩:=h
 exact ⟨by omega,by omega,by omega,by omega,by omega⟩
theorem bar_len {L:List Rt.Route}:∀ x∈Cl.rows L,x.length≤L.length:=fun x hx=>by
 unfold Cl.rows at hx
 obtain ⟨i,-,rfl⟩:=List.mem_map.1 hx
 exact Cl.row_len L i
theorem make_ok {p:Pl.Plan} (h:(Rt.all p).2=0):make p=(⟨p.secs.map Pl.Sec.name,p.secs.map Pl.Sec.pt,p.sigs.map Pl.Sig.name,p.se,(Rt.all p).1,Cl.rows (Rt.all p).1⟩,0):=if_pos h
theorem make_bad {p:Pl.Plan} (h:(Rt.all p).2≠0):make p=(zero,(Rt.all p).2):=if_neg h
structure Tight (t:Table):Prop where
 names:t.names.length≤24
 points:t.points.length≤24
 sigs:t.sigs.length≤12
 routes:t.routes.length≤30
 name:∀ x∈t.names,x.length≤1000000
 sig:∀ x∈t.sigs,x.length≤1000000
 route:∀ r∈t.routes,Rt.Small r
 bar:∀ x∈t.bars,x.length≤30
 bars:t.bars.length≤30
theorem Tight.bound {t:Table} (h:Tight t):Bound t:=by
 obtain ⟨h1,h2,h3,h4,h5,h6,h7,h8,h9⟩:=h
 exact ⟨by omega,by omega,by omega,by omega,h5,h6,fun r hr=>few_small (h7 r hr),fun x hx=>by have:=h8 x hx;omega,by omega⟩
theorem zero_tight:Tight zero:=⟨by decide,by decide,by decide,by decide,fun _ h=>(by cases h),fun _ h=>(by cases h),fun _ h=>(by cases h),fun _ h=>(by cases h),by decide⟩
theorem make_tight {p:Pl.Plan} (hf:Pl.Fit p) (hn:Named p):Tight (make p).1:=by
 by_cases h:(Rt.all p).2=0
 ·rw [make_ok h]
  have h1:=hf.few
  have h2:=hf.gfew
  have h3:=Rt.all_len p
  refine ⟨by rw[List.length_map];exact h1,by rw[List.length_map];exact h1,by rw[List.length_map];exact h2,h3,?_,?_,Rt.all_small hf,fun x hx=>Nat.le_trans (bar_len x hx) h3,by rw[Cl.rows_len];exact h3⟩
  ·intro x hx
   obtain ⟨s,hs,rfl⟩:=List.mem_map.1 hx
   exact name_len (hn.secs s hs)
  ·intro x hx
   obtain ⟨s,hs,rfl⟩:=List.mem_map.1 hx
   exact name_len (hn.sigs s hs)
 ·rw [make_bad h]
  exact zero_tight
end Tb
end Go.Proofs.YtncphjodaklleaaGreat
