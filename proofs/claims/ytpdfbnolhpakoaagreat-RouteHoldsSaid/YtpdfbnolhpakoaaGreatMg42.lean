/-
  Texts of this claim, merged: RtLaw.
-/
import Derived.Test.YtpdfbnolhpakoaaGreatMg04
import Derived.Test.YtpdfbnolhpakoaaGreatMg41
namespace Go.Proofs.YtpdfbnolhpakoaaGreat
open Go.RowKit
theorem madeP_route {l:List UInt8} {p:Pl.Plan} (h:madeP l=some p):Pl.Fit p∧Lp.Meas p∧(0≤p.ap∧p.ap≤1125899906842624)∧(0≤p.ho∧p.ho≤1099511627776):=by
  obtain ⟨hf,L,hL,hS,e⟩:=madeP_some h
  refine ⟨hf,?_⟩
  rw [e]
  have h1:=Nr.ap_fin hL
  exact ⟨Lp.meas_fin hL hS,⟨h1.1,by omega⟩,Rt.ho_fin hL⟩
namespace Rt
def Small (r:Route):Prop:=r.steps.length≤1000∧r.lap.length≤1000∧r.pts.length≤1000∧r.fl.length≤1000∧r.near.length≤1000
theorem zero_small:Small zero:=⟨by decide,by decide,by decide,by decide,by decide⟩
theorem fill_small {p:Pl.Plan} (hf:Pl.Fit p) {i:Nat} {w:Cr.Way} (hw:w∈(Cr.of p i).1):Small (fill p i w (Lp.of p i w).1):=by
  have h1:=Cr.of_steps hw
  have h2:=Lp.of_steps (p:=p) (i:=i) (w:=w)
  have h3:=Fl.of_len p (w.steps++(Lp.of p i w).1)
  have h4:=Dm.ofSteps_len p (w.steps++(Lp.of p i w).1) (w.steps++(Lp.of p i w).1).length
  rw [List.take_length] at h4
  have h5:(w.steps++(Lp.of p i w).1).length=w.steps.length+(Lp.of p i w).1.length:=List.length_append
  have h6:=Nr.of_len hf (i:=(i:Int))
  refine ⟨?_,?_,?_,?_,?_⟩
  · show w.steps.length≤1000;omega
  · show (Lp.of p i w).1.length≤1000;omega
  · show (Fl.of p (w.steps++(Lp.of p i w).1)).pts.length≤1000;omega
  · show (Fl.of p (w.steps++(Lp.of p i w).1)).fl.length≤1000;omega
  · show ((Nr.of p i).1.map _).length≤1000;rw[List.length_map];omega
theorem of_small {p:Pl.Plan} (hf:Pl.Fit p) {i:Nat} {w:Cr.Way} (hw:w∈(Cr.of p i).1):Small (of p i w).1:=by
  by_cases h:(Lp.of p i w).2=0
  · rw[of_ok h];exact fill_small hf hw
  · rw[of_bad h];exact zero_small
theorem all_small {p:Pl.Plan} (hf:Pl.Fit p):∀ r∈(all p).1,Small r:=all_each fun _ _ _ hw _=>of_small hf hw
end Rt
end Go.Proofs.YtpdfbnolhpakoaaGreat
