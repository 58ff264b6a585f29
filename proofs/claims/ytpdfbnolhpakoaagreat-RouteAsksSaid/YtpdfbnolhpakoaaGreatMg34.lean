/-
  Texts of this claim, merged: LpLen.
-/
import Derived.Test.YtpdfbnolhpakoaaGreatMg33
namespace Go.Proofs.YtpdfbnolhpakoaaGreat
open Go.RowKit
theorem Lp.len_take {p:Pl.Plan} {L:List Wk.Stp} {k:Nat} {y:Wk.Stp} (h:L[k]? = some y):Lp.len p (L.take (k+1))=Lp.len p (L.take k)+Lp.secLen p y.s:=by
  rw [List.take_add_one,h]
  exact Lp.len_snoc p _ y
end Go.Proofs.YtpdfbnolhpakoaaGreat
